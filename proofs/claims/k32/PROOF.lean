import PyProof.Rows.All
import Wide.All
import OpenK.AllK
import Wide.FinOn
import Lean
import PyProof.EqAt
import PyProof.EqKinds
import PyProof.TupleCall
import PyProof.NeData
import KE.KTryMore
import PyProof.ExcBaseAll.ValueError
import PyProof.ExcArgsOwn
import KE.KIntText
import PyProof.Rows.SetFrom
import PyProof.SetRoads
import PyProof.StrWalks
import PyProof.ListStr
import PyProof.Rows.StrSplitCount
import PyProof.MeetsStr
import PyProof.MeetsStr2
import PyProof.StrOps2
import KE.KTryOn
import OpenK.KMake
import PyProof.ReprRoads
import PyProof.ReprLen
import PyProof.StrLawsRepr
import PyProof.CallFns
import KE.KSortTup
import PyProof.StrCalls6
import PyProof.MeetsStr3
import PyProof.CollectIter
import PySem.Challenge.RW_countgen_k32_picks_and_uses_counted
set_option compiler.extract_closed false
set_option Elab.async false
set_option linter.all false
set_option maxRecDepth 100000
namespace L2
open PySem PySem.Spec PyProof.Rows
abbrev Key:=Sum Int Str
def VD:Key→Value→Bool
 | .inl k,v=>Value.isInt k v
 | .inr x,v=>Value.isStrOf x v
def keyH (w:World):Key→Int
 | .inl k=>hashInt k
 | .inr x=>hashStr w x
theorem Xf:∀ {k:Key} {v:Value},VD k v=true→(∃ i t,k=Sum.inl i∧v=Value.int i t)∨(∃ x t,k=Sum.inr x∧v=Value.str x t)
 | .inl i,v,h=>by
  obtain ⟨t,e⟩:=Value.isInt_shape (k:=i) (v:=v) h
  exact .inl ⟨i,t,rfl,e⟩
 | .inr x,v,h=>by
  obtain ⟨t,e⟩:=Value.isStrOf_shape (x:=x) (v:=v) h
  exact .inr ⟨x,t,rfl,e⟩
theorem Ybe (i:Int) (t:Tok):VD (.inl i) (.int i t)=true:=by simp [VD,Value.isInt]
theorem Ybf (x:Str) (t:Tok):VD (.inr x) (.str x t)=true:=by simp [VD,Value.isStrOf]
theorem YdJ (a b:Int):decide ((Sum.inl a:Key)=Sum.inl b)=(a==b):=by
 by_cases e:a=b
 ·subst e;simp
 ·have h:¬ (Sum.inl a:Key)=Sum.inl b:=fun q=>e (Sum.inl.inj q)
  rw [decide_eq_false h]
  exact (beq_eq_false_iff_ne.mpr e).symm
theorem YdK (a b:Str):decide ((Sum.inr a:Key)=Sum.inr b)=decide (a=b):=by
 by_cases e:a=b
 ·subst e;simp
 ·have h:¬ (Sum.inr a:Key)=Sum.inr b:=fun q=>e (Sum.inr.inj q)
  rw [decide_eq_false h,decide_eq_false e]
theorem YdL (a:Int) (b:Str):decide ((Sum.inl a:Key)=Sum.inr b)=false:=decide_eq_false (fun q=>nomatch q)
theorem YdM (a:Str) (b:Int):decide ((Sum.inr a:Key)=Sum.inl b)=false:=decide_eq_false (fun q=>nomatch q)
def YY (prog:Program) (w:World):PySem.KeyKind prog w Key where
 is:=VD
 hash:=keyH w
 inj:=fun v a b ha hb=>by
  rcases Xf ha with ⟨i,t,rfl,rfl⟩ | ⟨x,t,rfl,rfl⟩
  ·rcases Xf hb with ⟨j,u,rfl,e⟩ | ⟨y,u,rfl,e⟩
   ·injection e with e1 _;rw [e1]
   ·exact nomatch e
  ·rcases Xf hb with ⟨j,u,rfl,e⟩ | ⟨y,u,rfl,e⟩
   ·exact nomatch e
   ·injection e with e1 _;rw [e1]
 byValue:=fun k v h=>by
  rcases Xf h with ⟨i,t,rfl,rfl⟩ | ⟨x,t,rfl,rfl⟩<;>rfl
 pyHash:=fun hv h=>by
  rcases Xf hv with ⟨i,t,rfl,rfl⟩ | ⟨x,t,rfl,rfl⟩
  ·exact wpAny_pyHash_int h
  ·exact wpAny_pyHash_str h
 eqBool:=fun hu hv h=>by
  rcases Xf hu with ⟨i,t,rfl,rfl⟩ | ⟨x,t,rfl,rfl⟩
  ·rcases Xf hv with ⟨j,u,rfl,rfl⟩ | ⟨y,u,rfl,rfl⟩
   ·rw [YdJ] at h;exact wpAny_eqBool_int h
   ·rw [YdL] at h;exact SeqAt.EqAt.int_str i t y u _ _ _ _ h
  ·rcases Xf hv with ⟨j,u,rfl,rfl⟩ | ⟨y,u,rfl,rfl⟩
   ·rw [YdM] at h;exact SeqAt.EqAt.str_int x t j u _ _ _ _ h
   ·rw [YdK] at h;exact wpAny_eqBool_str h
 «strs»:=fun k x t v h=>by
  rcases Xf h with ⟨i,u,rfl,e⟩ | ⟨y,u,rfl,e⟩
  ·exact nomatch e
  ·injection e with e1 _
   subst e1
   cases v<;>rfl
theorem QU (prog:Program) (w:World) (i:Int) (t:Tok):(YY prog w).is (.inl i) (.int i t)=true:=Ybe i t
theorem QV (prog:Program) (w:World) (x:Str) (t:Tok):(YY prog w).is (.inr x) (.str x t)=true:=Ybf x t
end L2
namespace L2
open PySem PySem.Spec PyProof.Rows
inductive V where
 | non | bl (b:Bool) | int (i:Int) | str (x:Str) | byt (b:Array UInt8) | flt (b:UInt64) | ref (a:Addr) | ty (n:String)
 deriving DecidableEq
def Yr:V→Value→Prop
 | .non,u=>u=Value.none
 | .bl b,u=>u=Value.bool b
 | .int i,u=>∃ t,u=Value.int i t
 | .str x,u=>∃ t,u=Value.str x t
 | .byt b,u=>∃ t,u=Value.bytes b t
 | .flt b,u=>∃ t,u=Value.float b t
 | .ref a,u=>u=Value.ref a
 | .ty n,u=>u=Value.type n
abbrev Ym:List V→List Value→Prop:=Paired Yr
theorem Ym.length {xs:List V} {us:List Value} (r:Ym xs us):xs.length=us.length:=Paired.length r
theorem Ym.get:∀ {xs:List V} {us:List Value} {i:Nat} {x:V},Ym xs us→xs[i]?=some x→∃ u,us[i]?=some u∧Yr x u
 | _,_,_,_,.nil,e=>by simp at e
 | _,_,0,_,.cons r _,e=>by simp at e;subst e;exact ⟨_,rfl,r⟩
 | _,_,i+1,x,.cons _ t,e=>by
  obtain ⟨u,h1,h2⟩:=Ym.get (i:=i) (x:=x) t (by simpa using e)
  exact ⟨u,by simpa using h1,h2⟩
theorem Ym.append:∀ {xs ys:List V} {us ws:List Value},Ym xs us→Ym ys ws→Ym (xs++ys) (us++ws)
 | _,_,_,_,.nil,s=>s
 | _,_,_,_,.cons r t,s => .cons r (Ym.append t s)
theorem Ym.take:∀ {xs:List V} {us:List Value} (n:Nat),Ym xs us→Ym (xs.take n) (us.take n)
 | _,_,0,_ => .nil
 | _,_,_+1,.nil => .nil
 | _,_,n+1,.cons r t => .cons r (Ym.take n t)
theorem Ym.drop:∀ {xs:List V} {us:List Value} (n:Nat),Ym xs us→Ym (xs.drop n) (us.drop n)
 | _,_,0,r=>r
 | _,_,_+1,.nil => .nil
 | _,_,n+1,.cons _ t=>Ym.drop n t
theorem Ym.none_of:∀ {xs:List V} {us:List Value} {i:Nat},Ym xs us→xs[i]?=none→us[i]?=none:=fun {xs us i} r e=>by
 have h1:=r.length
 have h2:xs.length≤i:=List.getElem?_eq_none_iff.mp e
 exact List.getElem?_eq_none_iff.mpr (by omega)
def XR:Option V→Option Value→Prop
 | some v,some u=>Yr v u
 | none,none=>True
 | _,_=>False
def KV {κ:Type}:List (κ×V)→List (κ×Value)→Prop:=Paired fun (p:κ×V) (q:κ×Value)=>p.1=q.1∧Yr p.2 q.2
def kV:Key→V
 | .inl i => .int i
 | .inr x => .str x
inductive HO where
 /-- a list -/
 | lst (xs:List V)
 /-- a tuple (never changes) -/
 | tup (xs:List V)
 /-- a dict whose keys are ints and texts;one whose keys are tuples of ints and texts (the empty one is both) -/
 | dK (kvs:List (Key×V)) | dT (kvs:List (List Key×V))
 /-- a set of ints: its members,its size -/
 | set (S:Int→Bool) (n:Nat)
 /-- an instance of the class at C,its dict at dx,its attributes -/
 | ins (C dx:Addr) (fs:List (Str×V))
 /-- the dict of the instance at x -/
 | own (x:Addr)
 /-- the dict of an exception -/
 | xd (fs:List (Str×V))
 /-- a bound method,f of x -/
 | met (f x:Addr)
 /-- a range object lo,lo+1,.. below hi -/
 | rng (lo hi:Int)
 /-- a thing that is known to the object (the script;a dict while a loop walks it): read,never written while it is so -/
 | frz (o:Obj) (u:HO)
 /-- a code object's table -/
 | tbl (ps:Array Value)
 /-- any other thing,by what is true of its one object (a def of one's own: SetO a S n:=HO.ext fun h => ..) -/
 | ext (φ:Heap→Prop)
abbrev Hp:=Addr→Option HO
def upd (H:Hp) (a:Addr) (o:HO):Hp:=fun b=>if b=a then some o else H b
theorem Yc {H:Hp} {a:Addr} {o:HO}:upd H a o a=some o:=by unfold upd;rw [if_pos rfl]
theorem Yb {H:Hp} {a b:Addr} {o:HO} (h:b≠a):upd H a o b=H b:=by unfold upd;rw [if_neg h]
theorem Y3 {H:Hp} {a b:Addr} {o u:HO} (h:H a=some o) (h':H b=some u) (d:o≠u):a≠b:=by
 intro e;subst e;rw [h] at h';exact d (Option.some.inj h')
theorem Yh {H:Hp} {a b:Addr} {o:HO} (h:H a=some o) (h':H b=none):a≠b:=by
 intro e;subst e;rw [h] at h';cases h'
section
variable (P:Program) (w:World)
def YG (H:Hp) (h:Heap) (a:Addr):HO→Prop
 | .lst xs=>xs.length≤sizeLine∧∃ (its:List Value) (n:Nat),Ym xs its∧h.get? a=some { cls := .type "list",data := .seq its.toArray n }
 | .tup xs=>xs.length≤sizeLine∧∃ its:List Value,Ym xs its∧IsTup h a its.toArray
 | .dK kvs=>kvs.length≤sizeLine∧(a==sysModules)=false∧∃ vs,KV kvs vs∧h.DictOf (YY P w) a vs
 | .dT kvs=>kvs.length≤sizeLine∧(a==sysModules)=false∧∃ xs:List (List Key×Addr×Value),
   Paired (fun (p:List Key×V) (q:List Key×Addr×Value)=>p.1=q.1∧H q.2.1=some (.tup (p.1.map kV))∧Yr p.2 q.2.2) kvs xs ∧
   ∃ o es ep,h.get? a=some o∧o.ExactDict∧o.data = .dict es ep∧es.toList=xs.map (entryOfKey (tupleKind (YY P w)))∧(xs.map (·.1)).Nodup
 | .set S n=>h.SetOf (intKind P w) a S n
 | .ins C dx fs=>H dx=some (.own a)∧fs.length≤1000∧dx≠a∧h.get? a=some (PySem.W.instObj C dx) ∧
   ∃ mA,h.Ns1 dx mA∧(∀ f,XR (fs.lookup f) (mA f))∧PySem.Within mA (fs.map (·.1))
 | .own _=>∃ o,h.get? a=some o
 | .xd fs=>∃ mA,h.Ns1 a mA∧∀ f,XR (fs.lookup f) (mA f)
 | .rng lo hi=>∃ t u v,h.get? a=some { cls := .type "range",data := .fields #[.int lo t,.int hi u,.int 1 v] }
 | .frz o u=>h.get? a=some o∧YG H h a u
 | .tbl ps=>h.get? a=some { cls := .none,data := .fields ps }
 | .met f x=>h.get? a=some (PySem.W.methodObj (.ref f) (.ref x))
 | .ext φ=>φ h∧(∃ o,h.get? a=some o)∧∀ h1 h2:Heap,φ h1→(∀ o,h1.get? a=some o→h2.get? a=some o)→φ h2
def HOk (H:Hp) (h:Heap):Prop:=∀ a o,H a=some o→YG P w H h a o
end
section
variable {P:Program} {w:World} {H H':Hp} {h h':Heap} {a:Addr} {o:HO}
theorem YG.lt (x:YG P w H h a o):a<h.objs.size:=by
 cases o with
 | lst xs=>obtain ⟨_,_,_,_,e⟩:=x;exact Heap.lt_size e
 | tup xs=>obtain ⟨_,_,_,p⟩:=x;exact p.lt
 | dK kvs=>obtain ⟨_,_,_,_,o,_,_,e,_⟩:=x;exact Heap.lt_size e
 | dT kvs=>obtain ⟨_,_,_,_,o,_,_,e,_⟩:=x;exact Heap.lt_size e
 | set S n=>obtain ⟨o,_,_,_,e,_⟩:=x;exact Heap.lt_size e
 | ins C dx fs=>obtain ⟨_,_,_,e,_⟩:=x;exact Heap.lt_size e
 | own y=>obtain ⟨_,e⟩:=x;exact Heap.lt_size e
 | xd fs=>obtain ⟨_,⟨_,_,_,e,_⟩,_⟩:=x;exact Heap.lt_size e
 | rng lo hi=>obtain ⟨_,_,_,e⟩:=x;exact Heap.lt_size e
 | frz ob u=>obtain ⟨e,_⟩:=x;exact Heap.lt_size e
 | tbl ps=>exact Heap.lt_size (show h.get? a=some _ from x)
 | met f y=>exact Heap.lt_size (show h.get? a=some _ from x)
 | ext φ=>obtain ⟨_,⟨_,e⟩,_⟩:=x;exact Heap.lt_size e
theorem Paired.mapP {α β:Type} {F G:α→β→Prop}:∀ {l₁:List α} {l₂:List β},Paired F l₁ l₂→(∀ a b,F a b→G a b)→Paired G l₁ l₂
 | _,_,.nil,_ => .nil
 | _,_,.cons r t,f => .cons (f _ _ r) (Paired.mapP t f)
theorem YG.stay (x:YG P w H h a o) (k:∀ b u,(b=a∨H b=some (.own a))→h.get? b=some u→h'.get? b=some u)
  (ho:∀ b,H b=some (.own a)→H' b=some (.own a)) (ht:∀ b xs,H b=some (.tup xs)→H' b=some (.tup xs)):YG P w H' h' a o:=by
 induction o with
 | lst xs=>obtain ⟨z,its,n,r,e⟩:=x;exact ⟨z,its,n,r,k _ _ (.inl rfl) e⟩
 | tup xs=>obtain ⟨z,its,r,ob,e,c⟩:=x;exact ⟨z,its,r,ob,k _ _ (.inl rfl) e,c⟩
 | dK kvs=>obtain ⟨z,y,vs,r,ob,es,ep,e,c⟩:=x;exact ⟨z,y,vs,r,ob,es,ep,k _ _ (.inl rfl) e,c⟩
 | dT kvs =>
  obtain ⟨z,y,xs,r,ob,es,ep,e,c⟩:=x
  exact ⟨z,y,xs,Paired.mapP r fun p q z=>⟨z.1,ht _ _ z.2.1,z.2.2⟩,ob,es,ep,k _ _ (.inl rfl) e,c⟩
 | set S n=>obtain ⟨ob,es,ep,t,e,c⟩:=x;exact ⟨ob,es,ep,t,k _ _ (.inl rfl) e,c⟩
 | ins C dx fs =>
  obtain ⟨d,z,ne,e,mA,⟨od,es,ep,e2,c⟩,r⟩:=x
  exact ⟨ho _ d,z,ne,k _ _ (.inl rfl) e,mA,⟨od,es,ep,k _ _ (.inr d) e2,c⟩,r⟩
 | own y=>obtain ⟨ob,e⟩:=x;exact ⟨ob,k _ _ (.inl rfl) e⟩
 | xd fs=>obtain ⟨mA,⟨od,es,ep,e,c⟩,r⟩:=x;exact ⟨mA,⟨od,es,ep,k _ _ (.inl rfl) e,c⟩,r⟩
 | rng lo hi=>obtain ⟨t,u,v,e⟩:=x;exact ⟨t,u,v,k _ _ (.inl rfl) e⟩
 | frz ob u ih=>obtain ⟨e,q⟩:=x;exact ⟨k _ _ (.inl rfl) e,ih q⟩
 | tbl ps =>
  have e:h.get? a=some { cls := .none,data := .fields ps }:=x
  show h'.get? a=some { cls := .none,data := .fields ps }
  exact k a _ (.inl rfl) e
 | met f y =>
  have e:h.get? a=some (PySem.W.methodObj (.ref f) (.ref y)):=x
  show h'.get? a=some (PySem.W.methodObj (.ref f) (.ref y))
  exact k a _ (.inl rfl) e
 | ext φ=>obtain ⟨p,⟨o,e⟩,st⟩:=x;exact ⟨st _ _ p fun o q=>k _ _ (.inl rfl) q,⟨o,k _ _ (.inl rfl) e⟩,st⟩
theorem HOk.lt (x:HOk P w H h) (e:H a=some o):a<h.objs.size:=(x a o e).lt
theorem HOk.fresh (x:HOk P w H h) (e:h.objs.size≤a):H a=none:=by
 cases q:H a with
 | none=>rfl
 | some u=>exact absurd (Nat.lt_of_lt_of_le (x.lt q) e) (Nat.lt_irrefl _)
theorem HOk.kept (x:HOk P w H h) (k:∀ b u,h.get? b=some u→h'.get? b=some u):HOk P w H h':=fun a o e =>
 (x a o e).stay (fun b u _ q=>k b u q) (fun _ q=>q) fun _ _ q=>q
theorem HOk.laid (x:HOk P w H h) (k:∀ b u,h.get? b=some u→h'.get? b=some u) (hp:h.objs.size≤a) (new:YG P w (upd H a o) h' a o):HOk P w (upd H a o) h':=fun b u e=>by
 have hn:=x.fresh hp
 by_cases hb:b=a
 ·subst hb;rw [Yc] at e;cases e;exact new
 ·rw [Yb hb] at e
  exact (x b u e).stay (fun c v _ q=>k c v q) (fun c q=>by rw [Yb (Yh q hn)];exact q) fun c xs q=>by rw [Yb (Yh q hn)];exact q
end
def Rd (H:Hp) (a:Addr) (u:HO):Prop:=H a=some u∨∃ o,H a=some (.frz o u)
theorem Rd.ok {P:Program} {w:World} {H:Hp} {h:Heap} {a:Addr} {u:HO} (r:Rd H a u) (x:HOk P w H h):YG P w H h a u:=by
 rcases r with r | ⟨o,r⟩
 ·exact x a u r
 ·obtain ⟨_,q⟩:=x a _ r
  exact q
def Mut:Option HO→Prop
 | some (.lst _)=>True
 | some (.dK _)=>True
 | some (.dT _)=>True
 | some (.set _ _)=>True
 | some (.ins _ _ _)=>True
 | some (.ext _)=>True
 | _=>False
section
variable {P:Program} {w:World} {H:Hp} {h h':Heap} {x e:Addr} {o':HO}
theorem HOk.write (ok:HOk P w H h) (mu:Mut (H x)) (he:e=x∨H e=some (.own x)) (k:∀ b u,b≠e→h.get? b=some u→h'.get? b=some u) (heo:∃ u,h'.get? e=some u)
  (new:YG P w (upd H x o') h' x o'):HOk P w (upd H x o') h':=fun b u q=>by
 have nown:∀ c y,H c=some (.own y)→c≠x:=fun c y r z=>by subst z;rw [r] at mu;exact mu
 have ntup:∀ c xs,H c=some (.tup xs)→c≠x:=fun c xs r z=>by subst z;rw [r] at mu;exact mu
 by_cases hb:b=x
 ·subst hb;rw [Yc] at q;cases q;exact new
 ·rw [Yb hb] at q
  by_cases hbe:b=e
  ·have q':H b=some (.own x):=by
    rcases he with z | z
    ·exact absurd (hbe.trans z) hb
    ·rw [hbe];exact z
   rw [q] at q';cases q'
   obtain ⟨v,hv⟩:=heo
   exact ⟨v,by rw [hbe];exact hv⟩
  ·refine (ok b u q).stay (fun c v hc r=>k c v ?_ r) (fun c r=>by rw [Yb (nown c b r)];exact r) fun c xs r=>by rw [Yb (ntup c xs r)];exact r
   rcases hc with rfl | hc
   ·exact hbe
   ·rintro rfl
    rcases he with z | z
    ·exact nown c b hc z
    ·rw [hc] at z;cases z;exact hb rfl
end
structure Un (fs ex:List Addr) (H H':Hp) (h h':Heap):Prop where
 keep:∀ b o,h.get? b=some o→H b=none→b∉fs→b∉ex→h'.get? b=some o
 slot:∀ b o,h.get? b=some o→H b=none→b∈fs→b∉ex→∃ sl,h'.get? b=some { o with slots:=sl }
 free:∀ b o,h.get? b=some o→H b=none→b∉ex→H' b=none
 there:∀ b o,h.get? b=some o→b∉ex→∃ o',h'.get? b=some o'
 tups:∀ b xs,H b=some (.tup xs)→H' b=some (.tup xs)
 frzs:∀ b o u,H b=some (.frz o u)→H' b=some (.frz o u)
 tbls:∀ b ps,H b=some (.tbl ps)→∃ more,H' b=some (.tbl (ps++more))
section
variable {fs fs' ex ex':List Addr} {H H1 H2:Hp} {h h1 h2 h':Heap} {a x e:Addr} {o:HO}
theorem Un.any (u:Un fs ex H H1 h h1) {b:Addr} {ob:Obj} (q:h.get? b=some ob) (n:H b=none) (hx:b∉ex):∃ sl,h1.get? b=some { ob with slots:=sl }:=by
 by_cases hb:b∈fs
 ·exact u.slot b ob q n hb hx
 ·exact ⟨ob.slots,u.keep b ob q n hb hx⟩
theorem Un.kept (k:∀ b u,h.get? b=some u→h'.get? b=some u):Un fs ex H H h h' :=
 ⟨fun b ob q _ _ _=>k b ob q,fun b ob q _ _ _=>⟨ob.slots,k b ob q⟩,fun _ _ _ n _=>n,fun b ob q _=>⟨ob,k b ob q⟩,fun _ _ q=>q,fun _ _ _ q=>q,fun _ ps q=>⟨#[],by rw [q];simp⟩⟩
theorem Un.refl:Un fs ex H H h h:=Un.kept fun _ _ q=>q
theorem Un.laid (k:∀ b u,h.get? b=some u→h'.get? b=some u) (hp:h.objs.size≤a) (hn:H a=none):Un fs ex H (upd H a o) h h' where
 keep:=fun b u q _ _ _=>k b u q
 slot:=fun b u q _ _ _=>⟨u.slots,k b u q⟩
 free:=fun b u q n _=>by rw [Yb (Nat.ne_of_lt (Nat.lt_of_lt_of_le (Heap.lt_size q) hp))];exact n
 there:=fun b u q _=>⟨u,k b u q⟩
 tups:=fun b xs q=>by rw [Yb (Yh q hn)];exact q
 frzs:=fun b u xs q=>by rw [Yb (Yh q hn)];exact q
 tbls:=fun b ps q=>⟨#[],by rw [Yb (Yh q hn),q];simp⟩
theorem Un.write (mu:Mut (H x)) (he:e=x∨H e=some (.own x)) (k:∀ b u,b≠e→h.get? b=some u→h'.get? b=some u) (heo:∃ u,h'.get? e=some u):Un fs ex H (upd H x o) h h':=by
 have hx:∀ b,H b=none→b≠x:=fun b n z=>by subst z;rw [n] at mu;exact mu
 have hb:∀ b,H b=none→b≠e:=fun b n z=>by
  subst z
  rcases he with r | r
  ·exact hx b n r
  ·rw [n] at r;cases r
 have hm:∀ b u,H b=some u→¬ Mut (some u)→b≠x:=fun b u q nm z=>by subst z;rw [q] at mu;exact nm mu
 refine ⟨fun b u q n _ _=>k b u (hb b n) q,fun b u q n _ _=>⟨u.slots,k b u (hb b n) q⟩,fun b u q n _=>by rw [Yb (hx b n)];exact n,fun b u q _=>?_,
  fun b xs q=>by rw [Yb (hm b _ q fun z=>z)];exact q,fun b u xs q=>by rw [Yb (hm b _ q fun z=>z)];exact q,fun b ps q=>⟨#[],by rw [Yb (hm b _ q fun z=>z),q];simp⟩⟩
 by_cases hbe:b=e
 ·subst hbe;exact heo
 ·exact ⟨u,k b u hbe q⟩
end
def trk (h:Heap) (H:Hp):List Addr:=(List.range h.objs.size).filter fun a=>(H a).isSome
def W7 (h:Heap) (H:Hp):Heap:=PySem.W.hideAll h (trk h H)
theorem Ybg (h:Heap) (H:Hp):(W7 h H).objs.size=h.objs.size:=PySem.W.hideAll_size _ _
theorem Yb8 {h:Heap} {H:Hp} {b:Addr} {o:Obj} (e:h.get? b=some o) (n:H b=none):(W7 h H).get? b=some o :=
 PySem.W.hideAll_get _ e fun hm=>by
  have q:(H b).isSome=true:=(List.mem_filter.mp hm).2
  rw [n] at q;simp at q
theorem Yc3 {h:Heap} {H:Hp} {b:Addr} {o:Obj} (e:(W7 h H).get? b=some o):h.get? b=some o∧H b=none:=by
 have e':h.get? b=some o:=PySem.W.of_hideAll (trk h H) e
 refine ⟨e',?_⟩
 cases q:H b with
 | none=>rfl
 | some x =>
  have hm:b∈trk h H:=List.mem_filter.mpr ⟨List.mem_range.mpr (Heap.lt_size e'),by simp [q]⟩
  have z:(W7 h H).get? b=none:=PySem.W.hideAll_none (trk h H) hm
  rw [z] at e;cases e
def Yc4 (g h:Heap) (L:Addr):List (Addr×Obj):=(List.range h.objs.size).filterMap fun a=>if a=L∨(g.get? a).isSome=true then none else (h.get? a).map fun o=>(a,o)
def Xv (g h:Heap) (L d:Addr):List (Addr×Obj):=(Yc4 g h L).filter fun p=>decide (p.1≠d)
end L2
namespace L2
open PySem PySem.Spec PyProof.Rows
structure Mod (K:PySem.W.Frag) (mg:Str→Option Value) (base:Heap):Prop where
 kin:K.In base
 glob:base.Ns mainGlobals mg
 blt:∃ mb,base.Ns builtinsNs mb∧∀ x:Str,x≠"__name__"→mb x=bootBuiltins x
 nolimit:base.NoLimit
structure Cx where
 prog:Program
 w:World
 K:PySem.W.Frag
 mg:Str→Option Value
 base:Heap
 A:Around
 N:List Str
 s₀:Shared
 H₀:Hp
 env:Env
 outer:List Env
 stack:List Env
 ex:List Addr
 fn:Str→Bool
 calm:Bool
 pn:List (Addr×Obj)
 xe:Value→Shared→Prop
def frs (l:List Env):List Addr:=l.filterMap (·.frame)
abbrev Cx.fs (X:Cx):List Addr:=frs X.outer
def Vis (sc:Scope) (x:Str):Prop:=sc.names.lookup x=some .local∨sc.names.lookup x=some .cell∨sc.names.lookup x=some .free
def Loc (sc:Scope) (x:Str):Prop:=sc.names.lookup x=some .local∨sc.names.lookup x=some .cell
def Look (env:Env) (h:Heap) (m:Str→Option Value) (x:Str) (u:Value):Prop :=
 (env.kindOf x=some .local∧m x=some u)∨((env.kindOf x=some .cell∨env.kindOf x=some .free)∧∃ c,env.cells.lookup x=some c∧h.IsCell c (some u))
structure Cx.Ok (X:Cx):Prop where
 mod:Mod X.K X.mg X.base
 kind:X.env.scope.kind = .function
 glob:X.env.globals=mainGlobals
 blt:X.env.builtins=builtinsNs
 above:X.s₀.heap.objs.size≤X.env.locals
 inj:∀ x y c,X.env.cells.lookup x=some c→X.env.cells.lookup y=some c→x=y
 has:∀ x,(X.env.kindOf x=some .cell∨X.env.kindOf x=some .free)→∃ c,X.env.cells.lookup x=some c
 cab:∀ x c,X.fn x=true→X.env.cells.lookup x=some c→X.s₀.heap.objs.size≤c
 hd:X.calm=true→X.A.handled=none
 frames:X.A.frames=some X.stack
 stk:X.stack=X.outer∨(X.stack=X.env::X.outer∧X.env.frame=some X.env.locals)
 exf:∀ b∈X.ex,b≠X.env.locals∧∀ x c,X.env.cells.lookup x=some c→c≠b
 bs:∀ b o,X.base.get? b=some o→X.s₀.heap.get? b=some o∧X.H₀ b=none
 bsz:X.base.objs.size≤X.s₀.heap.objs.size
 noex:∀ b o,X.base.get? b=some o→b∉X.ex
 exfs:∀ b∈X.ex,b∉X.fs
 funs:X.s₀.heap.FunFrames X.base X.outer
 frf:∀ b∈X.fs,X.H₀ b=none
structure Inv (X:Cx) (pins:List (Addr×Obj)) (σ:List (Option V)) (H:Hp) (s:Shared):Prop where
 ok:X.Ok
 os:s.os=X.s₀.os
 bare:AllBare s.gens
 base:Un X.fs X.ex X.H₀ H X.s₀.heap s.heap
 loc:∃ m,s.heap.Ns X.env.locals m∧∀ (i:Nat) (x:Str) (v:V),X.N[i]?=some x→σ[i]?=some (some v)→Vis X.env.scope x→∃ u,Yr v u∧Look X.env s.heap m x u
 cell:∀ x c,X.env.cells.lookup x=some c→∃ v,s.heap.IsCell c v
 free:H X.env.locals=none
 freeC:∀ x c,X.env.cells.lookup x=some c→H c=none
 pin:∀ p∈X.pn++pins,s.heap.get? p.1=some p.2∧H p.1=none∧p.1≠X.env.locals∧p.1∉X.fs∧∀ v,p.2.data ≠ .cell v
 hok:HOk X.prog X.w H s.heap
 len:σ.length=X.N.length
section
variable {X:Cx} {pins:List (Addr×Obj)} {σ:List (Option V)} {H H':Hp} {s:Shared} {h':Heap}
theorem Cx.Ok.nofr (ok:X.Ok) {b:Addr} {o:Obj} (e:X.base.get? b=some o):b∉X.fs:=fun hb=>by
 have:=(ok.funs.mem hb).1
 rw [e] at this;cases this
theorem Inv.bs (I:Inv X pins σ H s):∀ b o,X.base.get? b=some o→s.heap.get? b=some o∧H b=none:=fun b o e =>
 ⟨I.base.keep b o (I.ok.bs b o e).1 (I.ok.bs b o e).2 (I.ok.nofr e) (I.ok.noex b o e),I.base.free b o (I.ok.bs b o e).1 (I.ok.bs b o e).2 (I.ok.noex b o e)⟩
theorem Inv.bk (I:Inv X pins σ H s):∀ b o,X.base.get? b=some o→s.heap.get? b=some o:=fun b o e=>(I.bs b o e).1
theorem Inv.mod (I:Inv X pins σ H s):Mod X.K X.mg X.base:=I.ok.mod
theorem Inv.kIn (I:Inv X pins σ H s):X.K.In s.heap:=I.ok.mod.kin.keeps I.bk
theorem Inv.lt (I:Inv X pins σ H s):X.env.locals<s.heap.objs.size:=let ⟨_,hn,_⟩:=I.loc;hn.lt
theorem Inv.sz (I:Inv X pins σ H s):X.s₀.heap.objs.size≤s.heap.objs.size:=Nat.le_trans I.ok.above (Nat.le_of_lt I.lt)
theorem Inv.nofs (I:Inv X pins σ H s) {a:Addr} (h:s.heap.objs.size≤a):a∉X.fs:=fun hb=>by
 obtain ⟨_,o,ho,_⟩:=I.ok.funs.mem hb
 exact absurd (Nat.lt_of_lt_of_le (Heap.lt_size ho) (Nat.le_trans I.sz h)) (Nat.lt_irrefl _)
theorem Inv.cne (I:Inv X pins σ H s):∀ x c,X.env.cells.lookup x=some c→c≠X.env.locals:=fun x c e z=>by
 obtain ⟨v,o,ho,hd⟩:=I.cell x c e
 obtain ⟨m,⟨o',es,ep,ho',hd',_⟩,_⟩:=I.loc
 rw [z,ho'] at ho;cases ho;rw [hd'] at hd;cases hd
theorem Inv.funs (I:Inv X pins σ H s):s.heap.FunFrames X.base X.outer:=by
 have all:∀ (l:List Env),(∀ b∈frs l,b∈X.fs)→X.s₀.heap.FunFrames X.base l→s.heap.FunFrames X.base l:=by
  intro l
  induction l with
  | nil=>intro _ _;trivial
  | cons env r ih =>
   intro hs hl
   obtain ⟨hk,⟨L,o,hf,hn,ho,hd⟩,hr⟩:=hl
   have hL:L∈X.fs:=hs L (by unfold frs;rw [List.filterMap_cons,hf];exact List.mem_cons_self)
   obtain ⟨sl,e⟩:=I.base.slot L o ho (I.ok.frf L hL) hL fun z=>I.ok.exfs L z hL
   exact ⟨hk,⟨L,_,hf,hn,e,hd⟩,ih (fun b hb=>hs b (by unfold frs;rw [List.filterMap_cons,hf];exact List.mem_cons_of_mem _ hb)) hr⟩
 exact all X.outer (fun _ hb=>hb) I.ok.funs
theorem Inv.stack (I:Inv X pins σ H s):s.heap.FunFrames X.base X.stack:=by
 rcases I.ok.stk with e | ⟨e,hf⟩
 ·rw [e];exact I.funs
 ·rw [e]
  obtain ⟨m,hn,_⟩:=I.loc
  refine .cons (by rw [I.ok.kind];decide) hf hn ?_ I.funs
  exact Heap.get?_none_of_le (Nat.le_trans I.ok.bsz I.ok.above)
theorem Inv.stkSub (I:Inv X pins σ H s):∀ b∈frs X.stack,b∈X.env.locals::X.fs:=fun b hb=>by
 rcases I.ok.stk with e | ⟨e,hf⟩
 ·rw [e] at hb;exact List.mem_cons_of_mem _ hb
 ·rw [e] at hb
  unfold frs at hb
  rw [List.filterMap_cons,hf] at hb
  exact hb
theorem Inv.stkFree (I:Inv X pins σ H s):∀ b∈frs X.stack,H b=none:=fun b hb=>by
 rcases List.mem_cons.mp (I.stkSub b hb) with e | hb
 ·rw [e];exact I.free
 ·obtain ⟨_,o,ho,_⟩:=I.ok.funs.mem hb
  exact I.base.free b o ho (I.ok.frf b hb) fun z=>I.ok.exfs b z hb
theorem Inv.step {g':Array GenState} {t':Nat} {d':Drawn} {ch:List Addr} (I:Inv X pins σ H s)
  (hch:∀ b∈ch,(b∈X.ex∨X.s₀.heap.objs.size≤b)∧b≠X.env.locals∧(∀ x c,X.env.cells.lookup x=some c→c≠b)∧∀ p∈X.pn++pins,p.1≠b)
  (keep:∀ b o,b≠X.env.locals→b∉X.fs→b∉ch→s.heap.get? b=some o→H b=none→h'.get? b=some o)
  (slot:∀ b o,b≠X.env.locals→b∈X.fs→b∉ch→s.heap.get? b=some o→H b=none→∃ sl,h'.get? b=some { o with slots:=sl }) (free:∀ b o,b∉ch→s.heap.get? b=some o→H b=none→H' b=none)
  (there:∀ b o,b∉ch→s.heap.get? b=some o→∃ o',h'.get? b=some o')
  (tups:∀ b xs,H b=some (.tup xs)→H' b=some (.tup xs)) (frzs:∀ b o u,H b=some (.frz o u)→H' b=some (.frz o u)) (tbls:∀ b ps,H b=some (.tbl ps)→∃ more,H' b=some (.tbl (ps++more)))
  (ns:∀ m,s.heap.Ns X.env.locals m→h'.Ns X.env.locals m) (hok:HOk X.prog X.w H' h') (hg:AllBare g') :
  Inv X pins σ H' { s with heap:=h',gens:=g',drawn:=d',toks:=t' }:=by
 have neL:∀ b o,X.s₀.heap.get? b=some o→b≠X.env.locals:=fun b o e=>Nat.ne_of_lt (Nat.lt_of_lt_of_le (Heap.lt_size e) I.ok.above)
 have neC:∀ b o,X.s₀.heap.get? b=some o→b∉X.ex→b∉ch:=fun b o e hx hb=>by
  rcases (hch b hb).1 with z | z
  ·exact hx z
  ·exact absurd (Nat.lt_of_lt_of_le (Heap.lt_size e) z) (Nat.lt_irrefl _)
 have cellK:∀ x c,X.env.cells.lookup x=some c→∀ v,s.heap.IsCell c v→h'.IsCell c v:=fun x c e v ⟨o,ho,hd⟩=>by
  have nch:c∉ch:=fun z=>(hch c z).2.2.1 x c e rfl
  by_cases hc:c∈X.fs
  ·obtain ⟨sl,q⟩:=slot c o (I.cne x c e) hc nch ho (I.freeC x c e)
   exact ⟨_,q,hd⟩
  ·exact ⟨o,keep c o (I.cne x c e) hc nch ho (I.freeC x c e),hd⟩
 refine ⟨I.ok,I.os,hg,⟨fun b o e n hb hx=>?_,fun b o e n hb hx=>?_,fun b o e n hx=>?_,fun b o e hx=>?_,fun b xs e=>tups b xs (I.base.tups b xs e),fun b o xs e=>frzs b o xs (I.base.frzs b o xs e),fun b ps e=>?_⟩,?_,fun x c e=>?_,?_,fun x c e=>?_,fun p hp=>?_,hok,I.len⟩
 ·exact keep b o (neL b o e) hb (neC b o e hx) (I.base.keep b o e n hb hx) (I.base.free b o e n hx)
 ·obtain ⟨sl,e1⟩:=I.base.slot b o e n hb hx
  obtain ⟨sl',e2⟩:=slot b _ (neL b o e) hb (neC b o e hx) e1 (I.base.free b o e n hx)
  exact ⟨sl',e2⟩
 ·obtain ⟨o',e1⟩:=I.base.there b o e hx
  exact free b o' (neC b o e hx) e1 (I.base.free b o e n hx)
 ·obtain ⟨o',e1⟩:=I.base.there b o e hx
  exact there b o' (neC b o e hx) e1
 ·obtain ⟨m1,e1⟩:=I.base.tbls b ps e
  obtain ⟨m2,e2⟩:=tbls b _ e1
  exact ⟨m1++m2,by rw [e2,Array.append_assoc]⟩
 ·obtain ⟨m,hn,hl⟩:=I.loc
  refine ⟨m,ns m hn,fun i x v e1 e2 e3=>?_⟩
  obtain ⟨u,r,l⟩:=hl i x v e1 e2 e3
  refine ⟨u,r,?_⟩
  rcases l with l | ⟨k,c,e,z⟩
  ·exact .inl l
  ·exact .inr ⟨k,c,e,cellK x c e _ z⟩
 ·obtain ⟨v,z⟩:=I.cell x c e
  exact ⟨v,cellK x c e v z⟩
 ·obtain ⟨m,⟨o,_,_,ho,_⟩,_⟩:=I.loc
  exact free _ o (fun z=>(hch _ z).2.1 rfl) ho I.free
 ·obtain ⟨v,o,ho,hd⟩:=I.cell x c e
  exact free c o (fun z=>(hch c z).2.2.1 x c e rfl) ho (I.freeC x c e)
 ·obtain ⟨e,n,ne,nf,d⟩:=I.pin p hp
  have nch:p.1∉ch:=fun z=>(hch p.1 z).2.2.2 p hp rfl
  exact ⟨keep p.1 p.2 ne nf nch e n,free p.1 p.2 nch e n,ne,nf,d⟩
theorem Inv.un {t':Nat} (I:Inv X pins σ H s) (u:Un X.fs [] H H' s.heap h') (hok:HOk X.prog X.w H' h'):Inv X pins σ H' { s with heap:=h',toks:=t' }:=by
 obtain ⟨m,⟨o,es,ep,ho,r⟩,_⟩:=id I.loc
 obtain ⟨sl,hL⟩:=u.any ho I.free (by simp)
 exact I.step (g':=s.gens) (d':=s.drawn) (ch:=[]) (fun _ z=>nomatch z) (fun b o _ hb _ e n=>u.keep b o e n hb (by simp)) (fun b o _ hb _ e n=>u.slot b o e n hb (by simp)) (fun b o _ e n=>u.free b o e n (by simp)) (fun b o _ e=>u.there b o e (by simp)) u.tups u.frzs u.tbls (fun m' hm=>by
  obtain ⟨o',es',ep',ho',r'⟩:=hm
  rw [ho] at ho';cases ho'
  exact ⟨_,es',ep',hL,r'⟩) hok I.bare
theorem Inv.call {g':Array GenState} {t':Nat} {d':Drawn} {ch:List Addr} (I:Inv X pins σ H s) (u:Un (frs X.stack) ch H H' s.heap h') (hok:HOk X.prog X.w H' h') (hg:AllBare g')
  (hch:∀ b∈ch,(b∈X.ex∨X.s₀.heap.objs.size≤b)∧b≠X.env.locals∧(∀ x c,X.env.cells.lookup x=some c→c≠b)∧∀ p∈X.pn++pins,p.1≠b) :
  Inv X pins σ H' { s with heap:=h',gens:=g',drawn:=d',toks:=t' }:=by
 obtain ⟨m,⟨o,es,ep,ho,r⟩,_⟩:=id I.loc
 obtain ⟨sl,hL⟩:=u.any ho I.free fun z=>(hch _ z).2.1 rfl
 exact I.step (ch:=ch) hch (fun b o hL hb hc e n=>u.keep b o e n (fun z=>(List.mem_cons.mp (I.stkSub b z)).elim hL hb) hc) (fun b o _ _ hc e n=>u.any e n hc) (fun b o hc e n=>u.free b o e n hc) (fun b o hc e=>u.there b o e hc) u.tups u.frzs u.tbls (fun m' hm=>by
  obtain ⟨o',es',ep',ho',r'⟩:=hm
  rw [ho] at ho';cases ho'
  exact ⟨_,es',ep',hL,r'⟩) hok hg
theorem Inv.turned {t':Nat} {it:Addr} (I:Inv X pins σ H s) (k:∀ b o,b≠it→s.heap.get? b=some o→h'.get? b=some o) (hn:H it=none) (hL:it≠X.env.locals)
  (h1:it∈X.ex∨X.s₀.heap.objs.size≤it) (h2:∀ x c,X.env.cells.lookup x=some c→c≠it) (h3:∀ p∈X.pn++pins,p.1≠it):Inv X pins σ H { s with heap:=h',toks:=t' }:=by
 have nit:∀ b u,H b=some u→b≠it:=fun b u e z=>by rw [z,hn] at e;cases e
 refine I.step (g':=s.gens) (d':=s.drawn) (ch:=[it]) (fun b hb=>?_) (fun b o _ _ hc e _=>k b o (fun z=>hc (by simp [z])) e) (fun b o _ _ hc e _=>⟨o.slots,k b o (fun z=>hc (by simp [z])) e⟩) (fun _ _ _ _ n=>n)
  (fun b o hc e=>⟨o,k b o (fun z=>hc (by simp [z])) e⟩) (fun _ _ e=>e) (fun _ _ _ e=>e) (fun b ps e=>⟨#[],by rw [e];simp⟩) (fun m hm=>?_) (fun b u e=>?_) I.bare
 ·have e:b=it:=by simpa using hb
  subst e
  exact ⟨h1,hL,h2,h3⟩
 ·obtain ⟨o,es,ep,ho,r⟩:=hm
  exact ⟨o,es,ep,k _ o (Ne.symm hL) ho,r⟩
 ·refine (I.hok b u e).stay (fun c v hc q=>k c v ?_ q) (fun _ q=>q) fun _ _ q=>q
  rcases hc with z | z
  ·rw [z];exact nit b u e
  ·exact nit c _ z
theorem Inv.tok (I:Inv X pins σ H s) (t:Nat):Inv X pins σ H { s with toks:=t }:=I.un (h':=s.heap) (t':=t) Un.refl I.hok
theorem Inv.kept {t':Nat} (I:Inv X pins σ H s) (k:∀ b u,s.heap.get? b=some u→h'.get? b=some u):Inv X pins σ H { s with heap:=h',toks:=t' }:=I.un (Un.kept k) (I.hok.kept k)
theorem Inv.laid {a:Addr} {o:HO} {t':Nat} (I:Inv X pins σ H s) (k:∀ b u,s.heap.get? b=some u→h'.get? b=some u) (hp:s.heap.objs.size≤a) (new:YG X.prog X.w (upd H a o) h' a o) :
  Inv X pins σ (upd H a o) { s with heap:=h',toks:=t' }:=I.un (Un.laid k hp (I.hok.fresh hp)) (I.hok.laid k hp new)
theorem Inv.write {x e:Addr} {o:HO} {t':Nat} (I:Inv X pins σ H s) (mu:Mut (H x)) (he:e=x∨H e=some (.own x)) (k:∀ b u,b≠e→s.heap.get? b=some u→h'.get? b=some u) (heo:∃ u,h'.get? e=some u)
  (new:YG X.prog X.w (upd H x o) h' x o):Inv X pins σ (upd H x o) { s with heap:=h',toks:=t' }:=I.un (Un.write mu he k heo) (I.hok.write mu he k heo new)
theorem Inv.pins_of {pins':List (Addr×Obj)} (I:Inv X pins σ H s) (h:∀ p∈pins',s.heap.get? p.1=some p.2∧H p.1=none∧p.1≠X.env.locals∧p.1∉X.fs∧∀ v,p.2.data ≠ .cell v):Inv X pins' σ H s :=
 ⟨I.ok,I.os,I.bare,I.base,I.loc,I.cell,I.free,I.freeC,fun p hp=>(List.mem_append.mp hp).elim (fun z=>I.pin p (List.mem_append_left _ z)) (h p),I.hok,I.len⟩
theorem Qi {N:List Str} (hN:N.Nodup) {i j:Nat} {x:Str} (a:N[i]?=some x) (b:N[j]?=some x):i=j:=by
 obtain ⟨h1,e1⟩:=List.getElem?_eq_some_iff.mp a
 obtain ⟨h2,e2⟩:=List.getElem?_eq_some_iff.mp b
 exact (List.getElem_inj hN).mp (e1.trans e2.symm)
theorem Ybh {M:Model} {A:Around} {E:Value→Shared→Prop} {i:Nat} {x:Str} {v:V} {u:Value} {Q:Unit→Shared→Prop} (I:Inv X pins σ H s) (hN:X.N.Nodup) (hi:X.N[i]?=some x) (hx:Loc X.env.scope x) (r:Yr v u)
  (h:∀ s',Inv X pins (σ.set i (some v)) H s'→(∃ a,Heap.SameBut a s.heap s'.heap∧(a=X.env.locals∨X.env.cells.lookup x=some a))→Q () s') (hf:X.fn x=true∨X.env.scope.names.lookup x=some .local:=by first | exact .inl rfl | exact .inr rfl | assumption):wpAny M A (storeName X.env x u) Q E s:=by
 obtain ⟨m,hn,hl⟩:=id I.loc
 have hcls:(X.env.scope.kind == .class||(X.env.scope.kind == .module&&X.env.locals != X.env.globals))=false:=by rw [I.ok.kind];rfl
 have hiσ:i<σ.length:=by rw [I.len];exact (List.getElem?_eq_some_iff.mp hi).1
 have cne:=I.cne
 have tracked:∀ {a:Addr} {h':Heap},(∃ o,s.heap.get? a=some o∧H a=none)→Heap.SameBut a s.heap h'→HOk X.prog X.w H h':=fun {a h'} ha hs b ob e=>by
  obtain ⟨_,_,hfree⟩:=ha
  refine (I.hok b ob e).stay (fun c w' hc q=>(hs.2 c ?_).trans q) (fun _ q=>q) fun _ _ q=>q
  rintro rfl
  rcases hc with rfl | hc
  ·rw [hfree] at e;cases e
  ·rw [hfree] at hc;cases hc
 rcases hx with hk | hk
 ·refine wpAny_storeName_local hk hn (fun h' hn' hs=>?_) hcls
  obtain ⟨oL,_,_,hoL,_⟩:=id hn
  refine h _ ⟨I.ok,I.os,I.bare,⟨fun b o e n hb hx=>?_,fun b o e n hb hx=>?_,I.base.free,fun b o e hx=>?_,I.base.tups,I.base.frzs,I.base.tbls⟩,⟨_,hn',fun j y v' e1 e2 e3=>?_⟩,fun y c e=>?_,I.free,I.freeC,fun p hp=>?_,tracked ⟨oL,hoL,I.free⟩ hs,by simpa using I.len⟩ ⟨_,hs,.inl rfl⟩
  ·exact (hs.2 b (Nat.ne_of_lt (Nat.lt_of_lt_of_le (Heap.lt_size e) I.ok.above))).trans (I.base.keep b o e n hb hx)
  ·obtain ⟨sl,e1⟩:=I.base.slot b o e n hb hx
   exact ⟨sl,(hs.2 b (Nat.ne_of_lt (Nat.lt_of_lt_of_le (Heap.lt_size e) I.ok.above))).trans e1⟩
  ·obtain ⟨o',e1⟩:=I.base.there b o e hx
   exact ⟨o',(hs.2 b (Nat.ne_of_lt (Nat.lt_of_lt_of_le (Heap.lt_size e) I.ok.above))).trans e1⟩
  ·by_cases hj:j=i
   ·subst hj
    rw [hi] at e1;cases e1
    rw [List.getElem?_set_self hiσ] at e2
    cases e2
    exact ⟨u,r,.inl ⟨hk,by simp⟩⟩
   ·rw [List.getElem?_set_ne (Ne.symm hj)] at e2
    obtain ⟨u',r',q⟩:=hl j y v' e1 e2 e3
    refine ⟨u',r',?_⟩
    rcases q with ⟨k,e⟩ | ⟨k,c,e,z⟩
    ·refine .inl ⟨k,?_⟩
     have:y≠x:=fun e=>hj (Qi hN e1 (e▸hi))
     simp [this,e]
    ·exact .inr ⟨k,c,e,z.sameBut hs (cne y c e)⟩
  ·obtain ⟨w',z⟩:=I.cell y c e
   exact ⟨w',z.sameBut hs (cne y c e)⟩
  ·obtain ⟨e,n,ne,nf,d⟩:=I.pin p hp
   exact ⟨(hs.2 p.1 ne).trans e,n,ne,nf,d⟩
 ·have hfn:X.fn x=true:=by
   rcases hf with z | z
   ·exact z
   ·rw [z] at hk;cases hk
  obtain ⟨c,hc⟩:=I.ok.has x (.inl hk)
  obtain ⟨w',z⟩:=I.cell x c hc
  refine wpAny_storeName_cell I.ok.kind hk hc z (fun h' hc' hs=>?_)
  obtain ⟨oc,hoc,hocd⟩:=id z
  refine h { s with heap:=h' } ⟨I.ok,I.os,I.bare,⟨fun b o e n hb hx=>?_,fun b o e n hb hx=>?_,I.base.free,fun b o e hx=>?_,I.base.tups,I.base.frzs,I.base.tbls⟩,⟨m,hn.sameBut hs (Ne.symm (cne x c hc)),fun j y v' e1 e2 e3=>?_⟩,fun y c' e=>?_,I.free,I.freeC,fun p hp=>?_,tracked ⟨oc,hoc,I.freeC x c hc⟩ hs,by simpa using I.len⟩ ⟨c,hs,.inr hc⟩
  ·exact (hs.2 b (Nat.ne_of_lt (Nat.lt_of_lt_of_le (Heap.lt_size e) (I.ok.cab x c hfn hc)))).trans (I.base.keep b o e n hb hx)
  ·obtain ⟨sl,e1⟩:=I.base.slot b o e n hb hx
   exact ⟨sl,(hs.2 b (Nat.ne_of_lt (Nat.lt_of_lt_of_le (Heap.lt_size e) (I.ok.cab x c hfn hc)))).trans e1⟩
  ·obtain ⟨o',e1⟩:=I.base.there b o e hx
   exact ⟨o',(hs.2 b (Nat.ne_of_lt (Nat.lt_of_lt_of_le (Heap.lt_size e) (I.ok.cab x c hfn hc)))).trans e1⟩
  ·by_cases hj:j=i
   ·subst hj
    rw [hi] at e1;cases e1
    rw [List.getElem?_set_self hiσ] at e2
    cases e2
    exact ⟨u,r,.inr ⟨.inl hk,c,hc,hc'⟩⟩
   ·rw [List.getElem?_set_ne (Ne.symm hj)] at e2
    obtain ⟨u',r',q⟩:=hl j y v' e1 e2 e3
    refine ⟨u',r',?_⟩
    rcases q with q | ⟨k,c',e,z'⟩
    ·exact .inl q
    ·refine .inr ⟨k,c',e,z'.sameBut hs ?_⟩
     rintro rfl
     exact hj (Qi hN e1 (I.ok.inj _ _ _ e hc▸hi))
  ·by_cases hcc:c'=c
   ·subst hcc;exact ⟨_,hc'⟩
   ·obtain ⟨w2,z2⟩:=I.cell y c' e
    exact ⟨w2,z2.sameBut hs hcc⟩
  ·obtain ⟨e,n,ne,nf,d⟩:=I.pin p hp
   refine ⟨(hs.2 p.1 ?_).trans e,n,ne,nf,d⟩
   intro q
   rw [q,hoc] at e
   have q':oc=p.2:=Option.some.inj e
   exact d w' (by rw [← q'];exact hocd)
theorem Qj {M:Model} {A:Around} {E:Value→Shared→Prop} {i:Nat} {x:Str} {v:V} {u:Value} {Q:Unit→Shared→Prop} (I:Inv X pins σ H s) (hN:X.N.Nodup) (hi:X.N[i]?=some x) (hx:Loc X.env.scope x) (r:Yr v u)
  (h:∀ s',Inv X pins (σ.set i (some v)) H s'→Q () s') (hf:X.fn x=true∨X.env.scope.names.lookup x=some .local:=by first | exact .inl rfl | exact .inr rfl | assumption):wpAny M A (storeName X.env x u) Q E s :=
 Ybh I hN hi hx r (fun s' I' _=>h s' I') hf
theorem Inv.call' {s':Shared} {ch:List Addr} (I:Inv X pins σ H s) (ho:s'.os=s.os) (u:Un (frs X.stack) ch H H' s.heap s'.heap) (hok:HOk X.prog X.w H' s'.heap) (hg:AllBare s'.gens)
  (hch:∀ b∈ch,(b∈X.ex∨X.s₀.heap.objs.size≤b)∧b≠X.env.locals∧(∀ x c,X.env.cells.lookup x=some c→c≠b)∧∀ p∈X.pn++pins,p.1≠b):Inv X pins σ H' s':=by
 obtain ⟨h',g',d',t',o'⟩:=s'
 have e:o'=s.os:=ho
 subst e
 exact I.call (g':=g') (t':=t') (d':=d') u hok hg hch
end
abbrev XK:=Value→Option Addr→Hp→Prop
abbrev St:=List (Option V)
abbrev VK:=V→Hp→Prop
abbrev TE:=St→Hp→VK→Prop
abbrev TT:=St→Hp→(Bool→Hp→Prop)→Prop
abbrev TA:=St→Hp→(List V→Hp→Prop)→Prop
structure Ends where
 nx:St→Hp→Prop
 rt:VK
 bk:St→Hp→Prop:=fun _ _=>False
 ct:St→Hp→Prop:=fun _ _=>False
abbrev TS:=Ends→St→Hp→Prop
def EP (X:Cx) (pins:List (Addr×Obj)) (σ:St) (Q:VK) (u:Value) (s':Shared):Prop:=∃ v H',Inv X pins σ H' s'∧Yr v u∧Q v H'
def TP (X:Cx) (pins:List (Addr×Obj)) (σ:St) (Q:Bool→Hp→Prop) (b:Bool) (s':Shared):Prop:=∃ H',Inv X pins σ H' s'∧Q b H'
def AP (X:Cx) (pins:List (Addr×Obj)) (σ:St) (Q:List V→Hp→Prop) (us:List Value) (s':Shared):Prop:=∃ vs H',Inv X pins σ H' s'∧Ym vs us∧Q vs H'
def SP (X:Cx) (pins:List (Addr×Obj)) (D:Ends) (f:Flow) (s':Shared):Prop :=
 match f with
 | .next=>∃ σ' H',Inv X pins σ' H' s'∧D.nx σ' H'
 | .brk=>∃ σ' H',Inv X pins σ' H' s'∧D.bk σ' H'
 | .cont=>∃ σ' H',Inv X pins σ' H' s'∧D.ct σ' H'
 | .ret u=>∃ v σ' H',Inv X pins σ' H' s'∧Yr v u∧D.rt v H'
def PE (X:Cx) (e:Expr) (t:TE):Prop :=
 ∀ (pins:List (Addr×Obj)) (s:Shared) (σ:St) (H:Hp) (Q:VK),Inv X pins σ H s→t σ H Q→wpAny (model X.prog X.w) X.A (eval e X.env) (EP X pins σ Q) X.xe s
def PT (X:Cx) (e:Expr) (t:TT):Prop :=
 ∀ (pins:List (Addr×Obj)) (s:Shared) (σ:St) (H:Hp) (Q:Bool→Hp→Prop),Inv X pins σ H s→t σ H Q→wpAny (model X.prog X.w) X.A (isTrue e X.env (eval e X.env)) (TP X pins σ Q) X.xe s
def PW (X:Cx) (e:Expr) (t:TT):Prop :=
 ∀ (whole:Sem Value) (pins:List (Addr×Obj)) (s:Shared) (σ:St) (H:Hp) (Q:Bool→Hp→Prop),Inv X pins σ H s→t σ H Q→wpAny (model X.prog X.w) X.A (isTrue e X.env whole) (TP X pins σ Q) X.xe s
theorem PW.pt {X:Cx} {e:Expr} {t:TT} (h:PW X e t):PT X e t:=h _
def PA (X:Cx) (es:List Expr) (t:TA):Prop :=
 ∀ (pos:Pos) (pins:List (Addr×Obj)) (s:Shared) (σ:St) (H:Hp) (Q:List V→Hp→Prop),Inv X pins σ H s→t σ H Q→wpAny (model X.prog X.w) X.A (spliced (backTo pos (starEach es X.env))) (AP X pins σ Q) X.xe s
def PS (X:Cx) (st:Stmt) (t:TS):Prop :=
 ∀ (pins:List (Addr×Obj)) (s:Shared) (σ:St) (H:Hp) (D:Ends),Inv X pins σ H s→t D σ H→wpAny (model X.prog X.w) X.A (exec st X.env) (SP X pins D) X.xe s
def PSs (X:Cx) (st:List Stmt) (t:TS):Prop :=
 ∀ (pins:List (Addr×Obj)) (s:Shared) (σ:St) (H:Hp) (D:Ends),Inv X pins σ H s→t D σ H→wpAny (model X.prog X.w) X.A (execs st X.env) (SP X pins D) X.xe s
theorem thn {α:Type} {t:Sem α} {Q Q':α→Shared→Prop} {M:Model} {A:Around} {E:Value→Shared→Prop} {s:Shared} (h:wpAny M A t Q E s) (hQ:∀ a s,Q a s→Q' a s):wpAny M A t Q' E s:=wpAny_mono h hQ fun _ _ x=>x
end L2
namespace L2
open PySem PySem.Spec PyProof.Rows
section
variable {X:Cx}
def Uy (i:Nat):TE:=fun σ H Q=>∃ v,σ[i]?=some (some v)∧Q v H
def tC (v:V):TE:=fun _ H Q=>Q v H
theorem YdN {i:Nat} {x:Str} {pos:Pos} (hN:X.N[i]?=some x) (hv:Vis X.env.scope x) (hd:(x==("__debug__":Str))=false:=by decide) (hcd:(x==("__classdict__":Str))=false:=by decide):PE X (.Name x pos) (Uy i):=by
 intro pins s σ H Q I h
 obtain ⟨v,e,h⟩:=h
 obtain ⟨m,hn,hl⟩:=I.loc
 obtain ⟨u,r,l⟩:=hl i x v hN e hv
 have fin:EP X pins σ Q u s:=⟨v,H,I,r,h⟩
 rcases l with ⟨hk,hm⟩ | ⟨hk,c,hc,hcell⟩
 ·exact wpAny_Name (wpAny_loadName_local I.ok.kind hk hn hm fin) hd
 ·rcases hk with hk | hk
  ·exact wpAny_Name (wpAny_loadName_cell I.ok.kind hk hc hcell fin) hd
  ·exact wpAny_Name (wpAny_loadName_free I.ok.kind hk hc hcell fin hcd) hd
theorem Yf {i j pos}:PE X (.Constant (.int i) j pos) (tC (.int i)):=fun _ _ _ H _ I h=>wpAny_Constant_int ⟨.int i,H,I.tok _,⟨_,rfl⟩,h⟩
theorem VE {b j pos}:PE X (.Constant (.bool b) j pos) (tC (.bl b)):=fun _ _ _ H _ I h=>Constant_bool ⟨.bl b,H,I,rfl,h⟩
theorem YdO {j pos}:PE X (.Constant .none j pos) (tC .non):=fun _ _ _ H _ I h=>Constant_none ⟨.non,H,I,rfl,h⟩
theorem Xg {x j pos}:PE X (.Constant (.str x) j pos) (tC (.str x)):=fun _ _ _ H _ I h=>Calls.Constant_str ⟨.str x,H,I.tok _,⟨_,rfl⟩,h⟩
def Gl (X:Cx) (x:Str):Prop:=X.env.kindOf x=some .globalImplicit
theorem VF {E:Value→Shared→Prop} {pins:List (Addr×Obj)} {s:Shared} {σ:St} {H:Hp} {x:Str} {u:Value} {pos:Pos} {Q:Value→Shared→Prop} (I:Inv X pins σ H s) (hg:Gl X x) (hm:X.mg x=some u) (h:Q u s)
  (hd:(x==("__debug__":Str))=false:=by decide):wpAny (model X.prog X.w) X.A (eval (.Name x pos) X.env) Q E s :=
 Calls.Name_function_global I.ok.kind hg (Calls.loadGlobal_global (by rw [I.ok.glob];exact I.mod.glob.keeps I.bk) hm h) hd
theorem WU {E:Value→Shared→Prop} {pins:List (Addr×Obj)} {s:Shared} {σ:St} {H:Hp} {x:Str} {u:Value} {pos:Pos} {Q:Value→Shared→Prop} (I:Inv X pins σ H s) (hg:Gl X x) (hm:X.mg x=none) (hv:bootBuiltins x=some u) (h:Q u s)
  (hn:x≠"__name__":=by decide) (hd:(x==("__debug__":Str))=false:=by decide):wpAny (model X.prog X.w) X.A (eval (.Name x pos) X.env) Q E s:=by
 obtain ⟨mb,h1,h2⟩:=I.mod.blt
 exact Calls.Name_function_global I.ok.kind hg (Calls.loadGlobal_builtin (by rw [I.ok.glob];exact I.mod.glob.keeps I.bk) hm (by rw [I.ok.blt];exact h1.keeps I.bk) ((h2 x hn).trans hv) h) hd
theorem Yc5 {x:Str} {v:V} {u:Value} {pos:Pos} (hg:Gl X x) (hm:X.mg x=some u) (r:Yr v u) (hd:(x==("__debug__":Str))=false:=by decide):PE X (.Name x pos) (tC v) :=
 fun _ _ _ H _ I h=>VF I hg hm ⟨v,H,I,r,h⟩ hd
theorem Yc6 {x:Str} {v:V} {u:Value} {pos:Pos} (hg:Gl X x) (hm:X.mg x=none) (hv:bootBuiltins x=some u) (r:Yr v u) (hn:x≠"__name__":=by decide) (hd:(x==("__debug__":Str))=false:=by decide):PE X (.Name x pos) (tC v) :=
 fun _ _ _ H _ I h=>WU I hg hm hv ⟨v,H,I,r,h⟩ hn hd
variable {a b:Expr} {ta tb:TE} {pos:Pos}
def tB (t:TE):TT:=fun σ H Q=>t σ H fun x H1=>∃ c,x = .bl c∧Q c H1
theorem Vl {e:Expr} {t:TE} (h:PE X e t) (he:∀ whole,isTrue e X.env whole=(do let v ← whole;standAt e.pos;holding [v] (truthy v))):PT X e (tB t):=by
 intro pins s σ H Q I hw
 refine isTrue_plain (thn (h pins s σ H _ I hw) fun v s1 ⟨x,H1,I1,r1,q1⟩=>?_) (he _)
 obtain ⟨d,rfl,q⟩:=q1
 cases r1
 exact wpAny_truthy_bool ⟨H1,I1,q⟩
variable {tA tB':TT} {Xv:List Expr}
def tAnd (t u:TT):TT:=fun σ H Q=>t σ H fun c H1=>if c=true then u σ H1 Q else Q false H1
def tOr (t u:TT):TT:=fun σ H Q=>t σ H fun c H1=>if c=true then Q true H1 else u σ H1 Q
def tNot (t:TT):TT:=fun σ H Q=>t σ H fun c H1=>Q (!c) H1
theorem Ybi (ha:PT X a tA):PW X (.BoolOp .Or [a] pos) tA:=by
 intro wh pins s σ H Q I h
 refine isTrue_or (thn (ha pins s σ H Q I h) fun c s1 e=>?_)
 cases c with
 | false=>exact isTrue_or_nil e
 | true=>exact e
theorem YcJ (ha:PT X a tA) (hb:PW X (.BoolOp .Or (b::Xv) pos) tB'):PW X (.BoolOp .Or (a::b::Xv) pos) (tOr tA tB'):=by
 intro wh pins s σ H Q I h
 refine isTrue_or (thn (ha pins s σ H _ I h) fun c s1 ⟨H1,I1,q1⟩=>?_)
 cases c with
 | true=>exact ⟨H1,I1,q1⟩
 | false=>exact hb wh pins s1 σ H1 Q I1 q1
theorem Vm (ha:PT X a tA):PT X (.UnaryOp .Not a pos) (tNot tA):=by
 intro pins s σ H Q I h
 exact isTrue_not (ha pins s σ H (fun c H1=>Q (!c) H1) I h)
def YcK (ta tb:TE):TE:=fun σ H Q=>ta σ H fun x H1=>∃ c,x = .bl c∧if c=true then tb σ H1 Q else Q (.bl false) H1
def tOrV (ta tb:TE):TE:=fun σ H Q=>ta σ H fun x H1=>∃ c,x = .bl c∧if c=true then Q (.bl true) H1 else tb σ H1 Q
def YcL (ta:TE):TE:=fun σ H Q=>ta σ H fun x H1=>∃ c,x = .bl c∧Q (.bl (!c)) H1
theorem YdP {op} {t:TE} (h:PE X a t):PE X (.BoolOp op [a] pos) t:=fun pins s σ H Q I hw=>BoolOp_one (h pins s σ H Q I hw)
theorem YdQ (ha:PE X a ta) (hb:PE X (.BoolOp .And (b::Xv) pos) tb):PE X (.BoolOp .And (a::b::Xv) pos) (YcK ta tb):=by
 intro pins s σ H Q I h
 refine BoolOp_and (thn (ha pins s σ H _ I h) fun v s1 ⟨x,H1,I1,r1,q1⟩=>?_)
 obtain ⟨c,rfl,q1⟩:=q1
 cases r1
 refine wpAny_truthy_bool ?_
 cases c with
 | true=>exact hb pins s1 σ H1 Q I1 q1
 | false=>exact ⟨.bl false,H1,I1,rfl,q1⟩
theorem YdR (ha:PE X a ta):PE X (.UnaryOp .Not a pos) (YcL ta):=by
 intro pins s σ H Q I h
 refine UnaryOp_ (thn (ha pins s σ H _ I h) fun v s1 ⟨x,H1,I1,r1,q1⟩=>?_)
 obtain ⟨c,rfl,q1⟩:=q1
 cases r1
 exact not_of (wpAny_truthy_bool ⟨.bl (!c),H1,I1,rfl,q1⟩)
def tIf (t:TT) (ta tb:TE):TE:=fun σ H Q=>t σ H fun c H1=>if c=true then ta σ H1 Q else tb σ H1 Q
theorem Qk {c:Expr} (hc:PT X c tA) (ha:PE X a ta) (hb:PE X b tb):PE X (.IfExp c a b pos) (tIf tA ta tb):=by
 intro pins s σ H Q I h
 refine wpAny_IfExp (thn (hc pins s σ H _ I h) fun d s1 ⟨H1,I1,q1⟩=>?_)
 cases d with
 | true=>exact ha pins s1 σ H1 Q I1 q1
 | false=>exact hb pins s1 σ H1 Q I1 q1
end
end L2
namespace L2
open PySem PySem.Spec PyProof.Rows
def SqL (K:PySem.W.Frag) (H:Hp) (a:Addr) (xs:List V):Prop :=
 Rd H a (.lst xs) ∨
  ∃ (o:Obj) (its:Array Value) (n:Nat),K.lookup a=some o∧o.cls = .type "list"∧o.dict=none∧o.data = .seq its n∧its.size≤sizeLine∧Ym xs its.toList
def SqT (K:PySem.W.Frag) (H:Hp) (a:Addr) (xs:List V):Prop :=
 Rd H a (.tup xs) ∨
  ∃ (o:Obj) (its:Array Value) (n:Nat),K.lookup a=some o∧o.cls = .type "tuple"∧o.data = .seq its n∧its.size≤sizeLine∧Ym xs its.toList
def absV:Value→Option V
 | .none=>some .non
 | .bool b=>some (.bl b)
 | .int i _=>some (.int i)
 | .str x _=>some (.str x)
 | .bytes b _=>some (.byt b)
 | .float b _=>some (.flt b)
 | .ref a=>some (.ref a)
 | .type n=>some (.ty n)
 | _=>none
theorem Yr.abs {x:V} {u:Value} (r:Yr x u):absV u=some x:=by
 cases x with
 | non=>cases r;rfl
 | bl _=>cases r;rfl
 | int _=>obtain ⟨t,rfl⟩:=r;rfl
 | str _=>obtain ⟨t,rfl⟩:=r;rfl
 | byt _=>obtain ⟨t,rfl⟩:=r;rfl
 | flt _=>obtain ⟨t,rfl⟩:=r;rfl
 | ref _=>cases r;rfl
 | ty _=>cases r;rfl
theorem Yr.inj {x y:V} {u:Value} (r:Yr x u) (q:Yr y u):x=y:=Option.some.inj (r.abs.symm.trans q.abs)
theorem Ym.inj:∀ {xs ys:List V} {us:List Value},Ym xs us→Ym ys us→xs=ys
 | _,_,_,.nil,.nil=>rfl
 | _,_,_,.cons r t,.cons r' t'=>by rw [r.inj r',Ym.inj t t']
section
variable {X:Cx} {pins:List (Addr×Obj)} {σ:St} {H:Hp} {s:Shared} {a:Addr} {xs ys:List V}
theorem SqL.of {K:PySem.W.Frag} (h:H a=some (.lst xs)):SqL K H a xs := .inl (.inl h)
theorem SqT.of {K:PySem.W.Frag} (h:H a=some (.tup xs)):SqT K H a xs := .inl (.inl h)
theorem Inv.list (I:Inv X pins σ H s) (h:SqL X.K H a xs):∃ its:List Value,Ym xs its∧PlainL s.heap a its.toArray∧xs.length≤sizeLine:=by
 rcases h with h | ⟨o,its,n,hk,hc,hd,hs,hz,r⟩
 ·obtain ⟨z,its,n,r,e⟩:=h.ok I.hok
  exact ⟨its,r,⟨_,n,e,rfl,rfl,rfl⟩,z⟩
 ·refine ⟨its.toList,r,⟨o,n,I.kIn a o hk,hc,hd,by simpa using hs⟩,?_⟩
  have e:=r.length
  simp only [Array.length_toList] at e
  omega
theorem Inv.tuple (I:Inv X pins σ H s) (h:SqT X.K H a xs):∃ its:List Value,Ym xs its∧IsTup s.heap a its.toArray∧xs.length≤sizeLine:=by
 rcases h with h | ⟨o,its,n,hk,hc,hs,hz,r⟩
 ·obtain ⟨z,its,r,p⟩:=h.ok I.hok
  exact ⟨its,r,p,z⟩
 ·refine ⟨its.toList,r,⟨o,I.kIn a o hk,hc,n,by simpa using hs⟩,?_⟩
  have e:=r.length
  simp only [Array.length_toList] at e
  omega
theorem Inv.list_inj (I:Inv X pins σ H s) (h:SqL X.K H a xs) (h':SqL X.K H a ys):xs=ys:=by
 obtain ⟨its,r,⟨o,n,e,_,_,d⟩,_⟩:=I.list h
 obtain ⟨its',r',⟨o',n',e',_,_,d'⟩,_⟩:=I.list h'
 rw [e] at e';cases e'
 rw [d] at d'
 injection d' with d1 _
 have:its=its':=by simpa using congrArg Array.toList d1
 subst this
 exact r.inj r'
theorem Inv.tuple_inj (I:Inv X pins σ H s) (h:SqT X.K H a xs) (h':SqT X.K H a ys):xs=ys:=by
 obtain ⟨its,r,⟨o,e,_,n,d⟩,_⟩:=I.tuple h
 obtain ⟨its',r',⟨o',e',_,n',d'⟩,_⟩:=I.tuple h'
 rw [e] at e';cases e'
 rw [d] at d'
 injection d' with d1 _
 have:its=its':=by simpa using congrArg Array.toList d1
 subst this
 exact r.inj r'
end
abbrev Cx.wish (X:Cx) (E:Value→Shared→Prop):Cx:={ X with xe:=E }
abbrev Cx.nox (X:Cx):Cx:=X.wish fun _ _=>False
theorem Cx.Ok.wish {X:Cx} (ok:X.Ok) (E:Value→Shared→Prop):(X.wish E).Ok :=
 ⟨ok.mod,ok.kind,ok.glob,ok.blt,ok.above,ok.inj,ok.has,ok.cab,ok.hd,ok.frames,ok.stk,ok.exf,ok.bs,ok.bsz,ok.noex,ok.exfs,ok.funs,ok.frf⟩
theorem Cx.Ok.unwish {X:Cx} {E:Value→Shared→Prop} (ok:(X.wish E).Ok):X.Ok :=
 ⟨ok.mod,ok.kind,ok.glob,ok.blt,ok.above,ok.inj,ok.has,ok.cab,ok.hd,ok.frames,ok.stk,ok.exf,ok.bs,ok.bsz,ok.noex,ok.exfs,ok.funs,ok.frf⟩
section
variable {X:Cx} {pins:List (Addr×Obj)} {σ:St} {H:Hp} {s:Shared} {E:Value→Shared→Prop}
theorem Inv.wish (I:Inv X pins σ H s) (E:Value→Shared→Prop):Inv (X.wish E) pins σ H s:=⟨I.ok.wish E,I.os,I.bare,I.base,I.loc,I.cell,I.free,I.freeC,I.pin,I.hok,I.len⟩
theorem Inv.unwish (I:Inv (X.wish E) pins σ H s):Inv X pins σ H s:=⟨I.ok.unwish,I.os,I.bare,I.base,I.loc,I.cell,I.free,I.freeC,I.pin,I.hok,I.len⟩
theorem SP.unwish {D:Ends} {f:Flow} {s':Shared} (h:SP (X.wish E) pins D f s'):SP X pins D f s':=by
 cases f with
 | next=>obtain ⟨σ',H',I,q⟩:=h;exact ⟨σ',H',I.unwish,q⟩
 | brk=>obtain ⟨σ',H',I,q⟩:=h;exact ⟨σ',H',I.unwish,q⟩
 | cont=>obtain ⟨σ',H',I,q⟩:=h;exact ⟨σ',H',I.unwish,q⟩
 | ret u=>obtain ⟨v,σ',H',I,r,q⟩:=h;exact ⟨v,σ',H',I.unwish,r,q⟩
theorem PSs.nox {st:List Stmt} {t:TS} (h:PSs X.nox st t):PSs X st t:=fun pins s σ H D I hw =>
 wpAny_mono (h pins s σ H D (I.wish _) hw) (fun _ _ q=>q.unwish) fun _ _ z=>False.elim z
end
section
variable {X:Cx} {st:Stmt} {Xv:List Stmt} {t u:TS} {e:Expr} {te:TE} {pos:Pos}
def YcM:TS:=fun D σ H=>D.nx σ H
def XH (t u:TS):TS:=fun D σ H=>t { D with nx:=u D } σ H
theorem YR:PSs X [] YcM:=fun _ _ σ H _ I h=>wpAny_execs_nil ⟨σ,H,I,h⟩
theorem Yg (h1:PS X st t) (h2:PSs X Xv u):PSs X (st::Xv) (XH t u):=by
 intro pins s σ H D I h
 refine wpAny_execs_cons (thn (h1 pins s σ H { D with nx:=u D } I h) fun f s1 q=>?_)
 cases f with
 | next =>
  obtain ⟨σ',H',I',q⟩:=q
  exact h2 pins s1 σ' H' D I' q
 | ret v=>exact q
 | brk=>exact q
 | cont=>exact q
theorem Yi (h1:PS X st t):PSs X [st] t:=by
 intro pins s σ H D I h
 refine wpAny_execs_cons (thn (h1 pins s σ H D I h) fun f s1 q=>?_)
 cases f with
 | next=>exact wpAny_execs_nil q
 | ret v=>exact q
 | brk=>exact q
 | cont=>exact q
def YdS:TS:=fun D σ H=>D.bk σ H
def tCont:TS:=fun D σ H=>D.ct σ H
theorem Inv.quiet {pins:List (Addr×Obj)} {σ:St} {H:Hp} {s:Shared} (I:Inv X pins σ H s):interactive X.env=false:=by simp [interactive,I.ok.kind]
def YcN (te:TE):TS:=fun D σ H=>te σ H fun _ H1=>D.nx σ H1
theorem YZ (he:PE X e te) (hs:swapsWith e none pos.line X.env=pure false):PS X (.Expr e pos) (YcN te):=by
 intro pins s σ H D I h
 exact wpAny_Expr_any (thn (he pins s σ H _ I h) fun v s1 ⟨x,H1,I1,r1,q1⟩=>⟨σ,H1,I1,q1⟩) I.quiet hs
def tRet (te:TE):TS:=fun D σ H=>te σ H D.rt
theorem Yo (he:PE X e te):PS X (.Return (some e) pos) (tRet te):=by
 intro pins s σ H D I h
 exact wpAny_Return_some (thn (he pins s σ H _ I h) fun v s1 ⟨x,H1,I1,r1,q1⟩=>⟨x,σ,H1,I1,r1,q1⟩)
def tRetN:TS:=fun D _ H=>D.rt .non H
def tIfS (c:TT) (t u:TS):TS:=fun D σ H=>c σ H fun b H1=>if b=true then t D σ H1 else u D σ H1
theorem Y9 {c:Expr} {a b:List Stmt} {tc:TT} (hc:PT X c tc) (ha:PSs X a t) (hb:PSs X b u):PS X (.If c a b pos) (tIfS tc t u):=by
 intro pins s σ H D I h
 refine wpAny_If (thn (hc pins s σ H _ I h) fun d s1 ⟨H1,I1,q1⟩=>?_)
 cases d with
 | true=>exact ha pins s1 σ H1 D I1 q1
 | false=>exact hb pins s1 σ H1 D I1 q1
def Ybj:TS:=fun _ _ _=>False
theorem XV:PS X st Ybj:=fun _ _ _ _ _ _ h=>h.elim
end
abbrev TG:=V→St→Hp→(St→Hp→Prop)→Prop
abbrev TGs:=List V→St→Hp→(St→Hp→Prop)→Prop
def PG (X:Cx) (target:Expr) (t:TG):Prop :=
 ∀ (pins:List (Addr×Obj)) (s:Shared) (σ:St) (H:Hp) (v:V) (u:Value) (Q:St→Hp→Prop),Inv X pins σ H s→Yr v u→t v σ H Q →
  wpAny (model X.prog X.w) X.A (assign target X.env u) (fun _ s'=>∃ σ' H',Inv X pins σ' H' s'∧Q σ' H') X.xe s
def PGs (X:Cx) (ts:List Expr) (t:TGs):Prop :=
 ∀ (pins:List (Addr×Obj)) (s:Shared) (σ:St) (H:Hp) (vs:List V) (us:List Value) (Q:St→Hp→Prop),Inv X pins σ H s→Ym vs us→t vs σ H Q →
  wpAny (model X.prog X.w) X.A (assignInOrder ((assignEach ts X.env).map (·.2)) us) (fun _ s'=>∃ σ' H',Inv X pins σ' H' s'∧Q σ' H') X.xe s
abbrev TSet:=V→V→V→Hp→(Hp→Prop)→Prop
abbrev TIp:=V→V→Hp→VK→Prop
section
variable {X:Cx} {pos:Pos}
def Yv (i:Nat):TG:=fun v σ H Q=>Q (σ.set i (some v)) H
theorem Yn {i:Nat} {x:Str} (hN:X.N.Nodup) (hi:X.N[i]?=some x) (hx:Loc X.env.scope x) (hf:X.fn x=true∨X.env.scope.names.lookup x=some .local:=by first | exact .inl rfl | exact .inr rfl | assumption):PG X (.Name x pos) (Yv i):=by
 intro pins s σ H v u Q I r h
 exact wpAny_assign_Name (Qj I hN hi hx r (fun s' I'=>⟨_,H,I',h⟩) hf)
def WP:TGs:=fun vs σ H Q=>vs=[]∧Q σ H
def Xp (t:TG) (u:TGs):TGs:=fun vs σ H Q=>∃ v r,vs=v::r∧t v σ H fun σ' H'=>u r σ' H' Q
theorem XO:PGs X [] WP:=by
 intro pins s σ H vs us Q I r h
 obtain ⟨e,h⟩:=h
 subst e
 cases r
 exact assignInOrder_nil ⟨σ,H,I,h⟩
theorem YL {e:Expr} {es:List Expr} {t:TG} {u:TGs} (h1:PG X e t) (h2:PGs X es u)
  (hs:(assignEach (e::es) X.env).map (·.2)=assign e X.env::(assignEach es X.env).map (·.2)):PGs X (e::es) (Xp t u):=by
 intro pins s σ H vs us Q I r h
 obtain ⟨v,vr,e1,h⟩:=h
 subst e1
 cases r with
 | cons r rr =>
  rw [hs]
  refine assignInOrder_cons (thn (h1 pins s σ H _ _ _ I r h) fun _ s1 ⟨σ1,H1,I1,q1⟩=>?_)
  exact h2 pins s1 σ1 H1 _ _ Q I1 rr q1
def WQ (K:PySem.W.Frag) (n:Nat) (t:TGs):TG:=fun v σ H Q=>∃ a xs,v = .ref a∧SqT K H a xs∧xs.length=n∧t xs σ H Q
theorem XZ {es:List Expr} {k:Nat} {t:TGs} {n:Nat} (hc:X.calm=true) (h:PGs X es t)
  (hn:(assignEach es X.env).length=n) (hst:(assignEach es X.env).findIdx? (·.1)=none):PG X (.Tuple es k pos) (WQ X.K n t):=by
 intro pins s σ H v u Q I r hw
 obtain ⟨a,xs,e1,hq,hl,hw⟩:=hw
 subst e1
 cases r
 obtain ⟨its,rv,ht,hz⟩:=I.tuple hq
 refine assign_Tuple_tuple (I.ok.hd hc) ht (by simp [hn,← hl,rv.length]) hst fun h' hx=>?_
 have I1:Inv X pins σ H { s with heap:=h' }:=I.kept (t':=s.toks) fun b o e=>hx b o (Nat.ne_of_lt (Heap.lt_size e)) e
 exact h pins _ σ H xs _ Q I1 (by simpa using rv) hw
def gSub (to ti:TE) (t:TSet):TG:=fun v σ H Q=>to σ H fun o H1=>ti σ H1 fun i H2=>t o i v H2 fun H3=>Q σ H3
def Yav (te:TE) (g:TG):TS:=fun D σ H=>te σ H fun x H1=>g x σ H1 D.nx
theorem YdT {tg e:Expr} {te:TE} {g:TG} (he:PE X e te) (hg:PG X tg g) (hs:swapsWithSole [tg] e pos.line X.env=pure false) (hw:swappedStores [tg] e X.env=pure none)
  (h1:(assignEach [tg] X.env).map (·.2)=[assign tg X.env]):PS X (.Assign [tg] e pos) (Yav te g):=by
 intro pins s σ H D I h
 refine wpAny_Assign_stores (thn (he pins s σ H _ I h) fun v s1 ⟨x,H1,I1,r1,q1⟩=>?_) hs hw
 rw [h1]
 exact thn (hg pins s1 σ H1 x v _ I1 r1 q1) fun _ s2 q=>q
theorem Yp {i:Nat} {x:Str} {e:Expr} {te:TE} {pos':Pos} (hN:X.N.Nodup) (hi:X.N[i]?=some x) (hx:Loc X.env.scope x) (he:PE X e te) (hs:swapsWith e (some (.Name x pos')) pos.line X.env=pure false) (hf:X.fn x=true∨X.env.scope.names.lookup x=some .local) :
  PS X (.Assign [.Name x pos'] e pos) (Yav te (Yv i)):=by
 intro pins s σ H D I h
 refine wpAny_Assign_Name (thn (he pins s σ H _ I h) fun v s1 ⟨y,H1,I1,r1,q1⟩=>?_) hs
 exact Qj I1 hN hi hx r1 (fun s2 I2=>⟨_,H1,I2,q1⟩) hf
def tAug (i:Nat) (te:TE) (ti:TIp):TS:=fun D σ H=>∃ x,σ[i]?=some (some x)∧te σ H fun y H1=>ti x y H1 fun z H2=>D.nx (σ.set i (some z)) H2
def ipI (f:Int→Int→Int):TIp:=fun x y H Q=>∃ i j,x = .int i∧y = .int j∧Q (.int (f i j)) H
end
section
variable {X:Cx} {pos:Pos}
def Ybk (c:TT) (tb:TS):TS:=fun D σ H=>∃ W:Nat→St→Hp→Prop,(∃ m,W m σ H)∧∀ m σ H,W m σ H →
 c σ H fun b H1=>if b=true then ∃ N:St→Hp→Prop,(∀ σ' H',N σ' H'→∃ m',m'<m∧W m' σ' H')∧tb { D with nx:=N,ct:=N,bk:=D.nx } σ H1 else D.nx σ H1
theorem WA {c:Expr} {body:List Stmt} {tc:TT} {tb:TS} (hp:PassesOwn (model X.prog X.w) X.A X.env X.xe) (hc:PT X c tc) (hb:PSs X body tb):PS X (.While c body [] pos) (Ybk tc tb):=by
 intro pins s σ H D I h
 obtain ⟨W,⟨m0,w0⟩,turn⟩:=h
 refine wpAny_While (codeAny_whileLoop (fun n s'=>∃ σ' H',Inv X pins σ' H' s'∧W n σ' H') ?_ m0 ⟨σ,H,I,w0⟩)
 rintro n s1 ⟨σ1,H1,I1,w1⟩
 refine wpAny_passesOwn hp (thn (hc pins s1 σ1 H1 _ I1 (turn n σ1 H1 w1)) fun b s2 ⟨H2,I2,q2⟩=>?_)
 cases b with
 | true =>
  obtain ⟨N,hN,q2⟩:=q2
  rw [if_pos rfl]
  refine wpAny_passesOwn hp (thn (hb pins s2 σ1 H2 _ I2 q2) fun f s3 q3=>?_)
  cases f with
  | next =>
   obtain ⟨σ3,H3,I3,n3⟩:=q3
   obtain ⟨m',hm,w3⟩:=hN σ3 H3 n3
   exact ⟨m',hm,σ3,H3,I3,w3⟩
  | cont =>
   obtain ⟨σ3,H3,I3,n3⟩:=q3
   obtain ⟨m',hm,w3⟩:=hN σ3 H3 n3
   exact ⟨m',hm,σ3,H3,I3,w3⟩
  | brk=>exact q3
  | ret v=>exact q3
 | false =>
  rw [if_neg Bool.false_ne_true]
  exact wpAny_execs_nil ⟨σ1,H2,I2,q2⟩
end
structure It where
 go:Nat→Hp→Prop
 yld:Nat→Hp→V→Hp→Prop
 stop:Nat→Hp→Prop
def XJ (X:Cx) (pins:List (Addr×Obj)) (H:Hp) (b:Addr):Prop :=
 H b=none∧b≠X.env.locals∧b∉X.fs∧(b∈X.ex∨X.s₀.heap.objs.size≤b)∧(∀ x c,X.env.cells.lookup x=some c→c≠b)∧∀ p∈X.pn++pins,p.1≠b
theorem Inv.fpOk {X:Cx} {pins:List (Addr×Obj)} {σ:St} {H H':Hp} {s:Shared} {b:Addr} (I:Inv X pins σ H s) (hb:s.heap.objs.size≤b) (hn:H' b=none):XJ X pins H' b:=by
 refine ⟨hn,Nat.ne_of_gt (Nat.lt_of_lt_of_le I.lt hb),I.nofs hb,.inr (Nat.le_trans I.sz hb),fun x c e z=>?_,fun p hp z=>?_⟩
 ·obtain ⟨v,q⟩:=I.cell x c e
  exact absurd (Nat.lt_of_lt_of_le q.lt (by rw [z];exact hb)) (Nat.lt_irrefl _)
 ·exact absurd (Nat.lt_of_lt_of_le (Heap.lt_size (I.pin p hp).1) (by rw [z];exact hb)) (Nat.lt_irrefl _)
structure Turn (P:Program) (w:World) (K:PySem.W.Frag) (tg:Expr) (J:It) (fp:List Addr) (it:Addr) (tn:Nat→Heap→Prop):Prop where
 mem:it∈fp
 obj:∀ i h,tn i h→∀ b∈fp,∃ o,h.get? b=some o∧∀ v,o.data ≠ .cell v
 keep:∀ i h h',tn i h→(∀ b∈fp,∀ o,h.get? b=some o→h'.get? b=some o)→tn i h'
 item:∀ (X:Cx),X.prog=P→X.w=w→X.K=K→X.calm=true→∀ (i:Nat) (pins:List (Addr×Obj)) (s:Shared) (σ:St) (H:Hp) (E:Value→Shared→Prop),Inv X pins σ H s→(∀ b∈fp,XJ X pins H b)→tn i s.heap→J.go i H →
  wpAny (model P w) X.A (pyNext (.ref it)) (fun r s1=>∃ u,r=some u ∧
   wpAny (model P w) X.A (letOwnedTupleGo tg (.ref it) u) (fun _ s2=>∃ x H',Inv X pins σ H' s2∧Yr x u∧J.yld i H x H'∧tn (i+1) s2.heap∧∀ b∈fp,H' b=none) E s1) E s
 done:∀ (X:Cx),X.prog=P→X.w=w→X.K=K→X.calm=true→∀ (i:Nat) (pins:List (Addr×Obj)) (s:Shared) (σ:St) (H:Hp) (E:Value→Shared→Prop),Inv X pins σ H s→(∀ b∈fp,XJ X pins H b)→tn i s.heap→J.stop i H →
  wpAny (model P w) X.A (pyNext (.ref it)) (fun r s1=>r=none∧Inv X pins σ H s1) E s
 self:∀ (A:Around) (i:Nat) (s:Shared) (Q:Value→Shared→Prop) (E:Value→Shared→Prop),tn i s.heap→Q (.ref it) s→wpAny (model P w) A (pyIter (.ref it)) Q E s
abbrev TI:=St→Hp→(It→Hp→Prop)→Prop
def PIE (X:Cx) (pins:List (Addr×Obj)) (σ:St) (tg:Expr) (R:It→Hp→Prop) (itv:Value) (s2:Shared):Prop :=
 ∃ (it:Addr) (fp:List Addr) (tn:Nat→Heap→Prop) (J:It) (H':Hp),itv = .ref it∧Inv X pins σ H' s2∧Turn X.prog X.w X.K tg J fp it tn∧tn 0 s2.heap∧(∀ b∈fp,XJ X pins H' b)∧R J H'
def PI (X:Cx) (tg iter:Expr) (wi:TI):Prop :=
 ∀ (pins:List (Addr×Obj)) (s:Shared) (σ:St) (H:Hp) (R:It→Hp→Prop),Inv X pins σ H s→wi σ H R →
  wpAny (model X.prog X.w) X.A (eval iter X.env) (fun v s1=>wpAny (model X.prog X.w) X.A (pyIter v) (PIE X pins σ tg R) X.xe s1) X.xe s
theorem Qa {M:Model} {A:Around} {E:Value→Shared→Prop} {s:Shared} {tg:Expr} {it:Addr} {u:Value} {o:Obj} {n:String} {vs:Array Value} {Q:Unit→Shared→Prop} (ho:s.heap.get? it=some o) (hc:o.cls = .type n) (hd:o.data = .fields vs)
  (hn:["enumerate","zip","dict_itemiterator","dict_reverseitemiterator","odict_iterator","itertools.zip_longest","itertools.pairwise"].contains n=false) (hQ:Q () s):wpAny M A (letOwnedTupleGo tg (.ref it) u) Q E s:=by
 unfold letOwnedTupleGo
 cases tg<;>first
  | exact wpAny_pure hQ
  | (cases u<;>first
    | exact wpAny_pure hQ
    | (refine wpAny_bind (wpAny_load ho ?_)
       rw [hc,hd]
       show wpAny M A (if (["enumerate","zip","dict_itemiterator","dict_reverseitemiterator","odict_iterator","itertools.zip_longest","itertools.pairwise"].contains n&&vs[0]?==some (rawInt _))=true then _ else _) Q E s
       rw [if_neg (by intro h;rw [hn,Bool.false_and] at h;cases h)]
       exact wpAny_pure hQ))
def Itl (K:PySem.W.Frag) (a:Addr):It :=
 ⟨fun i H=>∃ xs x,SqL K H a xs∧xs[i]?=some x,fun i H x H'=>H'=H∧∀ xs,SqL K H a xs→xs[i]?=some x,fun i H=>∃ xs,SqL K H a xs∧xs.length≤i⟩
def Itt (K:PySem.W.Frag) (a:Addr):It :=
 ⟨fun i H=>∃ xs x,SqT K H a xs∧xs[i]?=some x,fun i H x H'=>H'=H∧∀ xs,SqT K H a xs→xs[i]?=some x,fun i H=>∃ xs,SqT K H a xs∧xs.length≤i⟩
def Itr (lo:Int) (n:Nat):It:=⟨fun i _=>i<n,fun i H x H'=>H'=H∧x = .int (lo+i),fun i _=>n≤i⟩
theorem Ybl {P:Program} {w:World} {K:PySem.W.Frag} {tg:Expr} (a it:Addr):Turn P w K tg (Itl K a) [it] it (fun i h=>h.IsListIter it a i) where
 mem:=by simp
 obj:=fun i h st b hb=>by
  have e:b=it:=by simpa using hb
  subst e
  obtain ⟨o,e,c,d⟩:=st
  exact ⟨o,e,fun v z=>by rw [d] at z;cases z⟩
 keep:=fun i h h' st k=>st.at fun o e=>k it (by simp) o e
 item:=by
  intro X hP hw hK hc i pins s σ H E I hf st hg
  subst hP hw hK
  obtain ⟨xs,x,hq,hx⟩:=hg
  obtain ⟨its,rv,p,hz⟩:=I.list hq
  obtain ⟨u,hu,ru⟩:=rv.get hx
  obtain ⟨f0,f1,f2,f3,f4,f5⟩:=hf it (by simp)
  refine wpAny_pyNext_list_item st p.isList (x:=u) (by simpa using hu) fun h' st' sb=>?_
  have I1:Inv X pins σ H { s with heap:=h' }:=I.turned (t':=s.toks) (fun b o hb e=>(sb.2 b hb).trans e) f0 f1 f3 f4 f5
  obtain ⟨o,e,c,d⟩:=id st'
  exact ⟨u,rfl,Qa (s:={ s with heap:=h' }) e c d (by decide) ⟨x,H,I1,ru,⟨rfl,fun ys hy=>by rw [I.list_inj hy hq];exact hx⟩,st',fun b hb=>(hf b hb).1⟩⟩
 done:=by
  intro X hP hw hK hc i pins s σ H E I hf st hg
  subst hP hw hK
  obtain ⟨xs,hq,hx⟩:=hg
  obtain ⟨its,rv,p,hz⟩:=I.list hq
  obtain ⟨f0,f1,f2,f3,f4,f5⟩:=hf it (by simp)
  have hl:=rv.length
  exact wpAny_pyNext_list_end (I.ok.hd hc) st p.isList (by simp;omega) fun h' eb=>⟨rfl,I.turned (t':=s.toks) (fun b o hb e=>eb b o hb e) f0 f1 f3 f4 f5⟩
 self:=fun _ _ _ _ _ st h=>wpAny_pyIter_listiter st h
theorem Yaw {P:Program} {w:World} {K:PySem.W.Frag} {tg:Expr} (a it:Addr):Turn P w K tg (Itt K a) [it] it (fun i h=>h.IsTupleIter it a i) where
 mem:=by simp
 obj:=fun i h st b hb=>by
  have e:b=it:=by simpa using hb
  subst e
  obtain ⟨o,e,c,d⟩:=st
  exact ⟨o,e,fun v z=>by rw [d] at z;cases z⟩
 keep:=fun i h h' st k=>st.at fun o e=>k it (by simp) o e
 item:=by
  intro X hP hw hK hc i pins s σ H E I hf st hg
  subst hP hw hK
  obtain ⟨xs,x,hq,hx⟩:=hg
  obtain ⟨its,rv,p,hz⟩:=I.tuple hq
  obtain ⟨u,hu,ru⟩:=rv.get hx
  obtain ⟨f0,f1,f2,f3,f4,f5⟩:=hf it (by simp)
  refine wpAny_pyNext_tuple_item st (show s.heap.IsTuple a its.toArray from p) (x:=u) (by simpa using hu) fun h' st' sb=>?_
  have I1:Inv X pins σ H { s with heap:=h' }:=I.turned (t':=s.toks) (fun b o hb e=>(sb.2 b hb).trans e) f0 f1 f3 f4 f5
  obtain ⟨o,e,c,d⟩:=id st'
  exact ⟨u,rfl,Qa (s:={ s with heap:=h' }) e c d (by decide) ⟨x,H,I1,ru,⟨rfl,fun ys hy=>by rw [I.tuple_inj hy hq];exact hx⟩,st',fun b hb=>(hf b hb).1⟩⟩
 done:=by
  intro X hP hw hK hc i pins s σ H E I hf st hg
  subst hP hw hK
  obtain ⟨xs,hq,hx⟩:=hg
  obtain ⟨its,rv,p,hz⟩:=I.tuple hq
  obtain ⟨f0,f1,f2,f3,f4,f5⟩:=hf it (by simp)
  have hl:=rv.length
  exact wpAny_pyNext_tuple_end (I.ok.hd hc) st (show s.heap.IsTuple a its.toArray from p) (by simp;omega) fun h' eb=>⟨rfl,I.turned (t':=s.toks) (fun b o hb e=>eb b o hb e) f0 f1 f3 f4 f5⟩
 self:=fun _ _ _ _ _ st h=>wpAny_pyIter_tupleiter st h
theorem Yax {P:Program} {w:World} {K:PySem.W.Frag} {tg:Expr} (it:Addr) (lo:Int) (n:Nat):Turn P w K tg (Itr lo n) [it] it (fun i h=>IsRangeIter h it (lo+(i:Nat)*1) ((n:Int) - (i:Nat)) 1) where
 mem:=by simp
 obj:=fun i h st b hb=>by
  have e:b=it:=by simpa using hb
  subst e
  exact ⟨_,st,fun v z=>by
   have z':Data.fields _=Data.cell v:=z
   cases z'⟩
 keep:=fun i h h' st k=>k it (by simp) _ st
 item:=by
  intro X hP hw hK hc i pins s σ H E I hf st hg
  subst hP hw hK
  obtain ⟨f0,f1,f2,f3,f4,f5⟩:=hf it (by simp)
  have W:=Walks.range (prog:=X.prog) (w:=X.w) (I.ok.hd hc) it lo 1 n
  refine W.item i s _ _ hg st fun v h' tk hv st' kk=>?_
  obtain ⟨t,rfl⟩:=hv
  have I1:Inv X pins σ H { s with heap:=h',toks:=tk }:=I.turned (fun b o hb e=>kk b o (by simpa using hb) e) f0 f1 f3 f4 f5
  refine ⟨_,rfl,Qa (s:={ s with heap:=h',toks:=tk }) (n:="range_iterator") st' rfl rfl (by decide) ⟨.int (lo+i),H,I1,⟨t,?_⟩,⟨rfl,rfl⟩,st',fun b hb=>(hf b hb).1⟩⟩
  rw [Int.mul_one]
 done:=by
  intro X hP hw hK hc i pins s σ H E I hf st hg
  subst hP hw hK
  obtain ⟨f0,f1,f2,f3,f4,f5⟩:=hf it (by simp)
  exact wpAny_pyNext_range_end (I.ok.hd hc) st (by have:n≤i:=hg;omega) fun h' eb=>⟨rfl,I.turned (t':=s.toks) (fun b o hb e=>eb b o hb e) f0 f1 f3 f4 f5⟩
 self:=fun _ _ _ _ _ st h=>wpAny_pyIter_rangeiter st h
end L2
namespace L2
open PySem PySem.Spec PyProof.Rows
section
variable {X:Cx} {tg:Expr}
def Wq (K:PySem.W.Frag) (tl:TE):TI:=fun σ H R=>tl σ H fun x H1=>∃ a,x = .ref a∧(∃ xs,SqL K H1 a xs)∧R (Itl K a) H1
def iTup (K:PySem.W.Frag) (tl:TE):TI:=fun σ H R=>tl σ H fun x H1=>∃ a,x = .ref a∧(∃ xs,SqT K H1 a xs)∧R (Itt K a) H1
theorem Xr {l:Expr} {tl:TE} (hl:PE X l tl):PI X tg l (Wq X.K tl):=by
 intro pins s σ H R I h
 refine thn (hl pins s σ H _ I h) fun v s1 ⟨x,H1,I1,r1,q1⟩=>?_
 obtain ⟨a,e,⟨xs,hq⟩,q⟩:=q1
 subst e
 cases r1
 obtain ⟨its,rv,p,hz⟩:=I1.list hq
 refine wpAny_pyIter_list p.isList ?_
 refine ⟨s1.heap.objs.size,[s1.heap.objs.size],_,_,H1,rfl,I1.kept (t':=s1.toks) fun b o e=>Heap.get?_push_of_some _ e,Ybl a _,⟨_,Heap.get?_push_size _ rfl,rfl,rfl⟩,fun b hb=>?_,q⟩
 have e:b=s1.heap.objs.size:=by simpa using hb
 subst e
 exact I1.fpOk (Nat.le_refl _) (I1.hok.fresh (Nat.le_refl _))
theorem V0 {l:Expr} {tl:TE} (hl:PE X l tl):PI X tg l (iTup X.K tl):=by
 intro pins s σ H R I h
 refine thn (hl pins s σ H _ I h) fun v s1 ⟨x,H1,I1,r1,q1⟩=>?_
 obtain ⟨a,e,⟨xs,hq⟩,q⟩:=q1
 subst e
 cases r1
 obtain ⟨its,rv,p,hz⟩:=I1.tuple hq
 refine wpAny_pyIter_tuple (show s1.heap.IsTuple a its.toArray from p) ?_
 refine ⟨s1.heap.objs.size,[s1.heap.objs.size],_,_,H1,rfl,I1.kept (t':=s1.toks) fun b o e=>Heap.get?_push_of_some _ e,Yaw a _,⟨_,Heap.get?_push_size _ rfl,rfl,rfl⟩,fun b hb=>?_,q⟩
 have e:b=s1.heap.objs.size:=by simpa using hb
 subst e
 exact I1.fpOk (Nat.le_refl _) (I1.hok.fresh (Nat.le_refl _))
theorem Yb9 {pins:List (Addr×Obj)} {σ:St} {H:Hp} {s:Shared} {R:It→Hp→Prop} {E:Value→Shared→Prop} {lo hi:Int} {t u v:Tok} {tk:Nat} (I:Inv X pins σ H s) (h1 : -(2^62)≤lo) (h2:lo<2^62) (h3 : -(2^62)≤hi) (h4:hi<2^62)
  (q:R (Itr lo (hi - lo).toNat) H):wpAny (model X.prog X.w) X.A (pyIter (.ref s.heap.objs.size)) (PIE X pins σ tg R) E { s with heap:=s.heap.push { cls := .type "range",data := .fields #[.int lo t,.int hi u,.int 1 v] },toks:=tk }:=by
 refine wpAny_pyIter_range (IsRange.new ..) (small_one h1 h2 h3 h4) ?_
 have I1:Inv X pins σ H { s with heap:=s.heap.push { cls := .type "range",data := .fields #[.int lo t,.int hi u,.int 1 v] },toks:=tk }:=I.kept fun b o e=>Heap.get?_push_of_some _ e
 refine ⟨(s.heap.push { cls := .type "range",data := .fields #[.int lo t,.int hi u,.int 1 v] }).objs.size,[(s.heap.push { cls := .type "range",data := .fields #[.int lo t,.int hi u,.int 1 v] }).objs.size],_,_,H,rfl,
  I1.kept (t':=tk) fun b o e=>Heap.get?_push_of_some _ e,Yax _ lo (hi - lo).toNat,?_,fun b hb=>?_,q⟩
 ·have e1:lo+((0:Nat):Int)*1=lo:=by simp
  have e2:(((hi - lo).toNat:Nat):Int) - ((0:Nat):Int)=Builtin.Range.rangeSize lo hi 1:=by rw [rangeSize_one];split<;>omega
  show IsRangeIter _ _ (lo+((0:Nat):Int)*1) ((((hi - lo).toNat:Nat):Int) - ((0:Nat):Int)) 1
  rw [e1,e2]
  exact Heap.get?_push_size _ rfl
 ·have e:b=(s.heap.push { cls := .type "range",data := .fields #[.int lo t,.int hi u,.int 1 v] }).objs.size:=by simpa using hb
  subst e
  exact I1.fpOk (Nat.le_refl _) (I1.hok.fresh (Nat.le_refl _))
def V1 (ta:TA):TI:=fun σ H R=>ta σ H fun vs H1=>∃ j:Int,vs=[.int j] ∧ -(2^62)≤j∧j<2^62∧R (Itr 0 j.toNat) H1
theorem Y8 {a:Expr} {ta:TA} {p pos:Pos} (hg:Gl X "range") (hm:X.mg "range"=none) (ha:PA X [a] ta) (hs:starEach [a] X.env=[(false,eval a X.env)]):PI X tg (.Call (.Name "range" p) [a] [] pos) (V1 ta):=by
 intro pins s σ H R I h
 refine Call_ (WU I hg hm boot_range (PyProof.Rows.callWith_type1 (thn (ha pos pins s σ H _ I h) fun us s1 ⟨vs,H1,I1,r1,q1⟩=>?_) hs rfl))
 obtain ⟨j,e,q1,q2,q⟩:=q1
 subst e
 cases r1 with
 | cons r rr =>
  cases rr
  obtain ⟨t,rfl⟩:=r
  exact call_range_1 (Yb9 I1 (by omega) (by omega) q1 q2 (by simpa using q))
def Vn (wi:TI) (g:TG) (tb:TS):TS:=fun D σ H=>wi σ H fun J H1=>∃ W:Nat→Nat→St→Hp→Prop,(∃ m,W 0 m σ H1)∧∀ i m σ H,W i m σ H →
 (J.stop i H∧D.nx σ H)∨(J.go i H∧∃ N:St→Hp→Prop,(∀ σ' H',N σ' H'→∃ m',m'<m∧W (i+1) m' σ' H')∧∀ x H',J.yld i H x H'→g x σ H' fun σ2 H2=>tb { D with nx:=N,ct:=N,bk:=D.nx } σ2 H2)
def WV (fp:List Addr) (h:Heap):List (Addr×Obj):=fp.filterMap fun b=>(h.get? b).map fun o=>(b,o)
theorem XF {fp:List Addr} {h:Heap} {b:Addr} {o:Obj} (hb:b∈fp) (e:h.get? b=some o):(b,o)∈WV fp h:=List.mem_filterMap.mpr ⟨b,hb,by rw [e];rfl⟩
theorem Ybm {fp:List Addr} {h:Heap} {p:Addr×Obj} (hp:p∈WV fp h):p.1∈fp∧h.get? p.1=some p.2:=by
 obtain ⟨b,hb,e⟩:=List.mem_filterMap.mp hp
 cases q:h.get? b with
 | none=>rw [q] at e;cases e
 | some o =>
  rw [q] at e
  have e':(b,o)=p:=Option.some.inj e
  subst e'
  exact ⟨hb,q⟩
theorem Inv.pinned {pins:List (Addr×Obj)} {σ:St} {H:Hp} {s:Shared} {fp:List Addr} (I:Inv X pins σ H s) (hf:∀ b∈fp,XJ X pins H b) (ho:∀ b∈fp,∃ o,s.heap.get? b=some o∧∀ v,o.data ≠ .cell v):Inv X (pins++WV fp s.heap) σ H s :=
 I.pins_of fun p hp=>(List.mem_append.mp hp).elim (fun z=>I.pin p (List.mem_append_right _ z)) fun z=>by
  obtain ⟨hb,e⟩:=Ybm z
  obtain ⟨f0,f1,f2,_⟩:=hf p.1 hb
  obtain ⟨o,e',d⟩:=ho p.1 hb
  rw [e] at e';cases e'
  exact ⟨e,f0,f1,f2,d⟩
theorem Inv.unpinned {pins pl:List (Addr×Obj)} {σ:St} {H:Hp} {s:Shared} (I:Inv X (pins++pl) σ H s):Inv X pins σ H s:=I.pins_of fun p hp=>I.pin p (List.mem_append_right _ (List.mem_append_left _ hp))
theorem Xn {iter:Expr} {body:List Stmt} {wi:TI} {g:TG} {tb:TS} {pos:Pos} (hp:PassesOwn (model X.prog X.w) X.A X.env X.xe) (hc:X.calm=true) (hi:PI X tg iter wi) (hg:PG X tg g) (hb:PSs X body tb)
  (hs:∀ x,foldedSetIterable iter X.env x=pure x):PS X (.For tg iter body [] pos) (Vn wi g tb):=by
 intro pins s σ H D I h
 refine wpAny_For (thn (hi pins s σ H _ I h) fun v s1 h1=>thn h1 fun itv s2 h2=>?_) hs
 obtain ⟨it,fp,tn,J,H2,e,I2,T,st2,f2,W,⟨m0,w0⟩,turn⟩:=h2
 subst e
 -- what stays true of the iterator's objects through the loop
 have stat:∀ {H':Hp},(∀ b∈fp,H' b=none)→∀ b∈fp,XJ X pins H' b:=fun hn b hb=>⟨hn b hb,(f2 b hb).2⟩
 refine codeAny_forLoop_any (fun n s'=>∃ i σ' H',Inv X pins σ' H' s'∧tn i s'.heap∧(∀ b∈fp,H' b=none)∧W i n σ' H') ?_ m0 ⟨0,σ,H2,I2,st2,fun b hb=>(f2 b hb).1,w0⟩
 rintro n s3 ⟨i,σ3,H3,I3,st3,fr3,w3⟩
 rcases turn i n σ3 H3 w3 with ⟨stop,qn⟩ | ⟨go,N,hN,step⟩
 ·refine wpAny_passesOwn hp (thn (T.done X rfl rfl rfl hc i pins s3 σ3 H3 X.xe I3 (stat fr3) st3 stop) fun r s4 ⟨hr,I4⟩=>?_)
  subst hr
  exact wpAny_execs_nil ⟨σ3,H3,I4,qn⟩
 ·refine wpAny_passesOwn hp (thn (T.item X rfl rfl rfl hc i pins s3 σ3 H3 X.xe I3 (stat fr3) st3 go) fun r s4 ⟨u,hr,h4⟩=>?_)
  subst hr
  refine wpAny_passesOwn hp (thn h4 fun _ s5 ⟨x,H5,I5,r5,y5,st5,fr5⟩=>?_)
  have I5':=I5.pinned (stat fr5) (T.obj _ _ st5)
  refine wpAny_passesOwn hp (thn (hg _ s5 σ3 H5 x u _ I5' r5 (step x H5 y5)) fun _ s6 ⟨σ6,H6,I6,q6⟩=>?_)
  refine wpAny_passesOwn hp (thn (hb _ s6 σ6 H6 _ I6 q6) fun f s7 q7=>?_)
  have again:∀ {σ7:St} {H7:Hp},Inv X (pins++WV fp s5.heap) σ7 H7 s7→N σ7 H7→∃ m,m<n∧∃ i σ' H',Inv X pins σ' H' s7∧tn i s7.heap∧(∀ b∈fp,H' b=none)∧W i m σ' H':=fun {σ7 H7} I7 n7=>by
   obtain ⟨m',hm,w7⟩:=hN σ7 H7 n7
   refine ⟨m',hm,i+1,σ7,H7,I7.unpinned,T.keep _ _ _ st5 fun b hb o e=>(I7.pin (b,o) (List.mem_append_right _ (List.mem_append_right _ (XF hb e)))).1,fun b hb=>?_,w7⟩
   obtain ⟨o,e,d⟩:=T.obj _ _ st5 b hb
   exact (I7.pin (b,o) (List.mem_append_right _ (List.mem_append_right _ (XF hb e)))).2.1
  cases f with
  | next=>obtain ⟨σ7,H7,I7,n7⟩:=q7;exact again I7 n7
  | cont=>obtain ⟨σ7,H7,I7,n7⟩:=q7;exact again I7 n7
  | brk=>obtain ⟨σ7,H7,I7,q7⟩:=q7;exact ⟨σ7,H7,I7.unpinned,q7⟩
  | ret v=>obtain ⟨x7,σ7,H7,I7,r7,q7⟩:=q7;exact ⟨x7,σ7,H7,I7.unpinned,r7,q7⟩
end
theorem VV {K:PySem.W.Frag} {a:Addr} {xs:List V} {g:TG} {tb:TS} {D:Ends} {σ:St} {H:Hp} (Pv:Nat→St→Hp→Prop) (h0:Pv 0 σ H) (hl:∀ i σ H,i≤xs.length→Pv i σ H→SqL K H a xs)
  (hs:∀ i x σ H,xs[i]?=some x→Pv i σ H→g x σ H fun σ2 H2=>tb { D with nx:=Pv (i+1),ct:=Pv (i+1),bk:=D.nx } σ2 H2) (hd:∀ σ H,Pv xs.length σ H→D.nx σ H) :
  ∃ W:Nat→Nat→St→Hp→Prop,(∃ m,W 0 m σ H)∧∀ i m σ H,W i m σ H →
   ((Itl K a).stop i H∧D.nx σ H)∨((Itl K a).go i H∧∃ N:St→Hp→Prop,(∀ σ' H',N σ' H'→∃ m',m'<m∧W (i+1) m' σ' H')∧∀ x H',(Itl K a).yld i H x H'→g x σ H' fun σ2 H2=>tb { D with nx:=N,ct:=N,bk:=D.nx } σ2 H2):=by
 refine ⟨fun i m σ H=>m=xs.length - i∧i≤xs.length∧Pv i σ H,⟨xs.length,by simp,Nat.zero_le _,h0⟩,?_⟩
 rintro i m σ H ⟨rfl,hi,p⟩
 have q:=hl i σ H hi p
 by_cases hlt:i<xs.length
 ·refine .inr ⟨⟨xs,xs[i],q,by simp [hlt]⟩,Pv (i+1),fun σ' H' p'=>⟨xs.length - (i+1),by omega,rfl,hlt,p'⟩,fun x H' y=>?_⟩
  obtain ⟨e,y⟩:=y
  subst e
  exact hs i x σ _ (y xs q) p
 ·have e:i=xs.length:=by omega
  subst e
  exact .inl ⟨⟨xs,q,Nat.le_refl _⟩,hd σ H p⟩
theorem Yc7 {K:PySem.W.Frag} {a:Addr} {xs:List V} {g:TG} {tb:TS} {D:Ends} {σ:St} {H:Hp} (Pv:Nat→St→Hp→Prop) (h0:Pv 0 σ H) (hl:∀ i σ H,i≤xs.length→Pv i σ H→SqT K H a xs)
  (hs:∀ i x σ H,xs[i]?=some x→Pv i σ H→g x σ H fun σ2 H2=>tb { D with nx:=Pv (i+1),ct:=Pv (i+1),bk:=D.nx } σ2 H2) (hd:∀ σ H,Pv xs.length σ H→D.nx σ H) :
  ∃ W:Nat→Nat→St→Hp→Prop,(∃ m,W 0 m σ H)∧∀ i m σ H,W i m σ H →
   ((Itt K a).stop i H∧D.nx σ H)∨((Itt K a).go i H∧∃ N:St→Hp→Prop,(∀ σ' H',N σ' H'→∃ m',m'<m∧W (i+1) m' σ' H')∧∀ x H',(Itt K a).yld i H x H'→g x σ H' fun σ2 H2=>tb { D with nx:=N,ct:=N,bk:=D.nx } σ2 H2):=by
 refine ⟨fun i m σ H=>m=xs.length - i∧i≤xs.length∧Pv i σ H,⟨xs.length,by simp,Nat.zero_le _,h0⟩,?_⟩
 rintro i m σ H ⟨rfl,hi,p⟩
 have q:=hl i σ H hi p
 by_cases hlt:i<xs.length
 ·refine .inr ⟨⟨xs,xs[i],q,by simp [hlt]⟩,Pv (i+1),fun σ' H' p'=>⟨xs.length - (i+1),by omega,rfl,hlt,p'⟩,fun x H' y=>?_⟩
  obtain ⟨e,y⟩:=y
  subst e
  exact hs i x σ _ (y xs q) p
 ·have e:i=xs.length:=by omega
  subst e
  exact .inl ⟨⟨xs,q,Nat.le_refl _⟩,hd σ H p⟩
theorem Ybn {lo:Int} {n:Nat} {g:TG} {tb:TS} {D:Ends} {σ:St} {H:Hp} (Pv:Nat→St→Hp→Prop) (h0:Pv 0 σ H)
  (hs:∀ i σ H,i<n→Pv i σ H→g (.int (lo+i)) σ H fun σ2 H2=>tb { D with nx:=Pv (i+1),ct:=Pv (i+1),bk:=D.nx } σ2 H2) (hd:∀ σ H,Pv n σ H→D.nx σ H) :
  ∃ W:Nat→Nat→St→Hp→Prop,(∃ m,W 0 m σ H)∧∀ i m σ H,W i m σ H →
   ((Itr lo n).stop i H∧D.nx σ H)∨((Itr lo n).go i H∧∃ N:St→Hp→Prop,(∀ σ' H',N σ' H'→∃ m',m'<m∧W (i+1) m' σ' H')∧∀ x H',(Itr lo n).yld i H x H'→g x σ H' fun σ2 H2=>tb { D with nx:=N,ct:=N,bk:=D.nx } σ2 H2):=by
 refine ⟨fun i m σ H=>m=n - i∧i≤n∧Pv i σ H,⟨n,by simp,Nat.zero_le _,h0⟩,?_⟩
 rintro i m σ H ⟨rfl,hi,p⟩
 by_cases hlt:i<n
 ·refine .inr ⟨hlt,Pv (i+1),fun σ' H' p'=>⟨n - (i+1),by omega,rfl,hlt,p'⟩,fun x H' y=>?_⟩
  obtain ⟨e,y⟩:=y
  subst e y
  exact hs i σ _ hlt p
 ·have e:i=n:=by omega
  subst e
  exact .inl ⟨Nat.le_refl _,hd σ H p⟩
end L2
namespace L2
open PySem PySem.Spec PyProof.Rows
abbrev R2:=V→V→Hp→VK→Prop
def OpR (X:Cx) (f:Value→Value→Sem Value) (r:R2):Prop :=
 ∀ (pins:List (Addr×Obj)) (s:Shared) (σ:St) (H:Hp) (x y:V) (v u:Value) (Q:VK),Inv X pins σ H s→Yr x v→Yr y u→r x y H Q →
  wpAny (model X.prog X.w) X.A (f v u) (EP X pins σ Q) X.xe s
def UnR (X:Cx) (f:Value→Sem Value) (r:V→Hp→VK→Prop):Prop :=
 ∀ (pins:List (Addr×Obj)) (s:Shared) (σ:St) (H:Hp) (x:V) (v:Value) (Q:VK),Inv X pins σ H s→Yr x v→r x H Q →
  wpAny (model X.prog X.w) X.A (f v) (EP X pins σ Q) X.xe s
def XQ (X:Cx) (f:Value) (r:List V→Hp→VK→Prop):Prop :=
 ∀ (pins:List (Addr×Obj)) (s:Shared) (σ:St) (H:Hp) (xs:List V) (us:List Value) (Q:VK),Inv X pins σ H s→Ym xs us→r xs H Q →
  wpAny (model X.prog X.w) X.A (call f us) (EP X pins σ Q) X.xe s
def tOp (r:R2) (ta tb:TE):TE:=fun σ H Q=>ta σ H fun x H1=>tb σ H1 fun y H2=>r x y H2 Q
def tUn (r:V→Hp→VK→Prop) (ta:TE):TE:=fun σ H Q=>ta σ H fun x H1=>r x H1 Q
def rI (C:Int→Int→Prop) (g:Int→Int→V):R2:=fun x y H Q=>∃ i j,x = .int i∧y = .int j∧C i j∧Q (g i j) H
def rI0 (g:Int→Int→V):R2:=fun x y H Q=>∃ i j,x = .int i∧y = .int j∧Q (g i j) H
def rU (g:Int→V):V→Hp→VK→Prop:=fun x H Q=>∃ i,x = .int i∧Q (g i) H
section
variable {X:Cx} {a b c:Expr} {ta tb tc:TE} {pos:Pos}
theorem binT (ha:PE X a ta) (hb:PE X b tb) {pins:List (Addr×Obj)} {s:Shared} {σ:St} {H:Hp} {R:V→V→Hp→Prop} (I:Inv X pins σ H s)
  (h:ta σ H fun x H1=>tb σ H1 fun y H2=>R x y H2) {Q:Value→Shared→Prop} {f:Value→Value→Sem Value}
  (hf:∀ v u s2 x y H2,Inv X pins σ H2 s2→Yr x v→Yr y u→R x y H2→wpAny (model X.prog X.w) X.A (f v u) Q X.xe s2) :
  wpAny (model X.prog X.w) X.A (eval a X.env) (fun v s₁=>wpAny (model X.prog X.w) X.A (eval b X.env) (fun u s₂=>wpAny (model X.prog X.w) X.A (f v u) Q X.xe s₂) X.xe s₁) X.xe s:=by
 refine thn (ha pins s σ H _ I h) fun v s1 ⟨x,H1,I1,r1,q1⟩=>?_
 refine thn (hb pins s1 σ H1 _ I1 q1) fun u s2 ⟨y,H2,I2,r2,q2⟩=>?_
 exact hf v u s2 x y H2 I2 r1 r2 q2
theorem Yk {op:Operator} {r:R2} (ho:OpR X (binaryOp op) r) (ha:PE X a ta) (hb:PE X b tb):PE X (.BinOp a op b pos) (tOp r ta tb):=by
 intro pins s σ H Q I h
 exact wpAny_BinOp (binT ha hb I h fun v u s2 x y H2 I2 rx ry q=>ho pins s2 σ H2 x y v u Q I2 rx ry q)
theorem V2 {op:UnaryOp} {r:V→Hp→VK→Prop} (ho:UnR X (unaryOp op) r) (ha:PE X a ta):PE X (.UnaryOp op a pos) (tUn r ta):=by
 intro pins s σ H Q I h
 exact UnaryOp_ (thn (ha pins s σ H _ I h) fun v s1 ⟨x,H1,I1,r1,q1⟩=>ho pins s1 σ H1 x v Q I1 r1 q1)
theorem opI {f:Value→Value→Sem Value} {C:Int→Int→Prop} {g:Int→Int→Int}
  (rule:∀ (i j:Int) (t u:Tok) (s:Shared) (Q:Value→Shared→Prop) (E:Value→Shared→Prop),C i j→Q (.int (g i j) s.toks) { s with toks:=s.toks+1 }→wpAny (model X.prog X.w) X.A (f (.int i t) (.int j u)) Q E s) :
  OpR X f (rI C fun i j => .int (g i j)):=by
 intro pins s σ H x y v u Q I rx ry h
 obtain ⟨i,j,rfl,rfl,hc,q⟩:=h
 obtain ⟨t,rfl⟩:=rx
 obtain ⟨t',rfl⟩:=ry
 exact rule i j t t' s _ _ hc ⟨.int (g i j),H,I.tok _,⟨_,rfl⟩,q⟩
theorem opI0 {f:Value→Value→Sem Value} {g:Int→Int→Int}
  (rule:∀ (i j:Int) (t u:Tok) (s:Shared) (Q:Value→Shared→Prop) (E:Value→Shared→Prop),Q (.int (g i j) s.toks) { s with toks:=s.toks+1 }→wpAny (model X.prog X.w) X.A (f (.int i t) (.int j u)) Q E s) :
  OpR X f (rI0 fun i j => .int (g i j)):=by
 intro pins s σ H x y v u Q I rx ry h
 obtain ⟨i,j,rfl,rfl,q⟩:=h
 obtain ⟨t,rfl⟩:=rx
 obtain ⟨t',rfl⟩:=ry
 exact rule i j t t' s _ _ ⟨.int (g i j),H,I.tok _,⟨_,rfl⟩,q⟩
theorem opB0 {f:Value→Value→Sem Value} {g:Int→Int→Bool}
  (rule:∀ (i j:Int) (t u:Tok) (s:Shared) (Q:Value→Shared→Prop) (E:Value→Shared→Prop),Q (.bool (g i j)) s→wpAny (model X.prog X.w) X.A (f (.int i t) (.int j u)) Q E s) :
  OpR X f (rI0 fun i j => .bl (g i j)):=by
 intro pins s σ H x y v u Q I rx ry h
 obtain ⟨i,j,rfl,rfl,q⟩:=h
 obtain ⟨t,rfl⟩:=rx
 obtain ⟨t',rfl⟩:=ry
 exact rule i j t t' s _ _ ⟨.bl (g i j),H,I,rfl,q⟩
def CPow (i j:Int):Prop:=0≤j∧j≤1000000∧i.natAbs<2^64
def CMul (i j:Int):Prop:=(-(2^64)<i∧i<2^64)∨(-(2^64)<j∧j<2^64)
theorem CMul.ok {i j:Int} (h:CMul i j):IntMulOk i j:=by
 rcases h with ⟨h1,h2⟩ | ⟨h1,h2⟩
 ·exact .of_left (intBits_le_64 h1 h2)
 ·exact .of_right (intBits_le_64 h1 h2)
theorem Yay (k:Nat):(0:Int)≤2^k:=by
 rw [two_pow_cast]
 exact Int.natCast_nonneg _
theorem YJ:OpR X (binaryOp .Add) (rI0 fun i j => .int (i+j)):=opI0 fun _ _ _ _ _ _ _ q=>add_int q
theorem Xb:OpR X (binaryOp .Sub) (rI0 fun i j => .int (i - j)):=opI0 fun _ _ _ _ _ _ _ q=>sub_int q
theorem YW:OpR X (binaryOp .Mod) (rI (fun _ j=>0<j) fun i j => .int (i%j)):=opI fun i j _ _ _ _ _ hc q=>by
 have h1:(0:Int)<j:=hc
 exact mod_int' (by omega) (by rw [Int.fmod_eq_emod_of_nonneg i (by omega)];exact q)
theorem Vo:OpR X (binaryOp .Pow) (rI CPow fun i j => .int (i^j.toNat)):=opI fun _ _ _ _ _ _ _ hc q=>pow_int_small hc.1 hc.2.1 hc.2.2 q
theorem Ql:OpR X (binaryOp .LShift) (rI CPow fun i j => .int (i*2^j.toNat)):=opI fun _ _ _ _ _ _ _ hc q=>lshift_int_small hc.1 hc.2.1 hc.2.2 q
theorem YdU:OpR X (binaryOp .RShift) (rI (fun _ j=>0≤j) fun i j => .int (i / 2^j.toNat)):=opI fun i j _ _ _ _ _ hc q =>
 rshift_int hc (by rw [Int.fdiv_eq_ediv_of_nonneg i (Yay _)];exact q)
theorem unI {f:Value→Sem Value} {g:Int→Int}
  (rule:∀ (i:Int) (t:Tok) (s:Shared) (Q:Value→Shared→Prop) (E:Value→Shared→Prop),Q (.int (g i) s.toks) { s with toks:=s.toks+1 }→wpAny (model X.prog X.w) X.A (f (.int i t)) Q E s) :
  UnR X f (rU fun i => .int (g i)):=by
 intro pins s σ H x v Q I rx h
 obtain ⟨i,rfl,q⟩:=h
 obtain ⟨t,rfl⟩:=rx
 exact rule i t s _ _ ⟨.int (g i),H,I.tok _,⟨_,rfl⟩,q⟩
theorem Vp:UnR X (unaryOp .USub) (rU fun i => .int (-i)):=unI fun _ _ _ _ _ q=>neg_int q
end
def Yaz:V→V→Bool
 | .non,.non=>true | .non,.int _=>true | .int _,.non=>true | .non,.bl _=>true | .bl _,.non=>true | .non,.str _=>true | .str _,.non=>true
 | .int _,.int _=>true | .bl _,.bl _=>true | .str _,.str _=>true | .byt _,.byt _=>true
 | .int _,.str _=>true | .str _,.int _=>true | .bl _,.str _=>true | .str _,.bl _=>true
 | _,_=>false
def rEq:R2:=fun x y H Q=>Yaz x y=true∧Q (.bl (decide (x=y))) H
def rNe:R2:=fun x y H Q=>Yaz x y=true∧Q (.bl (!decide (x=y))) H
theorem Q6 {i j:Int}:decide (V.int i=V.int j)=(i==j):=by
 rw [Bool.eq_iff_iff]
 simp
theorem Ybo {i j:Bool}:decide (V.bl i=V.bl j)=(i==j):=by
 rw [Bool.eq_iff_iff]
 simp
theorem Q7 {i j:Str}:decide (V.str i=V.str j)=(i==j):=by
 rw [Bool.eq_iff_iff]
 simp
theorem Q8 {i j:Array UInt8}:decide (V.byt i=V.byt j)=(i.toList==j.toList):=by
 rw [Bool.eq_iff_iff]
 cases i
 cases j
 simp
section
variable {X:Cx} {a b c:Expr} {ta tb tc:TE} {pos:Pos}
theorem YB {pins:List (Addr×Obj)} {σ:St} {H:Hp} {s:Shared} {Q:VK} {k k':Bool} (I:Inv X pins σ H s) (q:Q (.bl k) H) (e:k=k'):EP X pins σ Q (.bool k') s:=by
 subst e
 exact ⟨.bl k,H,I,rfl,q⟩
theorem Xh:OpR X (compareOp .Eq) rEq:=by
 intro pins s σ H x y v u Q I rx ry h
 obtain ⟨hs,q⟩:=h
 cases x with
 | non =>
  cases rx
  cases y with
  | non=>cases ry;exact PySem.EqNone.eq_none_none (YB I q (by simp))
  | bl j=>cases ry;exact PySem.EqNone.eq_none_bool (YB I q (by simp))
  | int j=>obtain ⟨t',rfl⟩:=ry;exact PySem.EqNone.eq_none_int (YB I q (by simp))
  | str j=>obtain ⟨t',rfl⟩:=ry;exact PySem.EqNone.eq_none_str (YB I q (by simp))
  | _=>exact absurd (show false=true from hs) Bool.false_ne_true
 | bl i =>
  cases rx
  cases y with
  | non=>cases ry;exact PySem.EqNone.eq_bool_none (YB I q (by simp))
  | bl j=>cases ry;exact eq_bool (YB I q Ybo)
  | str j=>obtain ⟨t',rfl⟩:=ry;exact PySem.EqMixed.eq_bool_str (YB I q (by simp))
  | _=>exact absurd (show false=true from hs) Bool.false_ne_true
 | int i =>
  obtain ⟨t,rfl⟩:=rx
  cases y with
  | non=>cases ry;exact PySem.EqNone.eq_int_none (YB I q (by simp))
  | int j=>obtain ⟨t',rfl⟩:=ry;exact eq_int (YB I q Q6)
  | str j=>obtain ⟨t',rfl⟩:=ry;exact PySem.EqMixed.eq_int_str (YB I q (by simp))
  | _=>exact absurd (show false=true from hs) Bool.false_ne_true
 | str i =>
  obtain ⟨t,rfl⟩:=rx
  cases y with
  | non=>cases ry;exact PySem.EqNone.eq_str_none (YB I q (by simp))
  | bl j=>cases ry;exact PySem.EqMixed.eq_str_bool (YB I q (by simp))
  | int j=>obtain ⟨t',rfl⟩:=ry;exact PySem.EqMixed.eq_str_int (YB I q (by simp))
  | str j=>obtain ⟨t',rfl⟩:=ry;exact eq_str (YB I q Q7)
  | _=>exact absurd (show false=true from hs) Bool.false_ne_true
 | byt i =>
  obtain ⟨t,rfl⟩:=rx
  cases y with
  | byt j=>obtain ⟨t',rfl⟩:=ry;exact PySem.W.eq_bytes (YB I q Q8)
  | _=>exact absurd (show false=true from hs) Bool.false_ne_true
 | _=>cases y<;>exact absurd (show false=true from hs) Bool.false_ne_true
theorem YcO:OpR X (compareOp .NotEq) rNe:=by
 intro pins s σ H x y v u Q I rx ry h
 obtain ⟨hs,q⟩:=h
 cases x with
 | non =>
  cases rx
  cases y with
  | non=>cases ry;exact PySem.EqNone.ne_none_none (YB I q (by simp))
  | bl j=>cases ry;exact PySem.EqNone.ne_none_bool (YB I q (by simp))
  | int j=>obtain ⟨t',rfl⟩:=ry;exact PySem.EqNone.ne_none_int (YB I q (by simp))
  | str j=>obtain ⟨t',rfl⟩:=ry;exact PySem.EqNone.ne_none_str (YB I q (by simp))
  | _=>exact absurd (show false=true from hs) Bool.false_ne_true
 | bl i =>
  cases rx
  cases y with
  | non=>cases ry;exact PySem.EqNone.ne_bool_none (YB I q (by simp))
  | bl j=>cases ry;exact ne_bool (YB I q (congrArg not Ybo))
  | str j=>obtain ⟨t',rfl⟩:=ry;exact PySem.EqMixed.ne_bool_str (YB I q (by simp))
  | _=>exact absurd (show false=true from hs) Bool.false_ne_true
 | int i =>
  obtain ⟨t,rfl⟩:=rx
  cases y with
  | non=>cases ry;exact PySem.EqNone.ne_int_none (YB I q (by simp))
  | int j=>obtain ⟨t',rfl⟩:=ry;exact ne_int (YB I q (congrArg not Q6))
  | str j=>obtain ⟨t',rfl⟩:=ry;exact PySem.EqMixed.ne_int_str (YB I q (by simp))
  | _=>exact absurd (show false=true from hs) Bool.false_ne_true
 | str i =>
  obtain ⟨t,rfl⟩:=rx
  cases y with
  | non=>cases ry;exact PySem.EqNone.ne_str_none (YB I q (by simp))
  | bl j=>cases ry;exact PySem.EqMixed.ne_str_bool (YB I q (by simp))
  | int j=>obtain ⟨t',rfl⟩:=ry;exact PySem.EqMixed.ne_str_int (YB I q (by simp))
  | str j=>obtain ⟨t',rfl⟩:=ry;exact ne_str (YB I q (congrArg not Q7))
  | _=>exact absurd (show false=true from hs) Bool.false_ne_true
 | byt i =>
  obtain ⟨t,rfl⟩:=rx
  cases y with
  | byt j=>obtain ⟨t',rfl⟩:=ry;exact PySem.W.ne_bytes (YB I q (congrArg not Q8))
  | _=>exact absurd (show false=true from hs) Bool.false_ne_true
 | _=>cases y<;>exact absurd (show false=true from hs) Bool.false_ne_true
theorem V3:OpR X (compareOp .LtE) (rI0 fun i j => .bl (decide (i≤j))):=opB0 fun _ _ _ _ _ _ _ q=>le_int q
theorem YD (b:Expr) {op:CmpOp} (h:op ≠ .In:=by decide) (h2:op ≠ .NotIn:=by decide):behindInMarks op b=false:=by
 have e1:(op==CmpOp.In)=false:=by cases op<;>first | rfl | exact absurd rfl h
 have e2:(op==CmpOp.NotIn)=false:=by cases op<;>first | rfl | exact absurd rfl h2
 cases b<;>simp [behindInMarks,e1,e2]
theorem Q9 {op:CmpOp} {r:R2} (ho:OpR X (compareOp op) r) (ha:PE X a ta) (hb:PE X b tb) (hm:behindInMarks op b=false):PE X (.Compare a [op] [b] pos) (tOp r ta tb):=by
 intro pins s σ H Q I h
 exact wpAny_Compare1 (binT ha hb I h fun v u s2 x y H2 I2 rx ry q=>ho pins s2 σ H2 x y v u Q I2 rx ry q) hm
def YcP (t:TE):TT:=fun σ H Q=>t σ H fun x H'=>∃ k,x = .bl k∧Q k H'
theorem Yz {op:CmpOp} {r:R2} (ho:OpR X (compareOp op) r) (ha:PE X a ta) (hb:PE X b tb) (hm:behindInMarks op b=false):PT X (.Compare a [op] [b] pos) (YcP (tOp r ta tb)):=by
 intro pins s σ H Q I h
 refine wpAny_isTrue_Compare1 (thn (ha pins s σ H _ I h) fun v s1 ⟨x,H1,I1,r1,q1⟩=>thn (hb pins s1 σ H1 _ I1 q1) fun u s2 ⟨y,H2,I2,r2,q2⟩ =>
  thn (ho pins s2 σ H2 x y v u _ I2 r1 r2 q2) fun c s3 ⟨z,H3,I3,r3,k,e,q3⟩=>?_) hm
 subst e
 cases r3
 exact wpAny_truthy_bool ⟨H3,I3,q3⟩
def YdV (r r':R2) (ta tb tc:TE):TE:=fun σ H Q=>ta σ H fun x H1=>tb σ H1 fun y H2=>r x y H2 fun z H3=>∃ k,z = .bl k ∧
 (if k=true then tc σ H3 fun w' H4=>r' y w' H4 Q else Q (.bl false) H3)
theorem V4:(sizeLine:Nat)<2^63:=by rw [sizeLine_eq];decide
theorem YaA:OpR X (binaryOp .Add) (fun x y H Q=>∃ i j,x = .str i∧y = .str j∧i.length+j.length≤sizeLine∧Q (.str (i++j)) H):=by
 intro pins s σ H x y v u Q I rx ry h
 obtain ⟨i,j,rfl,rfl,hz,q⟩:=h
 obtain ⟨t,rfl⟩:=rx
 obtain ⟨t',rfl⟩:=ry
 exact add_str (fun t' tk=>⟨.str (i++j),H,I.tok _,⟨_,rfl⟩,q⟩) hz
theorem VG {x:V} {us:List Value} (r:Ym [x] us):∃ u,us=[u]∧Yr x u:=by
 cases r with
 | cons r1 r2=>cases r2;exact ⟨_,rfl,r1⟩
theorem YaB {x y:V} {us:List Value} (r:Ym [x,y] us):∃ u w',us=[u,w']∧Yr x u∧Yr y w':=by
 cases r with
 | cons r1 r2 =>
  cases r2 with
  | cons r3 r4=>cases r4;exact ⟨_,_,rfl,r1,r3⟩
theorem UM (hc:X.calm=true):XQ X (.builtin "max") (fun xs H Q=>∃ i j,xs=[.int i,.int j]∧Q (.int (if j>i then j else i)) H):=by
 intro pins s σ H xs us Q I r h
 obtain ⟨i,j,rfl,q⟩:=h
 obtain ⟨u,w',rfl,⟨t,rfl⟩,⟨t',rfl⟩⟩:=YaB r
 refine max_two_ints (I.ok.hd hc) fun h' tk k=>⟨_,H,I.kept k,?_,q⟩
 by_cases hj:j>i
 ·rw [if_pos hj,if_pos hj];exact ⟨_,rfl⟩
 ·rw [if_neg hj,if_neg hj];exact ⟨_,rfl⟩
theorem Vq (hc:X.calm=true):XQ X (.builtin "min") (fun xs H Q=>∃ i j,xs=[.int i,.int j]∧Q (.int (if j<i then j else i)) H):=by
 intro pins s σ H xs us Q I r h
 obtain ⟨i,j,rfl,q⟩:=h
 obtain ⟨u,w',rfl,⟨t,rfl⟩,⟨t',rfl⟩⟩:=YaB r
 refine min_two_ints (I.ok.hd hc) fun h' tk k=>⟨_,H,I.kept k,?_,q⟩
 by_cases hj:j<i
 ·rw [if_pos hj,if_pos hj];exact ⟨_,rfl⟩
 ·rw [if_neg hj,if_neg hj];exact ⟨_,rfl⟩
theorem Ybp:XQ X (.type "int") (fun xs H Q=>(∃ i,xs=[.int i]∧Q (.int i) H)∨∃ k,xs=[.bl k]∧Q (.int (if k then 1 else 0)) H):=by
 intro pins s σ H xs us Q I r h
 rcases h with ⟨i,rfl,q⟩ | ⟨k,rfl,q⟩
 ·obtain ⟨u,rfl,t,rfl⟩:=VG r
  exact call_int_int ⟨.int i,H,I,⟨_,rfl⟩,q⟩
 ·obtain ⟨u,rfl,r1⟩:=VG r
  cases r1
  exact call_int_bool ⟨.int (if k then 1 else 0),H,I.tok _,⟨_,rfl⟩,q⟩
end
end L2
namespace L2
open PySem PySem.Spec PyProof.Rows
structure ObjM (h:Heap) (x dx C:Addr) (mA:Str→Option Value):Prop where
 obj:h.get? x=some (PySem.W.instObj C dx)
 ns:h.Ns1 dx mA
 ne:dx≠x
theorem Ybq {h:Heap} {dx:Addr} {mA:Str→Option Value} (n:h.Ns1 dx mA):∃ od,h.get? dx=some od∧∀ name,PySem.W.lookIn name od=some (mA name):=by
 obtain ⟨o,es,ep,ho,hd,hk,_,hm⟩:=n
 refine ⟨o,ho,fun name=>?_⟩
 have e:=hm name
 unfold nsFind findBy at e
 rw [← Array.find?_toList] at e
 unfold PySem.W.lookIn
 rw [hd]
 dsimp only
 split
 ·rename_i y q
  rw [q] at e
  exact congrArg some e
 ·rename_i q
  rw [q] at e
  have a:es.toList.any (·.refKey)=false:=by
   rw [List.any_eq_false]
   intro y hy
   obtain ⟨z,t,hkey⟩:=hk y (Array.mem_toList_iff.mp hy)
   simp [DictEntry.refKey,hkey]
  have a':¬ es.toList.any (·.refKey)=true:=by rw [a];exact Bool.false_ne_true
  rw [if_neg a']
  exact congrArg some e
theorem ObjM.look {h:Heap} {x dx C:Addr} {mA:Str→Option Value} (I:ObjM h x dx C mA):∃ od,PySem.W.InstAt h x (PySem.W.instObj C dx) C (some od)∧∀ name,PySem.W.lookIn name od=some (mA name) :=
 let ⟨od,ho,hl⟩:=Ybq I.ns
 ⟨od,⟨I.obj,rfl,rfl,ho⟩,hl⟩
section
variable {prog:Program} {w:World} {A:Around} {E:Value→Shared→Prop} {s:Shared} {K:PySem.W.Frag} {x dx C f:Addr} {mA:Str→Option Value} {name:Str} {v:Value}
theorem Yc8 {expr:Bool} {Q:Value→Shared→Prop} (X:K.In s.heap) (I:ObjM s.heap x dx C mA) (hg:PySem.W.plainGet K C name=true) (hh:PySem.W.hasDictIn K C=true)
  (ha:PySem.W.findIn K (.ref C) name=some none) (hv:mA name=some v) (hv':PySem.W.handedIn v=true) (h:Q v { s with toks:=s.toks+1 }) :
  wpAny (model prog w) A (getAttr (.ref x) name expr) Q E s:=by
 obtain ⟨od,J,hl⟩:=I.look
 exact PySem.W.get_value X J (PySem.W.plainGet_of hg).1 (PySem.W.findObj_own hh ha rfl (by rw [hl,hv])) hv' h
theorem Yca {pl:Sem Bool} {Q:Value×List Value→Shared→Prop} (X:K.In s.heap) (I:ObjM s.heap x dx C mA) (hg:PySem.W.plainGet K C name=true)
  (hf:PySem.W.findIn K (.ref C) name=some (some (.ref f))) (ht:PySem.W.isFn K (.ref f)=true) (hv:mA name=none) (h:Q (.ref f,[.ref x]) s) :
  wpAny (model prog w) A (getMethod (.ref x) name pl) Q E s:=by
 obtain ⟨od,J,hl⟩:=I.look
 exact PySem.W.method_fn X J (PySem.W.plainGet_of hg).1 (PySem.W.plainGet_of hg).2 hf (beq_iff_eq.mp ht) (by show (PySem.W.lookIn name od).map (·.isSome)=some false;rw [hl,hv];rfl) h
theorem Yc9 {ns:List Str} {Q:Unit→Shared→Prop} (X:K.In s.heap) (I:ObjM s.heap x dx C mA)
  (hs:PySem.W.findIn K (.ref C) "__setattr__"=some (some (.builtin "object.__setattr__"))) (hp:PySem.W.plainOver K C=true) (ht:PySem.W.takerIn K C name=some none) (hh:PySem.W.hasDictIn K C=true)
  (hw:PySem.Within mA ns) (hsz:ns.length≤sizeLine)
  (h:∀ h',ObjM h' x dx C (fun y=>if y=name then some v else mA y)→Heap.SameBut dx s.heap h'→Q () { s with heap:=h',toks:=s.toks+2 }) :
  wpAny (model prog w) A (setAttr (.ref x) name v) Q E s:=by
 obtain ⟨od,J,hl⟩:=I.look
 refine PySem.W.set_plain X J hs (PySem.W.osa_open (s:={ s with toks:=s.toks+1 }) (r:=none) X J hp ht fun b=>?_)
 obtain ⟨cd,hc,hd'⟩:=PySem.W.any_some hh
 have hx:s.heap.get? x=some ⟨.ref C,some dx,.plain,#[]⟩:=I.obj
 refine wpAny_bind (wpAny_pure (wpAny_bind (wpAny_bind (wpAny_loadPart hx (wpAny_bind (PySem.W.Looks.here (s:={ s with toks:=s.toks+1 }) (PySem.W.looks_clsIn X hc) ?_))))))
 rw [hd']
 refine wpAny_pure (a:=some dx) (wpAny_bind (wpAny_pure (wpAny_bind ?_)))
 refine wpAny_nsSet1 (s:={ s with toks:=s.toks+1 }) I.ns fun h' hn2 hs2=>?_
 obtain ⟨oD,esD,epD,hoD,hdD,hcD⟩:=hn2.count (PySem.Within.cons name v hw)
 refine wpAny_bind (wpAny_lookBehind hoD (by rw [hdD];exact pastItsLine_dict (Nat.le_trans hcD (by rw [List.length_cons];omega))) ?_)
 exact wpAny_pure (h _ ⟨(hs2.2 _ (Ne.symm I.ne)).trans I.obj,hn2,I.ne⟩ hs2)
theorem Ycb {R:Result→Shared→Prop} {vs:List Value} {kw:List (Str×Value)} (X:K.In s.heap) (hm:PySem.W.makesIn K C=true)
  (hi:PySem.W.findIn K (.ref C) "__init__"=some (some (.ref f))) (hf:PySem.W.typeIn K (.ref f)=some (.type "function"))
  (h:codeAny (model prog w) (A.under (.builtin "type.__call__" ⟨.ref C::vs,kw⟩)) (.call (.ref f) ⟨.ref (s.heap.objs.size+1)::vs,kw⟩) (PySem.W.InitBack (s.heap.objs.size+1) R)
   { s with heap:=(s.heap.push PySem.W.emptyDict).push (PySem.W.instObj C s.heap.objs.size) }) :
  codeAny (model prog w) A (.call (.ref C) ⟨vs,kw⟩) R s:=by
 obtain ⟨hh,g,d,t,os⟩:=s
 exact PySem.W.make_core (PySem.W.makes_of X hm) (PySem.W.looks_findIn X hi) (fun self=>PySem.W.bind_fn X self hf) (.inl rfl) h
end
def YT (f:Str) (v:V):List (Str×V)→List (Str×V)
 | []=>[(f,v)]
 | (g,x)::r=>if g=f then (g,v)::r else (g,x)::YT f v r
theorem VS (f g:Str) (v:V):∀ fs:List (Str×V),(YT f v fs).lookup g=if g=f then some v else fs.lookup g
 | []=>by
  show List.lookup g [(f,v)]=_
  by_cases h:g=f
  ·have hb:(g==f)=true:=beq_iff_eq.mpr h
   simp only [List.lookup,hb,if_pos h]
  ·have hb:(g==f)=false:=beq_eq_false_iff_ne.mpr h
   simp only [List.lookup,hb,if_neg h]
 | (k,x)::r=>by
  have ih:=VS f g v r
  rw [show YT f v ((k,x)::r)=(if k=f then (k,v)::r else (k,x)::YT f v r) from rfl]
  by_cases hk:k=f
  ·rw [if_pos hk]
   by_cases h:g=k
   ·have hb:(g==k)=true:=beq_iff_eq.mpr h
    simp only [List.lookup,hb,if_pos (h.trans hk)]
   ·have hb:(g==k)=false:=beq_eq_false_iff_ne.mpr h
    simp only [List.lookup,hb,if_neg (fun e:g=f=>h (e.trans hk.symm))]
  ·rw [if_neg hk]
   by_cases h:g=k
   ·have hb:(g==k)=true:=beq_iff_eq.mpr h
    simp only [List.lookup,hb,if_neg (fun e:g=f=>hk (h.symm.trans e))]
   ·have hb:(g==k)=false:=beq_eq_false_iff_ne.mpr h
    simp only [List.lookup,hb]
    exact ih
theorem Vr (f:Str) (v:V):∀ fs:List (Str×V),f∈(YT f v fs).map (·.1)∧∀ g,g∈fs.map (·.1)→g∈(YT f v fs).map (·.1)
 | []=>⟨by simp [YT],fun g h=>by simp at h⟩
 | (k,x)::r=>by
  obtain ⟨i1,i2⟩:=Vr f v r
  rw [show YT f v ((k,x)::r)=(if k=f then (k,v)::r else (k,x)::YT f v r) from rfl]
  by_cases hk:k=f
  ·rw [if_pos hk]
   subst hk
   exact ⟨by simp,fun g h=>by simpa using h⟩
  ·rw [if_neg hk]
   refine ⟨?_,fun g h=>?_⟩
   ·rw [List.map_cons]
    exact List.mem_cons_of_mem _ i1
   ·rw [List.map_cons] at h ⊢
    rcases List.mem_cons.mp h with e | e
    ·exact List.mem_cons.mpr (.inl e)
    ·exact List.mem_cons_of_mem _ (i2 g e)
theorem Wf (f:Str) (v:V):∀ fs:List (Str×V),(YT f v fs).length≤fs.length+1
 | []=>by simp [YT]
 | (k,x)::r=>by
  have ih:=Wf f v r
  rw [show YT f v ((k,x)::r)=(if k=f then (k,v)::r else (k,x)::YT f v r) from rfl]
  by_cases hk:k=f
  ·rw [if_pos hk,List.length_cons,List.length_cons];omega
  ·rw [if_neg hk,List.length_cons,List.length_cons];omega
theorem XR.some_of {v:V} {o:Option Value} (r:XR (some v) o):∃ u,o=some u∧Yr v u:=by
 cases o with
 | none=>exact (show False from r).elim
 | some u=>exact ⟨u,rfl,r⟩
theorem XR.none_of {o:Option Value} (r:XR none o):o=none:=by
 cases o with
 | none=>rfl
 | some u=>exact (show False from r).elim
theorem Ybr {v:V} {u:Value} (r:Yr v u):PySem.W.handedIn u=true:=by
 cases v with
 | non=>cases (show u=Value.none from r);rfl
 | bl b=>cases (show u=Value.bool b from r);rfl
 | int i=>obtain ⟨t,e⟩:=(show ∃ t,u=Value.int i t from r);cases e;rfl
 | str x=>obtain ⟨t,e⟩:=(show ∃ t,u=Value.str x t from r);cases e;rfl
 | byt b=>obtain ⟨t,e⟩:=(show ∃ t,u=Value.bytes b t from r);cases e;rfl
 | flt b=>obtain ⟨t,e⟩:=(show ∃ t,u=Value.float b t from r);cases e;rfl
 | ref a=>cases (show u=Value.ref a from r);rfl
 | ty n=>cases (show u=Value.type n from r);rfl
section
variable {P:Program} {w:World} {H H':Hp} {h h':Heap} {a C dx:Addr} {fs fs':List (Str×V)}
theorem VH (hok:HOk P w H h) (e:H a=some (.ins C dx fs)):∃ mA,ObjM h a dx C mA∧(∀ f,XR (fs.lookup f) (mA f))∧PySem.Within mA (fs.map (·.1))∧fs.length≤1000∧H dx=some (.own a):=by
 obtain ⟨d,z,ne,ob,mA,n,r,q⟩:=(show YG P w H h a (.ins C dx fs) from hok a _ e)
 exact ⟨mA,⟨ob,n,ne⟩,r,q,z,d⟩
end
structure Cls (K:PySem.W.Frag) (C:Addr):Prop where
 pg:PySem.W.plainGet K C Str.empty=true
 hd:PySem.W.hasDictIn K C=true
 po:PySem.W.plainOver K C=true
 sa:PySem.W.findIn K (.ref C) "__setattr__"=some (some (.builtin "object.__setattr__"))
theorem Cls.get {K:PySem.W.Frag} {C:Addr} (c:Cls K C) (f:Str):PySem.W.plainGet K C f=true:=c.pg
def Ye (K:PySem.W.Frag) (C:Addr) (f:Str):Prop:=PySem.W.findIn K (.ref C) f=some none
theorem Ye.taker {K:PySem.W.Frag} {C:Addr} {f:Str} (n:Ye K C f):PySem.W.takerIn K C f=some none:=by
 unfold PySem.W.takerIn
 rw [show PySem.W.findIn K (.ref C) f=some none from n]
 rfl
structure Meth (K:PySem.W.Frag) (C:Addr) (m:Str) (f:Addr):Prop where
 at_:PySem.W.findIn K (.ref C) m=some (some (.ref f))
 fn:PySem.W.isFn K (.ref f)=true
 kp:PySem.W.keepIn K (.ref f)=true
section
variable {X:Cx} {pins:List (Addr×Obj)} {σ:St} {H:Hp} {s:Shared} {a C dx:Addr} {fs:List (Str×V)} {f:Str} {v:V} {A:Around} {E:Value→Shared→Prop}
theorem YaC {b:Bool} {Q:Value→Shared→Prop} (I:Inv X pins σ H s) (e:H a=some (.ins C dx fs)) (c:Cls X.K C) (n:Ye X.K C f) (l:fs.lookup f=some v)
  (h:∀ u s',Inv X pins σ H s'→Yr v u→Q u s'):wpAny (model X.prog X.w) A (getAttr (.ref a) f b) Q E s:=by
 obtain ⟨mA,O,r,_,_,_⟩:=VH I.hok e
 obtain ⟨u,hu,ru⟩:=XR.some_of (v:=v) (o:=mA f) (by rw [← l];exact r f)
 exact Yc8 I.kIn O (c.get f) c.hd n hu (Ybr ru) (h u _ (I.tok _) ru)
theorem YaD {m:Str} {g:Addr} {pl:Sem Bool} {Q:Value×List Value→Shared→Prop} (I:Inv X pins σ H s) (e:H a=some (.ins C dx fs)) (c:Cls X.K C) (k:Meth X.K C m g) (l:fs.lookup m=none)
  (h:Q (.ref g,[.ref a]) s):wpAny (model X.prog X.w) A (getMethod (.ref a) m pl) Q E s:=by
 obtain ⟨mA,O,r,_,_,_⟩:=VH I.hok e
 have hn:mA m=none:=XR.none_of (by rw [← l];exact r m)
 exact Yca I.kIn O (c.get m) k.at_ k.fn hn h
theorem YaE {y:V} {u:Value} {Q:Unit→Shared→Prop} (I:Inv X pins σ H s) (e:H a=some (.ins C dx fs)) (c:Cls X.K C) (n:Ye X.K C f) (hl:fs.length<1000) (ry:Yr y u)
  (h:∀ s',Inv X pins σ (upd H a (.ins C dx (YT f y fs))) s'→Q () s'):wpAny (model X.prog X.w) A (setAttr (.ref a) f u) Q E s:=by
 obtain ⟨mA,O,r,wi,_,ho⟩:=VH I.hok e
 have hz:(fs.map (·.1)).length≤sizeLine:=by rw [List.length_map,sizeLine_eq];omega
 refine Yc9 I.kIn O c.sa c.po n.taker c.hd wi hz fun h' O' sb=>h _ ?_
 have hd:∃ o,h'.get? dx=some o:=let ⟨o,_,_,e',_⟩:=O'.ns;⟨o,e'⟩
 refine I.write (x:=a) (e:=dx) (by rw [e];exact True.intro) (.inr ho) (fun b q hb z=>(sb.2 b hb).trans z) hd ?_
 refine ⟨by rw [Yb O.ne];exact ho,?_,O.ne,O'.obj,_,O'.ns,fun g=>?_,fun g hg=>?_⟩
 ·have:=Wf f y fs;omega
 ·show XR ((YT f y fs).lookup g) (if g=f then some u else mA g)
  rw [VS]
  by_cases q:g=f
  ·rw [if_pos q,if_pos q];exact ry
  ·rw [if_neg q,if_neg q];exact r g
 ·by_cases q:g=f
  ·rw [q];exact (Vr f y fs).1
  ·refine (Vr f y fs).2 g (wi g fun z=>hg ?_)
   show (if g=f then some u else mA g)=none
   rw [if_neg q];exact z
theorem Inv.made (I:Inv X pins σ H s):Inv X pins σ (upd (upd H s.heap.objs.size (.own (s.heap.objs.size+1))) (s.heap.objs.size+1) (.ins C s.heap.objs.size []))
  { s with heap:=(s.heap.push PySem.W.emptyDict).push (PySem.W.instObj C s.heap.objs.size) }:=by
 have e1:(s.heap.push PySem.W.emptyDict).get? s.heap.objs.size=some PySem.W.emptyDict:=Heap.get?_push_size s.heap rfl
 have e2:((s.heap.push PySem.W.emptyDict).push (PySem.W.instObj C s.heap.objs.size)).get? (s.heap.objs.size+1)=some (PySem.W.instObj C s.heap.objs.size):=by
  have:=Heap.get?_push_size (s.heap.push PySem.W.emptyDict) (o:=PySem.W.instObj C s.heap.objs.size) rfl
  rwa [Heap.size_push] at this
 have e3:(s.heap.push PySem.W.emptyDict).Ns s.heap.objs.size (fun _=>none):=⟨PySem.W.emptyDict,#[],_,e1,rfl,(fun e he=>absurd he (by simp)),fun _=>rfl⟩
 have I1:=I.laid (a:=s.heap.objs.size) (o := .own (s.heap.objs.size+1)) (h':=s.heap.push PySem.W.emptyDict) (t':=s.toks) (fun b u q=>Heap.get?_push_of_some _ q) (Nat.le_refl _) ⟨_,e1⟩
 refine I1.laid (a:=s.heap.objs.size+1) (o := .ins C s.heap.objs.size []) (t':=s.toks) (fun b u q=>Heap.get?_push_of_some _ q) (Nat.le_of_eq (Heap.size_push _ _)) ?_
 have ne:s.heap.objs.size≠s.heap.objs.size+1:=Nat.ne_of_lt (Nat.lt_succ_self _)
 refine ⟨by rw [Yb ne,Yc],Nat.zero_le _,ne,e2,fun _=>none,(Heap.Ns1.of_empty e3).at fun o q=>Heap.get?_push_of_some _ q,fun _=>True.intro,fun y hy=>absurd rfl hy⟩
theorem Yda {prog:Program} {w:World} {env:Env} {e:Expr} {f:Str} {pos:Pos} {s:Shared} {Q:Value→Shared→Prop} (hb:attributeBase e f env (eval e env)=eval e env)
  (h:wpAny (model prog w) A (eval e env) (fun o s₁=>wpAny (model prog w) A (getAttr o f true) Q E s₁) E s):wpAny (model prog w) A (eval (.Attribute e f pos) env) Q E s :=
 Attribute_any_ h (by rw [arm_eval_Attribute,hb])
end
def tFld (K:PySem.W.Frag) (ta:TE) (f:Str):TE:=fun σ H Q=>ta σ H fun x H1=>∃ a C dx fs v,x = .ref a∧H1 a=some (.ins C dx fs)∧Cls K C∧Ye K C f∧fs.lookup f=some v∧Q v H1
def sFld (K:PySem.W.Frag) (ta tv:TE) (f:Str):TS:=fun D σ H=>tv σ H fun y H1=>ta σ H1 fun x H2=>∃ a C dx fs,x = .ref a∧H2 a=some (.ins C dx fs)∧Cls K C∧Ye K C f∧fs.length<1000 ∧
 D.nx σ (upd H2 a (.ins C dx (YT f y fs)))
section
variable {X:Cx} {o e value:Expr} {f:Str} {pos pos' tpos:Pos} {ta tv:TE}
theorem Yw (he:PE X e ta) (hb:attributeBase e f X.env (eval e X.env)=eval e X.env):PE X (.Attribute e f pos) (tFld X.K ta f):=by
 intro pins s σ H Q I h
 refine Yda hb (thn (he pins s σ H _ I h) fun u s1 ⟨x,H1,I1,rx,a,C,dx,fs,v,ex,ea,c,n,l,q⟩=>?_)
 subst ex
 obtain rfl:u=Value.ref a:=rx
 exact YaC I1 ea c n l fun u' s2 I2 ru=>⟨v,H1,I2,ru,q⟩
theorem XB (ha:PE X o ta) (hv:PE X value tv) (hs:swapsWith value (some (.Attribute o f pos')) pos.line X.env=pure false):PS X (.Assign [.Attribute o f pos'] value pos) (sFld X.K ta tv f):=by
 intro pins s σ H D I h
 refine plainObj_wpAny_Assign_Attribute (thn (hv pins s σ H _ I h) fun u s1 ⟨y,H1,I1,ry,q⟩=>thn (ha pins s1 σ H1 _ I1 q) fun ov s2 ⟨x,H2,I2,rx,a,C,dx,fs,ex,ea,c,n,l,q2⟩=>?_) hs
 subst ex
 obtain rfl:ov=Value.ref a:=rx
 exact YaE I2 ea c n l ry fun s3 I3=>⟨σ,_,I3,q2⟩
end
section
variable {X:Cx} {pins:List (Addr×Obj)} {σ:St} {H:Hp} {s:Shared} {A:Around} {E:Value→Shared→Prop} {Q:Value→Shared→Prop} {c:Value} {b:Bool}
inductive TyOf (K:PySem.W.Frag) (H:Hp):V→Value→Prop where
 | non:TyOf K H .non (.type "NoneType")
 | bl (x:Bool):TyOf K H (.bl x) (.type "bool")
 | int (i:Int):TyOf K H (.int i) (.type "int")
 | str (x:Str):TyOf K H (.str x) (.type "str")
 | flt (x:UInt64):TyOf K H (.flt x) (.type "float")
 | lst {a:Addr} {xs:List V} (e:H a=some (.lst xs)):TyOf K H (.ref a) (.type "list")
 | frz {a:Addr} {o:Obj} {xs:List V} (e:H a=some (.frz o (.lst xs))):TyOf K H (.ref a) (.type "list")
 | tup {a:Addr} {xs:List V} (e:H a=some (.tup xs)):TyOf K H (.ref a) (.type "tuple")
 | dK {a:Addr} {kvs:List (Key×V)} (e:H a=some (.dK kvs)):TyOf K H (.ref a) (.type "dict")
 | dT {a:Addr} {kvs:List (List Key×V)} (e:H a=some (.dT kvs)):TyOf K H (.ref a) (.type "dict")
 | ins {a C dx:Addr} {fs:List (Str×V)} (e:H a=some (.ins C dx fs)) (cl:Cls K C) (ha:PySem.W.findIn K (.ref C) "__class__"=some (some (.builtin "object.__class__")))
   (hn:PySem.W.specialIn K (.builtin "object.__class__") "__get__"=some (some (.builtin "getset_descriptor.__get__"))) (htk:PySem.W.takesIn K (.builtin "object.__class__")=some true)
   (hm:PySem.W.mroIn K C (.type "object")=some true):TyOf K H (.ref a) (.ref C)
theorem Ybs {x:V} {u t:Value} (I:Inv X pins σ H s) (rx:Yr x u) (ty:TyOf X.K H x t) (e:PySem.W.kitOne X.K t c=some b) (h:∀ tk,Q (.bool b) { s with toks:=tk }) :
  wpAny (model X.prog X.w) A (call (.builtin "isinstance") [u,c]) Q E s:=by
 cases ty with
 | non=>cases (show u=Value.none from rx);exact PySem.W.kia_one PySem.W.kitx_none I.kIn True.intro e (fun z=>nomatch z) h
 | bl y=>cases (show u=Value.bool y from rx);exact PySem.W.kia_one PySem.W.kitx_bool I.kIn True.intro e (fun z=>nomatch z) h
 | int i=>obtain ⟨t,q⟩:=(show ∃ t,u=Value.int i t from rx);cases q;exact PySem.W.kia_one PySem.W.kitx_int I.kIn True.intro e (fun z=>nomatch z) h
 | str y=>obtain ⟨t,q⟩:=(show ∃ t,u=Value.str y t from rx);cases q;exact PySem.W.kia_one PySem.W.kitx_str I.kIn True.intro e (fun z=>nomatch z) h
 | flt y=>obtain ⟨t,q⟩:=(show ∃ t,u=Value.float y t from rx);cases q;exact PySem.W.kia_one PySem.W.kitx_float I.kIn True.intro e (fun z=>nomatch z) h
 | @lst a xs ea =>
  cases (show u=Value.ref a from rx)
  obtain ⟨_,_,n,_,h1⟩:=(show YG X.prog X.w H s.heap a (.lst xs) from I.hok a _ ea)
  exact PySem.W.kia_one PySem.W.kitx_list I.kIn ⟨_,h1,rfl⟩ e (fun z=>nomatch z) h
 | @frz a ob xs ea =>
  cases (show u=Value.ref a from rx)
  obtain ⟨_,_,_,n,_,h1⟩:=(show YG X.prog X.w H s.heap a (.frz ob (.lst xs)) from I.hok a _ ea)
  exact PySem.W.kia_one PySem.W.kitx_list I.kIn ⟨_,h1,rfl⟩ e (fun z=>nomatch z) h
 | @tup a xs ea =>
  cases (show u=Value.ref a from rx)
  obtain ⟨_,_,_,p⟩:=(show YG X.prog X.w H s.heap a (.tup xs) from I.hok a _ ea)
  obtain ⟨o,h1,h2,_⟩:=p
  exact PySem.W.kia_one PySem.W.kitx_tuple I.kIn ⟨o,h1,h2⟩ e (fun z=>nomatch z) h
 | @dK a kvs ea =>
  cases (show u=Value.ref a from rx)
  obtain ⟨_,_,vs,_,p⟩:=(show YG X.prog X.w H s.heap a (.dK kvs) from I.hok a _ ea)
  obtain ⟨o,es,ep,h1,h2,_⟩:=p
  exact PySem.W.kia_one PySem.W.kitx_dict I.kIn ⟨o,h1,h2.1⟩ e (fun z=>nomatch z) h
 | @dT a kvs ea =>
  cases (show u=Value.ref a from rx)
  obtain ⟨_,_,xs,_,o,es,ep,h1,h2,_⟩:=(show YG X.prog X.w H s.heap a (.dT kvs) from I.hok a _ ea)
  exact PySem.W.kia_one PySem.W.kitx_dict I.kIn ⟨o,h1,h2.1⟩ e (fun z=>nomatch z) h
 | @ins a C dx fs ea cl ha hn htk hm =>
  cases (show u=Value.ref a from rx)
  obtain ⟨mA,O,_⟩:=VH I.hok ea
  obtain ⟨od,J,_⟩:=O.look
  exact PySem.W.kia_one (PySem.W.kitx_own (cl.get _) cl.hd ha hn htk hm) I.kIn J e (fun z=>nomatch z) h
end
end L2
namespace L2
open PySem PySem.Spec PyProof.Rows
structure Room (k:Nat) (A:Around):Prop where
 hd:A.handled=none
 dp:A.depth+3*k+5<recursionLimit
 un:A.units+16*k+200<cLine
 gd:A.guards=some []
theorem Room.mono {j k:Nat} {A:Around} (r:Room k A) (h:j≤k):Room j A:=⟨r.hd,by have:=r.dp;omega,by have:=r.un;omega,r.gd⟩
theorem Room.deeper {k:Nat} {A:Around} (r:Room (k+1) A) (env:Env):Room k (A.deeper env) :=
 ⟨r.hd,by have:=r.dp;show A.depth+1+3*k+5<_;omega,by have:=r.un;show A.units+3+16*k+200<_;omega,r.gd⟩
theorem YaF {A:Around} {C:Addr} {us:List Value} {kw:List (Str×Value)}:(A.under (.builtin "type.__call__" ⟨.ref C::us,kw⟩)).depth=A.depth+1:=by
 first | rfl | simp [Around.under,Code.weight,Code.isCreation,Code.isGuard,Code.isCaller,Code.frames,Code.isFrame,guardIds]
theorem YaG {A:Around} {C:Addr} {us:List Value} {kw:List (Str×Value)}:(A.under (.builtin "type.__call__" ⟨.ref C::us,kw⟩)).units=A.units+1:=by
 first | rfl | simp [Around.under,Code.cUnits,Code.frames,Code.isFrame]
theorem Room.make {k:Nat} {A:Around} (r:Room (k+1) A) (C:Addr) (us:List Value) (kw:List (Str×Value)):Room k (A.under (.builtin "type.__call__" ⟨.ref C::us,kw⟩)) :=
 ⟨r.hd,by have:=r.dp;rw [YaF];omega,by have:=r.un;rw [YaG];omega,by first | exact r.gd | simpa [Around.under,Code.isGuard,Code.isFrame,guardIds] using r.gd⟩
theorem Room.depth {k:Nat} {A:Around} (r:Room k A):A.depth<recursionLimit:=by have:=r.dp;omega
theorem Room.units {k:Nat} {A:Around} (r:Room k A):A.units+64<cLine:=by have:=r.un;omega
def Uz:TA:=fun _ H Q=>Q [] H
def Qb (ta:TE) (tr:TA):TA:=fun σ H Q=>ta σ H fun x H1=>tr σ H1 fun xs H2=>Q (x::xs) H2
section
variable {X:Cx} {e:Expr} {es:List Expr} {te:TE} {t:TA} {pos:Pos}
theorem Yd:PA X [] Uz:=fun _ _ _ _ H Q I h=>Calls.spliced_nil ⟨[],H,I,.nil,h⟩
theorem Ya (ha:PE X e te) (hr:PA X es t) (hs:starEach (e::es) X.env=(false,eval e X.env)::starEach es X.env):PA X (e::es) (Qb te t):=by
 intro pos pins s σ H Q I h
 rw [hs]
 show wpAny _ _ (spliced ((false,eval e X.env)::backTo pos (starEach es X.env))) _ _ s
 refine Calls.spliced_cons (thn (ha pins s σ H _ I h) fun u s1 ⟨x,H1,I1,r1,q1⟩=>?_)
 exact thn (hr pos pins s1 σ H1 _ I1 q1) fun us s2 ⟨xs,H2,I2,r2,q2⟩=>⟨x::xs,H2,I2,.cons r1 r2,q2⟩
def tTup (t:TA):TE:=fun σ H Q=>t σ H fun xs H1=>xs.length≤sizeLine∧∀ p,H1 p=none→Q (.ref p) (upd H1 p (.tup xs))
def tLst (t:TA):TE:=fun σ H Q=>t σ H fun xs H1=>xs.length≤sizeLine∧∀ p,H1 p=none→Q (.ref p) (upd H1 p (.lst xs))
theorem Xs {x1} (h:PA X es t):PE X (.Tuple es x1 pos) (tTup t):=by
 intro pins s σ H Q I hq
 refine wpAny_Tuple_spliced (thn (h pos pins s σ H _ I hq) fun us s1 ⟨xs,H1,I1,r,z,q⟩=>⟨by rw [← r.length];exact z,?_⟩)
 have hf:H1 s1.heap.objs.size=none:=I1.hok.fresh (Nat.le_refl _)
 refine ⟨.ref s1.heap.objs.size,upd H1 s1.heap.objs.size (.tup xs),I1.laid (t':=s1.toks) (fun b u e=>Heap.get?_push_of_some _ e) (Nat.le_refl _) ?_,rfl,q _ hf⟩
 exact ⟨z,us,r,⟨_,Heap.get?_push_size _ rfl,rfl,_,rfl⟩⟩
theorem XL (h:PA X es t):PE X (.List es pos) (tLst t):=by
 intro pins s σ H Q I hq
 refine wpAny_List_spliced (thn (h pos pins s σ H _ I hq) fun us s1 ⟨xs,H1,I1,r,z,q⟩=>⟨by rw [← r.length];exact z,?_⟩)
 have hf:H1 s1.heap.objs.size=none:=I1.hok.fresh (Nat.le_refl _)
 refine ⟨.ref s1.heap.objs.size,upd H1 s1.heap.objs.size (.lst xs),I1.laid (t':=s1.toks) (fun b u e=>Heap.get?_push_of_some _ e) (Nat.le_refl _) ?_,rfl,q _ hf⟩
 exact ⟨z,us,0,r,Heap.get?_push_size _ rfl⟩
end
abbrev Sp:=List V→Hp→VK→XK→Prop
abbrev CXT:=List Env→Hp→Shared→XK→Value→Shared→Prop
structure Env0 (P:Program) (w:World) (K:PySem.W.Frag) (mg:Str→Option Value) (base:Heap) (A:Around) (outer:List Env) (s:Shared) (H:Hp):Prop where
 frames:A.frames=some outer
 mod:Mod K mg base
 bs:∀ b o,base.get? b=some o→s.heap.get? b=some o∧H b=none
 bsz:base.objs.size≤s.heap.objs.size
 funs:s.heap.FunFrames base outer
 frf:∀ b∈frs outer,H b=none
 hok:HOk P w H s.heap
 bare:AllBare s.gens
def CE (outer:List Env) (P:Program) (w:World) (H:Hp) (s:Shared) (Q:VK) (u:Value) (s':Shared):Prop :=
 ∃ v H',s'.os=s.os∧AllBare s'.gens∧Un (frs outer) [] H H' s.heap s'.heap∧HOk P w H' s'.heap∧Yr v u∧Q v H'
def CR (CX:CXT) (outer:List Env) (P:Program) (w:World) (H:Hp) (s:Shared) (Q:VK) (E:XK) (r:Result) (s':Shared):Prop :=
 match r with
 | .ok (.ret u)=>CE outer P w H s Q u s'
 | .ok _=>False
 | .error e=>CX outer H s E e s'
structure FnOk (P:Program) (w:World) (K:PySem.W.Frag) (mg:Str→Option Value) (base:Heap) (CX:CXT) (k:Nat) (f:Addr) (fd:FuncData) (ps:List Str) (sp:Sp):Prop where
 len:∀ vs H Q E,sp vs H Q E→vs.length=ps.length
 run:∀ (A:Around) (outer:List Env) (s:Shared) (H:Hp) (args:Args) (us:List Value) (vs:List V) (Q:VK) (E:XK),Room k A→Env0 P w K mg base A outer s H→BindsTo s fd args (ps.zip us)→Ym vs us→sp vs H Q E →
  codeAny (model P w) A (.call (.ref f) args) (CR CX outer P w H s Q E) s
theorem FnOk.mono {P:Program} {w:World} {K:PySem.W.Frag} {mg:Str→Option Value} {base:Heap} {CX:CXT} {j k:Nat} {f:Addr} {fd:FuncData} {ps:List Str} {sp:Sp} (F:FnOk P w K mg base CX j f fd ps sp) (h:j≤k) :
  FnOk P w K mg base CX k f fd ps sp:=⟨F.len,fun A outer s H args us vs Q E hr=>F.run A outer s H args us vs Q E (hr.mono h)⟩
theorem Env0.make {P:Program} {w:World} {K:PySem.W.Frag} {mg:Str→Option Value} {base:Heap} {A:Around} {outer:List Env} {s:Shared} {H:Hp} (e:Env0 P w K mg base A outer s H) (C:Addr) (us:List Value) (kw:List (Str×Value)) :
  Env0 P w K mg base (A.under (.builtin "type.__call__" ⟨.ref C::us,kw⟩)) outer s H:=⟨by first | exact e.frames | (simpa [Around.under,Code.envs,Code.isFrame,pushEnvs] using e.frames),e.mod,e.bs,e.bsz,e.funs,e.frf,e.hok,e.bare⟩
section
variable {X:Cx} {pins:List (Addr×Obj)} {σ:St} {H:Hp} {s s':Shared}
theorem Inv.env0 (I:Inv X pins σ H s):Env0 X.prog X.w X.K X.mg X.base X.A X.stack s H :=
 ⟨I.ok.frames,I.ok.mod,I.bs,Nat.le_trans I.ok.bsz I.sz,I.stack,I.stkFree,I.hok,I.bare⟩
theorem Inv.after {Q:VK} {u:Value} (I:Inv X pins σ H s) (h:CE X.stack X.prog X.w H s Q u s'):EP X pins σ Q u s':=by
 obtain ⟨v,H',os,bare,un,hok,r,q⟩:=h
 obtain ⟨hh,g,d,t,os'⟩:=s'
 obtain rfl:os'=s.os:=os
 exact ⟨v,H',I.call (h':=hh) (g':=g) (d':=d) (t':=t) (ch:=[]) un hok bare (fun b z=>absurd z (by simp)),r,q⟩
end
def V5 (sp:Sp) (dvs:List V) (E:XK) (t:TA):TE:=fun σ H Q=>t σ H fun vs H1=>sp (vs++dvs) H1 Q E
def Qd (C:Addr) (m:Str) (sp:Sp) (dvs:List V) (E:XK) (ta:TE) (t:TA):TE:=fun σ H Q=>ta σ H fun x H1=>∃ a dx fs,x = .ref a∧H1 a=some (.ins C dx fs)∧fs.lookup m=none ∧
 t σ H1 fun vs H2=>sp (x::(vs++dvs)) H2 Q E
def V6 (C:Addr) (sp:Sp) (dvs:List V) (E:XK) (t:TA):TE:=fun σ H Q=>t σ H fun vs H1=>∀ x dx,H1 x=none→H1 dx=none→dx≠x →
 sp (.ref x::(vs++dvs)) (upd (upd H1 dx (.own x)) x (.ins C dx [])) (fun v H2=>v = .non∧Q (.ref x) H2) E
def Xt (K:PySem.W.Frag) (fd:FuncData) (ps:List Str) (ds:List Value):Prop :=
 ∀ (s:Shared) (us:List Value),K.In s.heap→(us++ds).length=ps.length→BindsTo s fd ⟨us,[]⟩ (ps.zip (us++ds))
theorem Xt.all {K:PySem.W.Frag} {fd:FuncData} {ps:List Str} (h:∀ us:List Value,us.length=ps.length→bindArgs fd ⟨us,[]⟩=pure (ps.zip us)):Xt K fd ps []:=fun s us _ hl=>by
 rw [List.append_nil] at hl ⊢
 exact .of_eq (h us hl)
def WB (CX:CXT) (X:Cx) (E:XK):Prop:=∀ (pins:List (Addr×Obj)) (σ:St) (H:Hp) (s:Shared) (e:Value) (s':Shared),Inv X pins σ H s→CX X.stack H s E e s'→X.xe e s'
section
variable {X:Cx} {CX:CXT} {k:Nat} {f C:Addr} {fd:FuncData} {ps:List Str} {sp:Sp} {dvs:List V} {ds:List Value} {E:XK} {x m:Str} {p pos apos:Pos} {e o:Expr} {es:List Expr} {ta:TE} {t:TA}
theorem Qm {pins:List (Addr×Obj)} {σ:St} {H:Hp} {s:Shared} {Q:VK} {us:List Value} {vs:List V} (F:FnOk X.prog X.w X.K X.mg X.base CX k f fd ps sp) (hr:Room k X.A) (hb:Xt X.K fd ps ds) (hd:Ym dvs ds) (hx:WB CX X E)
  (I:Inv X pins σ H s) (r:Ym vs us) (h:sp (vs++dvs) H Q E):wpAny (model X.prog X.w) X.A (call (.ref f) us) (EP X pins σ Q) X.xe s:=by
 have r2:Ym (vs++dvs) (us++ds):=r.append hd
 have hl:(us++ds).length=ps.length:=by rw [← r2.length];exact F.len _ _ _ _ h
 refine wpAny_call (codeAny_mono (F.run X.A X.stack s H ⟨us,[]⟩ (us++ds) (vs++dvs) Q E hr I.env0 (hb s us I.kIn hl) r2 h) fun r s' hq=>?_)
 cases r with
 | error e=>exact hx pins σ H s e s' I hq
 | ok fl =>
  cases fl with
  | ret u=>exact I.after hq
  | next=>exact False.elim hq
  | brk=>exact False.elim hq
  | cont=>exact False.elim hq
theorem Ydb (F:FnOk X.prog X.w X.K X.mg X.base CX k f fd ps sp) (hr:Room k X.A) (hg:Gl X x) (hm:X.mg x=some (.ref f)) (hk:PySem.W.keepIn X.K (.ref f)=true) (hb:Xt X.K fd ps ds) (hd:Ym dvs ds) (hx:WB CX X E)
  (ha:PA X (e::es) t) (hdb:(x==("__debug__":Str))=false:=by decide) (he:starEach (e::es) X.env=(false,eval e X.env)::starEach es X.env:=by rfl) (hpl:(backTo pos (starEach es X.env)).any (·.1)=false:=by rfl) :
  PE X (.Call (.Name x p) (e::es) [] pos) (V5 sp dvs E t):=by
 intro pins s σ H Q I h
 refine wpAny_Call_Name_kw (VF I hg hm ?_ hdb)
 refine PySem.W.callWith_K (h₀:=X.base) I.ok.mod.kin hk (thn (ha pos pins s σ H _ I h) fun us s1 ⟨vs,H1,I1,r,q⟩=>⟨I1.kIn,?_⟩) he hpl
 exact Qm F hr hb hd hx I1 r q
theorem Ydc {pl:Sem Bool} (he:PE X o ta) (c:Cls X.K C) (hm:Meth X.K C m f) (F:FnOk X.prog X.w X.K X.mg X.base CX k f fd ps sp) (hr:Room k X.A) (hb:Xt X.K fd ps ds) (hd:Ym dvs ds) (hx:WB CX X E) (ha:PA X (e::es) t)
  (hst:starEach (e::es) X.env=(false,eval e X.env)::starEach es X.env:=by rfl) (hpl:(backTo pos (starEach es X.env)).any (·.1)=false:=by rfl)
  (ht:eval (.Call (.Attribute o m apos) (e::es) [] pos) X.env=(do
   let ov ← eval o X.env
   standAt apos.atName
   let (f,first) ← holding [ov] (getMethod ov m pl)
   callWith pos f first (backTo pos (starEach (e::es) X.env)) (backToKw pos (keywordEach [] X.env))):=by rfl) :
  PE X (.Call (.Attribute o m apos) (e::es) [] pos) (Qd C m sp dvs E ta t):=by
 intro pins s σ H Q I h
 refine PySem.W.methodCall_KW (pl:=pl) (thn (he pins s σ H _ I h) fun u s1 ⟨x,H1,I1,rx,a,dx,fs,ex,ea,l,q⟩=>?_) ht
 subst ex
 obtain rfl:u=Value.ref a:=rx
 refine YaD I1 ea c hm l ?_
 refine PySem.W.callWith_K (first:=[.ref a]) (h₀:=X.base) I.ok.mod.kin hm.kp (thn (ha pos pins s1 σ H1 _ I1 q) fun us s2 ⟨vs,H2,I2,r,q2⟩=>⟨I2.kIn,?_⟩) hst hpl
 exact Qm (us := .ref a::us) (vs := .ref a::vs) F hr hb hd hx I2 (.cons rfl r) q2
structure Mk (K:PySem.W.Frag) (C f:Addr):Prop where
 makes:PySem.W.makesIn K C=true
 init:PySem.W.findIn K (.ref C) "__init__"=some (some (.ref f))
 fn:PySem.W.isFn K (.ref f)=true
 kp:PySem.W.keepIn K (.ref C)=true
theorem Qn {pins:List (Addr×Obj)} {σ:St} {H:Hp} {s:Shared} {Q:VK} {us:List Value} {vs:List V} (M:Mk X.K C f) (F:FnOk X.prog X.w X.K X.mg X.base CX k f fd ps sp) (hr:Room (k+1) X.A) (hb:Xt X.K fd ps ds) (hd:Ym dvs ds)
  (hx:WB CX X E) (I:Inv X pins σ H s) (r:Ym vs us)
  (h:∀ x dx,H x=none→H dx=none→dx≠x→sp (.ref x::(vs++dvs)) (upd (upd H dx (.own x)) x (.ins C dx [])) (fun v H2=>v = .non∧Q (.ref x) H2) E) :
  wpAny (model X.prog X.w) X.A (call (.ref C) us) (EP X pins σ Q) X.xe s:=by
 have hq:=h (s.heap.objs.size+1) s.heap.objs.size (I.hok.fresh (Nat.le_succ _)) (I.hok.fresh (Nat.le_refl _)) (Nat.ne_of_lt (Nat.lt_succ_self _))
 have I2:=Inv.made (C:=C) I
 have r2:Ym (V.ref (s.heap.objs.size+1)::(vs++dvs)) (Value.ref (s.heap.objs.size+1)::(us++ds)) := .cons rfl (r.append hd)
 have hl:(Value.ref (s.heap.objs.size+1)::us++ds).length=ps.length:=by
  have e:=r2.length
  rw [F.len _ _ _ _ hq] at e
  exact e.symm
 refine wpAny_call (Ycb (f:=f) I.kIn M.makes M.init (beq_iff_eq.mp M.fn) (codeAny_mono (F.run _ X.stack _ _ ⟨Value.ref (s.heap.objs.size+1)::us,[]⟩ (Value.ref (s.heap.objs.size+1)::(us++ds)) _ _ E (hr.make C us [])
  (I2.env0.make C us []) (hb _ (Value.ref (s.heap.objs.size+1)::us) I2.kIn hl) r2 hq) fun r s' hq'=>?_))
 cases r with
 | error e=>exact hx pins σ _ _ e s' I2 hq'
 | ok fl =>
  cases fl with
  | ret u =>
   obtain ⟨v,H',I3,rv,ev,q3⟩:=I2.after hq'
   subst ev
   exact ⟨rv,⟨V.ref (s.heap.objs.size+1),H',I3,rfl,q3⟩⟩
  | next=>exact False.elim hq'
  | brk=>exact False.elim hq'
  | cont=>exact False.elim hq'
theorem Ydd (M:Mk X.K C f) (F:FnOk X.prog X.w X.K X.mg X.base CX k f fd ps sp) (hr:Room (k+1) X.A) (hg:Gl X x) (hm:X.mg x=some (.ref C)) (hb:Xt X.K fd ps ds) (hd:Ym dvs ds) (hx:WB CX X E)
  (ha:PA X (e::es) t) (hdb:(x==("__debug__":Str))=false:=by decide) (he:starEach (e::es) X.env=(false,eval e X.env)::starEach es X.env:=by rfl) (hpl:(backTo pos (starEach es X.env)).any (·.1)=false:=by rfl) :
  PE X (.Call (.Name x p) (e::es) [] pos) (V6 C sp dvs E t):=by
 intro pins s σ H Q I h
 refine wpAny_Call_Name_kw (VF I hg hm ?_ hdb)
 refine PySem.W.callWith_K (h₀:=X.base) I.ok.mod.kin M.kp (thn (ha pos pins s σ H _ I h) fun us s1 ⟨vs,H1,I1,r,q⟩=>⟨I1.kIn,?_⟩) he hpl
 exact Qn M F hr hb hd hx I1 r q
theorem Ycc (M:Mk X.K C f) (F:FnOk X.prog X.w X.K X.mg X.base CX k f fd ps sp) (hr:Room (k+1) X.A) (hg:Gl X x) (hm:X.mg x=some (.ref C)) (hb:Xt X.K fd ps ds) (hd:Ym dvs ds) (hx:WB CX X E)
  (hdb:(x==("__debug__":Str))=false:=by decide):PE X (.Call (.Name x p) [] [] pos) (V6 C sp dvs E Uz):=by
 intro pins s σ H Q I h
 refine wpAny_Call_Name_kw (VF I hg hm ?_ hdb)
 exact PySem.W.callWith_K0 I.kIn M.kp (Qn (us:=[]) M F hr hb hd hx I .nil h)
end
section
variable {X:Cx} {CX:CXT} {k:Nat} {f C:Addr} {fd:FuncData} {ps ks:List Str} {sp:Sp} {E:XK} {x m:Str} {p pos apos kpos:Pos} {e o:Expr} {es:List Expr} {kws:List Keyword} {te ta:TE} {t tk:TA} {nm:Option Str}
variable {g:List Value→List Value→List Value} {gV:List V→List V→List V}
end
structure FnScope (N P:List Str) (sc:Scope):Prop where
 kind:sc.kind = .function
 co:sc.isCoroutine=false
 gen:sc.isGenerator=false
 nd:N.Nodup
 pre:N.take P.length=P
 par:∀ x∈P,sc.names.lookup x=some .local∨sc.names.lookup x=some .cell
 nofree:∀ y∈sc.names,y.2 ≠ .free
theorem UN {kindOf:Str→Option NameKind} {x:Str}:∀ {binds:List (Str×Value)} {m:Str→Option Value},(∀ v,(x,v)∉binds)→bindL kindOf binds m x=m x
 | [],_,_=>rfl
 | (n,v)::r,m,h=>by
  unfold bindL
  rw [UN fun w hw=>h w (List.mem_cons_of_mem _ hw)]
  split
  ·have:x≠n:=by rintro rfl;exact h v List.mem_cons_self
   simp [this]
  ·rfl
theorem UO {kindOf:Str→Option NameKind} {x:Str}:∀ {binds:List (Str×Value)} {m:Str→Option Value},(∀ v,(x,v)∉binds)→bindC kindOf binds m x=m x
 | [],_,_=>rfl
 | (n,v)::r,m,h=>by
  unfold bindC
  rw [UO fun w hw=>h w (List.mem_cons_of_mem _ hw)]
  split
  ·rfl
  ·have:x≠n:=by rintro rfl;exact h v List.mem_cons_self
   simp [this]
theorem UP {kindOf:Str→Option NameKind} {x:Str} {v:Value}:∀ {P:List Str} {vs:List Value} {i:Nat} {m:Str→Option Value},P.Nodup→P[i]?=some x→vs[i]?=some v→kindOf x=some .local →
  bindL kindOf (P.zip vs) m x=some v
 | [],_,_,_,_,h,_,_=>by simp at h
 | _::_,[],_,_,_,_,h,_=>by simp at h
 | p::P,w::vs,0,m,nd,h1,h2,hk=>by
  simp at h1 h2;subst h1;subst h2
  show bindL kindOf ((p,w)::P.zip vs) m p=_
  unfold bindL
  rw [UN fun v hv=>(List.nodup_cons.mp nd).1 (List.of_mem_zip hv).1,if_pos hk]
  simp
 | p::P,w::vs,i+1,m,nd,h1,h2,hk=>by
  show bindL kindOf ((p,w)::P.zip vs) m x=_
  unfold bindL
  exact UP (i:=i) (List.nodup_cons.mp nd).2 (by simpa using h1) (by simpa using h2) hk
theorem UQ {kindOf:Str→Option NameKind} {x:Str} {v:Value}:∀ {P:List Str} {vs:List Value} {i:Nat} {m:Str→Option Value},P.Nodup→P[i]?=some x→vs[i]?=some v→kindOf x≠some .local →
  bindC kindOf (P.zip vs) m x=some v
 | [],_,_,_,_,h,_,_=>by simp at h
 | _::_,[],_,_,_,_,h,_=>by simp at h
 | p::P,w::vs,0,m,nd,h1,h2,hk=>by
  simp at h1 h2;subst h1;subst h2
  show bindC kindOf ((p,w)::P.zip vs) m p=_
  unfold bindC
  rw [UO fun v hv=>(List.nodup_cons.mp nd).1 (List.of_mem_zip hv).1,if_neg hk]
  simp
 | p::P,w::vs,i+1,m,nd,h1,h2,hk=>by
  show bindC kindOf ((p,w)::P.zip vs) m x=_
  unfold bindC
  exact UQ (i:=i) (List.nodup_cons.mp nd).2 (by simpa using h1) (by simpa using h2) hk
def Wg (N:List Str) (vs:List V):St:=vs.map some++List.replicate (N.length - vs.length) none
def Vs (CX:CXT) (P:Program) (w:World) (K:PySem.W.Frag) (mg:Str→Option Value) (base:Heap) (N:List Str) (qual:Str) (scope:Scope) (f:Addr) (cd:Value) (A:Around) (outer:List Env) (s:Shared) (H:Hp) (E:XK):Cx where
 prog:=P
 w:=w
 K:=K
 mg:=mg
 base:=base
 A:=A.deeper (envOfC qual scope s.heap.objs.size f cd)
 N:=N
 s₀:=s
 H₀:=H
 env:=envOfC qual scope s.heap.objs.size f cd
 outer:=outer
 stack:=envOfC qual scope s.heap.objs.size f cd::outer
 ex:=[]
 calm:=true
 fn:=fun _=>true
 pn:=[]
 xe:=fun e s'=>wpAny (model P w) (A.deeper (envOfC qual scope s.heap.objs.size f cd)) (leaving (envOfC qual scope s.heap.objs.size f cd) e) (fun _ s''=>CX outer H s E e s'') (fun e' s''=>CX outer H s E e' s'') s'
theorem Qo {sc:Scope} {n:Nat} {x:Str} (h:sc.names.lookup x=some .cell):∃ c,(cellsFrom n sc.names []).lookup x=some c:=by
 have q:=PySem.W.cellsFrom_some sc.names n [] (.inl h)
 exact Option.isSome_iff_exists.mp q
theorem Ybt {CX:CXT} {P:Program} {w:World} {K:PySem.W.Frag} {mg:Str→Option Value} {base:Heap} {N ps:List Str} {qual:Str} {scope:Scope} {f:Addr} {cd:Value} {A:Around} {outer:List Env} {s s1:Shared} {H:Hp} {E:XK} {us:List Value} {vs:List V}
  (S:FnScope N ps scope) (hd:A.handled=none) (e0:Env0 P w K mg base A outer s H) (hl:vs.length=ps.length) (r:Ym vs us)
  (x:InCallC s s.heap.objs.size (bindL (envOfC qual scope s.heap.objs.size f cd).kindOf (ps.zip us) fun _=>none) (cellsFrom (s.heap.objs.size+1) scope.names []) (bindC (envOfC qual scope s.heap.objs.size f cd).kindOf (ps.zip us) fun _=>none) s1) :
  Inv (Vs CX P w K mg base N qual scope f cd A outer s H E) [] (Wg N vs) H s1:=by
 have hpl:ps.length≤N.length:=by have:=congrArg List.length S.pre;rw [List.length_take] at this;omega
 obtain ⟨h1,tk,rfl,hk⟩:=x.done
 have noA:∀ b:Addr,b∉(Vs CX P w K mg base N qual scope f cd A outer s H E).ex:=fun b z=>absurd (show b∈([]:List Addr) from z) (by simp)
 refine ⟨⟨e0.mod,S.kind,rfl,rfl,Nat.le_refl _,fun y z c h1 h2=>?_,fun y hy=>?_,fun y c _ h=>?_,fun _=>hd,Around.frames_deeper e0.frames,.inr ⟨rfl,rfl⟩,fun b z=>absurd z (noA b),e0.bs,e0.bsz,fun b _ _=>noA b,fun b z=>absurd z (noA b),e0.funs,e0.frf⟩,
  rfl,e0.bare,Un.kept hk,⟨_,x.toInCall.ns,fun i y v h1 h2 h3=>?_⟩,fun y c h=>⟨_,x.cell y c h⟩,e0.hok.fresh (Nat.le_refl _),fun y c h=>?_,fun p hp=>absurd (show p∈([]:List (Addr×Obj)) from hp) (by simp),e0.hok.kept hk,?_⟩
 ·exact name_of_addr x.apart (PySem.mem_of_lookup h1) (PySem.mem_of_lookup h2)
 ·have hy:scope.names.lookup y=some .cell∨scope.names.lookup y=some .free:=hy
  rcases hy with hy | hy
  ·exact Qo hy
  ·exact absurd rfl (S.nofree _ (PySem.mem_of_lookup hy))
 ·exact Nat.le_of_lt (x.above y c (PySem.mem_of_lookup h))
 ·have hi:i<vs.length:=by
   unfold Wg at h2
   by_cases hi:i<vs.length
   ·exact hi
   ·rw [List.getElem?_append_right (by simpa using hi)] at h2
    rw [List.getElem?_replicate] at h2
    split at h2<;>cases h2
  have ha:vs[i]?=some v:=by
   unfold Wg at h2
   rw [List.getElem?_append_left (by simpa using hi),List.getElem?_map] at h2
   cases e:vs[i]? with
   | none=>rw [e] at h2;cases h2
   | some a=>rw [e] at h2;cases h2;rfl
  obtain ⟨u,hu,rv⟩:=r.get ha
  have hp:ps[i]?=some y:=by
   rw [← S.pre,List.getElem?_take_of_lt (by omega)];exact h1
  have ndP:ps.Nodup:=by rw [← S.pre];exact S.nd.sublist (List.take_sublist _ _)
  refine ⟨u,rv,?_⟩
  rcases S.par y (List.mem_of_getElem? hp) with k | k
  ·exact .inl ⟨k,UP ndP hp hu k⟩
  ·obtain ⟨c,e⟩:=Qo (n:=s.heap.objs.size+1) k
   refine .inr ⟨.inl k,c,e,?_⟩
   have q:=x.cell y c e
   rw [UQ ndP hp hu (by show scope.names.lookup y≠_;rw [k];decide)] at q
   exact q
 ·exact e0.hok.fresh (Nat.le_of_lt (x.above y c (PySem.mem_of_lookup h)))
 ·unfold Wg
  show _=N.length
  rw [List.length_append,List.length_map,List.length_replicate]
  omega
theorem fn_of {CX:CXT} {P:Program} {w:World} {K:PySem.W.Frag} {mg:Str→Option Value} {base:Heap} {k:Nat} {f:Addr} {name qual:Str} {params:Arguments} {body:List Stmt} {scope:Scope} {dV kV doc pm cdv ct oc:Value} {an od:Option Addr}
  {osl:Array (Option Value)} {N ps:List Str} {sp:Sp} (lk:K.lookup f=some ⟨oc,od,.func (PySem.W.fnOf name qual params body scope dV kV doc pm an cdv ct),osl⟩) (hcd:PySem.W.codeIn K cdv qual=true) (S:FnScope N ps scope)
  (len:∀ vs H Q E,sp vs H Q E→vs.length=ps.length)
  (hbody:∀ (A:Around) (outer:List Env) (s:Shared) (H:Hp) (vs:List V) (Q:VK) (E:XK),Room k (A.deeper (envOfC qual scope s.heap.objs.size f cdv))→sp vs H Q E →
   ∃ t,PSs (Vs CX P w K mg base N qual scope f cdv A outer s H E) body t∧t { nx:=fun _ H'=>Q .non H',rt:=Q } (Wg N vs) H) :
  FnOk P w K mg base CX (k+1) f (PySem.W.fnOf name qual params body scope dV kV doc pm an cdv ct) ps sp:=by
 refine ⟨len,fun A outer s H args us vs Q E hr e0 hb r hsp=>?_⟩
 have hl:=len _ _ _ _ hsp
 have KX:K.In s.heap:=e0.mod.kin.keeps fun b o e=>(e0.bs b o e).1
 have lim:s.heap.NoLimit:=e0.mod.nolimit.keeps fun b o e=>(e0.bs b o e).1
 have hkind:∀ y∈ps.zip us,scope.names.lookup y.1=some .local∨(scope.names.lookup y.1=some .cell∧((cellsFrom (s.heap.objs.size+1) scope.names []).lookup y.1).isSome=true):=fun ⟨n,v⟩ hy=>by
  rcases S.par n (List.of_mem_zip hy).1 with q | q
  ·exact .inl q
  ·exact .inr ⟨q,PySem.W.cellsFrom_some _ _ _ (.inl q)⟩
 refine codeAny_call_function hr.depth (KX _ _ lk) rfl S.co S.gen rfl (PySem.W.codeRec_of KX hcd) (hb _ _ _ _ ?_)
 refine wpAny_newFunctionEnv_cells S.kind hkind fun env he s1 x=>?_
 subst he
 refine ⟨lim.keeps x.toInCall.keep,codeAny_func ?_⟩
 obtain ⟨t,ht,hq⟩:=hbody A outer s H vs Q E (hr.deeper _) hsp
 have I:Inv (Vs CX P w K mg base N qual scope f cdv A outer s H E) [] (Wg N vs) H s1:=Ybt S hr.hd e0 hl r x
 refine wpAny_mono (ht [] s1 (Wg N vs) H _ I hq) (fun fl s' hs=>?_) fun e s' hs=>hs
 have fin:∀ {σ':St} {H':Hp} {v:V} {u:Value},Inv (Vs CX P w K mg base N qual scope f cdv A outer s H E) [] σ' H' s'→Yr v u→Q v H'→CE outer P w H s Q u s' :=
  fun {σ' H' v u} J rv q=>⟨v,H',J.os,J.bare,J.base,J.hok,rv,q⟩
 cases fl with
 | ret u =>
  obtain ⟨v,σ',H',J,rv,q⟩:=hs
  exact fin J rv q
 | next =>
  obtain ⟨σ',H',J,q⟩:=hs
  exact fin (v:=V.non) (u:=Value.none) J rfl q
 | brk =>
  obtain ⟨_,_,_,q⟩:=hs
  exact False.elim q
 | cont =>
  obtain ⟨_,_,_,q⟩:=hs
  exact False.elim q
end L2
namespace L2
open PySem PySem.Spec PyProof.Rows
section
variable {X:Cx} {x:Str} {p pos:Pos} {e:Expr} {es:List Expr} {t:TA} {id T:String} {r:List V→Hp→VK→Prop}
def tCB (r:List V→Hp→VK→Prop) (t:TA):TE:=fun σ H Q=>t σ H fun vs H1=>r vs H1 Q
theorem Ycd (hc:XQ X (.builtin id) r) (hg:Gl X x) (hm:X.mg x=none) (hv:bootBuiltins x=some (.builtin id)) (ha:PA X (e::es) t) (hn:x≠"__name__":=by decide) (hdb:(x==("__debug__":Str))=false:=by decide)
  (he:starEach (e::es) X.env=(false,eval e X.env)::starEach es X.env:=by rfl) (hpl:(backTo pos (starEach es X.env)).any (·.1)=false:=by rfl):PE X (.Call (.Name x p) (e::es) [] pos) (tCB r t):=by
 intro pins s σ H Q I h
 refine wpAny_Call_Name_kw (WU I hg hm hv ?_ hn hdb)
 exact PyProof.Rows.callWith_builtin1 (thn (ha pos pins s σ H _ I h) fun us s1 ⟨vs,H1,I1,r1,q1⟩=>hc pins s1 σ H1 vs us Q I1 r1 q1) he hpl
theorem Ybu (hc:XQ X (.type T) r) (hg:Gl X x) (hm:X.mg x=none) (hv:bootBuiltins x=some (.type T)) (ha:PA X (e::es) t) (hn:x≠"__name__":=by decide) (hdb:(x==("__debug__":Str))=false:=by decide)
  (he:starEach (e::es) X.env=(false,eval e X.env)::starEach es X.env:=by rfl) (hpl:(backTo pos (starEach es X.env)).any (·.1)=false:=by rfl):PE X (.Call (.Name x p) (e::es) [] pos) (tCB r t):=by
 intro pins s σ H Q I h
 refine wpAny_Call_Name_kw (WU I hg hm hv ?_ hn hdb)
 exact PyProof.Rows.callWith_type1 (thn (ha pos pins s σ H _ I h) fun us s1 ⟨vs,H1,I1,r1,q1⟩=>hc pins s1 σ H1 vs us Q I1 r1 q1) he hpl
end
end L2
namespace HT
open PySem PyProof.Rows
section
open PySem.SeqAt
open PySem.AutoSeq1 (wpAny_loadPart')
open PySem.MeetsSeq PySem.MeetsSeq2 PySem.MeetsSeq3
end
section
variable {prog:Program} {w:World} {A:Around} {E:Value→Shared→Prop} {s:Shared}
def sIx (n d:Nat):Option Int→Nat
 | none=>d
 | some v=>if v<0 then (v+(n:Int)).toNat else min v.toNat n
theorem sIx_none (n d:Nat):sIx n d none=d:=rfl
theorem sIx_nat (n d k:Nat):sIx n d (some (k:Int))=min k n:=by
 show (if (k:Int)<0 then ((k:Int)+(n:Int)).toNat else min (k:Int).toNat n)=min k n
 rw [if_neg (by omega),Int.toNat_natCast]
end
end HT
namespace L2
open PySem PySem.Spec PyProof.Rows
abbrev TO:=St→Hp→(Option Int→Hp→Prop)→Prop
def PO (X:Cx) (e:Option Expr) (t:TO):Prop :=
 ∀ (pins:List (Addr×Obj)) (s:Shared) (σ:St) (H:Hp) (Q:Option Int→Hp→Prop),Inv X pins σ H s→t σ H Q →
  wpAny (model X.prog X.w) X.A (evalPart e X.env) (fun u s'=>∃ o H',Inv X pins σ H' s'∧IsPart u o∧Q o H') X.xe s
def Yaa:TO:=fun _ H Q=>Q none H
def YcQ (t:TE):TO:=fun σ H Q=>t σ H fun x H1=>∃ i,x = .int i∧Q (some i) H1
theorem YaH {ns:List Int}:∀ {us:List Value},Ym (ns.map V.int) us→IntsAre us ns:=by
 induction ns with
 | nil=>intro us r;rw [List.map_nil] at r;cases r;exact .nil
 | cons n ns ih =>
  intro us r
  rw [List.map_cons] at r
  cases r with
  | cons r1 r2 =>
   obtain ⟨t,e⟩:=r1
   subst e
   exact .cons n t (ih r2)
section
variable {X:Cx} {e:Expr} {te:TE} {lo hi:Option Expr} {tl th:TO} {pos p2:Pos}
theorem WW:PO X none Yaa:=by
 intro pins s σ H Q I h
 rw [evalPart_none]
 exact wpAny_pure ⟨none,H,I,.none,h⟩
theorem WX (h:PE X e te):PO X (some e) (YcQ te):=by
 intro pins s σ H Q I hw
 rw [evalPart_some]
 refine thn (h pins s σ H _ I hw) fun u s1 ⟨x,H1,I1,r1,q1⟩=>?_
 obtain ⟨i,rfl,q⟩:=q1
 obtain ⟨t,rfl⟩:=r1
 exact ⟨some i,H1,I1,.int i t,q⟩
def SlR (X:Cx) (r:V→Option Int→Option Int→Hp→VK→Prop):Prop :=
 ∀ (pins:List (Addr×Obj)) (s:Shared) (σ:St) (H:Hp) (x:V) (v vl vu:Value) (lo hi:Option Int) (sl:Addr) (Q:VK),Inv X pins σ H s→Yr x v→s.heap.IsSliceOf sl vl vu .none→IsPart vl lo→IsPart vu hi→r x lo hi H Q →
  ∃ T id,typeLookup (.type T) "__getitem__"=pure (some (.builtin id))∧s.TypeIs v T∧wpAny (model X.prog X.w) X.A (getItem v (.ref sl)) (EP X pins σ Q) X.xe s
def tSl (r:V→Option Int→Option Int→Hp→VK→Prop) (te:TE) (tl th:TO):TE:=fun σ H Q=>te σ H fun x H1=>tl σ H1 fun l H2=>th σ H2 fun u H3=>r x l u H3 Q
theorem WC {r:V→Option Int→Option Int→Hp→VK→Prop} (hr:SlR X r) (he:PE X e te) (hl:PO X lo tl) (hu:PO X hi th):PE X (.Subscript e (.Slice lo hi none p2) pos) (tSl r te tl th):=by
 intro pins s σ H Q I h
 refine Subscript_ (thn (he pins s σ H _ I h) fun v s1 ⟨x,H1,I1,r1,q1⟩=>?_)
 refine wpAny_Slice (thn (hl pins s1 σ H1 _ I1 q1) fun vl s2 ⟨l,H2,I2,pl,q2⟩=>thn (hu pins s2 σ H2 _ I2 q2) fun vu s3 ⟨u,H3,I3,pu,q3⟩=>?_)
 rw [evalPart_none]
 refine wpAny_pure ?_
 have I4:Inv X pins σ H3 { s3 with heap:=s3.heap.push { cls := .type "slice",data := .fields #[vl,vu,.none] } }:=I3.kept (t':=s3.toks) fun b ob q=>Heap.get?_push_of_some _ q
 obtain ⟨T,id,hT,ht,hg⟩:=hr pins { s3 with heap:=s3.heap.push { cls := .type "slice",data := .fields #[vl,vu,.none] } } σ H3 x v vl vu l u s3.heap.objs.size Q I4 r1 (Heap.IsSliceOf.new ..) pl pu q3
 show wpAny (model X.prog X.w) X.A (subscriptTail e (.Slice lo hi none p2) v (.ref s3.heap.objs.size)) (EP X pins σ Q) X.xe { s3 with heap:=s3.heap.push { cls := .type "slice",data := .fields #[vl,vu,.none] } }
 exact tail_any (ops:=[.ref s3.heap.objs.size,v]) ht hT hg (by with_unfolding_all rfl)
def XS (xs:List V) (lo hi:Option Int):List V:=(xs.drop (HT.sIx xs.length 0 lo)).take (HT.sIx xs.length xs.length hi - HT.sIx xs.length 0 lo)
theorem QW (xs:List V) (lo hi:Option Int):(XS xs lo hi).length≤xs.length:=by
 unfold XS
 rw [List.length_take,List.length_drop]
 omega
end
end L2
namespace L2
open PySem PySem.Spec PyProof.Rows
def ixN (n:Nat) (i:Int):Option Nat:=if 0≤i then (if i<n then some i.toNat else none) else if -(n:Int)≤i then some (i+n).toNat else none
def atI {α:Type} (xs:List α) (i:Int):Option α:=(ixN xs.length i).bind fun j=>xs[j]?
theorem Yde {n:Nat} {i:Int} {j:Nat} (h:ixN n i=some j):seqIndex? i n=some j∧j<n ∧ -(n:Int)≤i∧i<n:=by
 unfold ixN at h
 by_cases h0:0≤i
 ·rw [if_pos h0] at h
  by_cases h1:i<n
  ·rw [if_pos h1] at h
   have e:i.toNat=j:=Option.some.inj h
   exact ⟨by rw [seqIndex_of h0 h1,e],by omega,by omega,h1⟩
  ·rw [if_neg h1] at h;cases h
 ·rw [if_neg h0] at h
  by_cases h1 : -(n:Int)≤i
  ·rw [if_pos h1] at h
   have e:(i+n).toNat=j:=Option.some.inj h
   exact ⟨by rw [seqIndex_neg (by omega) h1,e],by omega,h1,by omega⟩
  ·rw [if_neg h1] at h;cases h
theorem UA {α:Type} {xs:List α} {i:Int} {v:α} (h:atI xs i=some v):∃ j,seqIndex? i xs.length=some j∧xs[j]?=some v∧j<xs.length ∧ -(xs.length:Int)≤i∧i<xs.length:=by
 unfold atI at h
 cases e:ixN xs.length i with
 | none=>rw [e] at h;cases h
 | some j =>
  rw [e] at h
  obtain ⟨h1,h2,h3,h4⟩:=Yde e
  exact ⟨j,h1,h,h2,h3,h4⟩
theorem Yq {α:Type} {xs:List α} {j:Nat} {v:α} (h:xs[j]?=some v):atI xs (j:Int)=some v:=by
 have hj:j<xs.length:=(List.getElem?_eq_some_iff.mp h).1
 have e:ixN xs.length (j:Int)=some j:=by
  unfold ixN
  rw [if_pos (by omega),if_pos (by omega)];simp
 unfold atI;rw [e];exact h
theorem Yce {α:Type} (xs:List α) (v:α):atI (xs++[v]) (-1)=some v:=by
 have hl:(xs++[v]).length=xs.length+1:=by simp
 have e:ixN (xs++[v]).length (-1)=some xs.length:=by
  unfold ixN
  rw [hl,if_neg (by decide),if_pos (by omega)]
  congr 1
  omega
 unfold atI
 rw [e]
 show (xs++[v])[xs.length]?=some v
 simp
def Ydf (b:Expr):Prop:=∀ o i,subscripted b false o i=operate [o,i] (getItem o i)
def IxR (X:Cx) (r:R2):Prop :=
 ∀ (value slice:Expr) (pins:List (Addr×Obj)) (s:Shared) (σ:St) (H:Hp) (x y:V) (v u:Value) (Q:VK),Inv X pins σ H s→Yr x v→Yr y u→r x y H Q →
  subscripted slice false v u=operate [v,u] (getItem v u)→wpAny (model X.prog X.w) X.A (subscriptTail value slice v u) (EP X pins σ Q) X.xe s
def MtR (X:Cx) (id:String) (r:V→List V→Hp→VK→Prop):Prop :=
 ∀ (pins:List (Addr×Obj)) (s:Shared) (σ:St) (H:Hp) (x:V) (xs:List V) (v:Value) (us:List Value) (Q:VK),Inv X pins σ H s→Yr x v→Ym xs us→r x xs H Q →
  wpAny (model X.prog X.w) X.A (call (.builtin id) (v::us)) (EP X pins σ Q) X.xe s
section
variable {X:Cx} {a b:Expr} {ta tb:TE} {pos:Pos}
theorem Yx {r:R2} (hr:IxR X r) (ha:PE X a ta) (hb:PE X b tb) (hs:Ydf b):PE X (.Subscript a b pos) (tOp r ta tb):=by
 intro pins s σ H Q I h
 exact Subscript_ (binT ha hb I h fun v u s2 x y H2 I2 rx ry q=>hr a b pins s2 σ H2 x y v u Q I2 rx ry q (hs _ _))
def rIxL (K:PySem.W.Frag):R2:=fun x y H Q=>∃ p xs i v,x = .ref p∧y = .int i∧SqL K H p xs∧atI xs i=some v∧Q v H
def rIxT (K:PySem.W.Frag):R2:=fun x y H Q=>∃ p xs i v,x = .ref p∧y = .int i∧SqT K H p xs∧atI xs i=some v∧Q v H
def rIxS:R2:=fun x y H Q=>∃ z i c,x = .str z∧y = .int i∧z.length≤sizeLine∧atI z.cps.toList i=some c∧Q (.str ⟨#[c]⟩) H
theorem YM:IxR X (rIxL X.K):=by
 intro value slice pins s σ H x y v u Q I rx ry h hs
 obtain ⟨p,xs,i,z,rfl,rfl,hq,he,q⟩:=h
 cases rx
 obtain ⟨t,rfl⟩:=ry
 obtain ⟨its,r,pl,hz⟩:=I.list hq
 obtain ⟨j,h1,h2,h3,h4,h5⟩:=UA he
 obtain ⟨w,ew,rw'⟩:=r.get h2
 have hl:=r.length
 have hn:=V4
 have fin:EP X pins σ Q w s:=⟨z,H,I,rw',q⟩
 by_cases h0:0≤i
 ·have hj:i.toNat=j:=by
   rw [seqIndex_of h0 h5] at h1
   exact Option.some.inj h1
  exact item_listR pl.isList h0 (by omega) (by rw [hj];simpa using ew) fin hs
 ·have hj:(i+(its.toArray.size:Int)).toNat=j:=by
   rw [seqIndex_neg (by omega) h4] at h1
   rw [List.size_toArray,← hl]
   exact Option.some.inj h1
  exact subscriptTail_builtinR (x:=w) pl.isList.typeIs slot_list_getitem.lookup
   (wpAny_getItem_list_neg (Q:=fun r s'=>r=w∧EP X pins σ Q r s') pl.isList (by omega) (by rw [List.size_toArray]<;>omega) (by omega) (by rw [hj];simpa using ew) ⟨rfl,fin⟩) hs
theorem Xc:IxR X (rIxT X.K):=by
 intro value slice pins s σ H x y v u Q I rx ry h hs
 obtain ⟨p,xs,i,z,rfl,rfl,hq,he,q⟩:=h
 cases rx
 obtain ⟨t,rfl⟩:=ry
 obtain ⟨its,r,pl,hz⟩:=I.tuple hq
 obtain ⟨j,h1,h2,h3,h4,h5⟩:=UA he
 obtain ⟨w,ew,rw'⟩:=r.get h2
 have hl:=r.length
 have hn:=V4
 have fin:EP X pins σ Q w s:=⟨z,H,I,rw',q⟩
 exact subscriptTail_builtinR (x:=w) pl.typeIs slot_tuple_getitem.lookup
  (getItem_tuple (j:=j) (Q:=fun r s'=>r=w∧EP X pins σ Q r s') pl (by omega) (by omega) (by rw [List.size_toArray,← hl];exact h1) (by simpa using ew) ⟨rfl,fin⟩) hs
theorem YdW:IxR X rIxS:=by
 intro value slice pins s σ H x y v u Q I rx ry h hs
 obtain ⟨z,i,c,rfl,rfl,hz,he,q⟩:=h
 obtain ⟨t,rfl⟩:=rx
 obtain ⟨t',rfl⟩:=ry
 obtain ⟨j,h1,h2,h3,h4,h5⟩:=UA he
 have hl:z.cps.toList.length=z.length:=by simp [Str.length]
 rw [hl] at h1 h4 h5
 have hn:=V4
 exact tail_any (typeIs_str s z t) slot_str_getitem.lookup (getItem_str (c:=c) (by
  have e1:decide (i < -(2^63:Int))=false:=decide_eq_false (by omega)
  have e2:decide (i≥2^63)=false:=decide_eq_false (by omega)
  rw [e1,e2,Bool.or_false]) (by rw [h1];simpa using h2) ⟨.str ⟨#[c]⟩,H,I.tok _,⟨_,rfl⟩,q⟩) hs
def rSetL:V→V→V→Hp→(Hp→Prop)→Prop:=fun o i v H Q=>∃ p xs k j,o = .ref p∧i = .int k∧H p=some (.lst xs)∧ixN xs.length k=some j∧Q (upd H p (.lst (xs.set j v)))
theorem Qp (lo hi:Option Int) (n:Nat):(sliceBounds lo hi none n).1=((HT.sIx n 0 lo:Nat):Int)∧(sliceBounds lo hi none n).2.1=((HT.sIx n n hi:Nat):Int)∧(sliceBounds lo hi none n).2.2=1:=by
 refine ⟨?_,?_,rfl⟩
 ·cases lo with
  | none=>simp [sliceBounds,HT.sIx]
  | some i =>
   simp only [sliceBounds,HT.sIx,Option.getD_none,show (1:Int)>0 by decide,if_true]
   by_cases h:i<0
   ·simp only [h,if_true]<;>omega
   ·simp only [h,if_false]<;>omega
 ·cases hi with
  | none=>simp [sliceBounds,HT.sIx]
  | some i =>
   simp only [sliceBounds,HT.sIx,Option.getD_none,show (1:Int)>0 by decide,if_true]
   by_cases h:i<0
   ·simp only [h,if_true]<;>omega
   ·simp only [h,if_false]<;>omega
theorem U8 (its:List Value) (lo hi:Option Int):slicePick its.toArray lo hi none=((its.drop (HT.sIx its.length 0 lo)).take (HT.sIx its.length its.length hi - HT.sIx its.length 0 lo)).toArray:=by
 obtain ⟨h1,h2,h3⟩:=Qp lo hi its.toArray.size
 unfold slicePick
 rw [h1,h2,h3]
 simp only [sliceRange_one,pick_run,List.size_toArray]<;>rfl
def rSlL (K:PySem.W.Frag):V→Option Int→Option Int→Hp→VK→Prop:=fun x lo hi H Q=>∃ a xs,x = .ref a∧SqL K H a xs∧∀ p,H p=none→Q (.ref p) (upd H p (.lst (XS xs lo hi)))
theorem WY:SlR X (rSlL X.K):=by
 intro pins s σ H x v vl vu lo hi sl Q I rx hs pl pu h
 obtain ⟨a,xs,rfl,hx,q⟩:=h
 cases rx
 obtain ⟨its,r,ht,hz⟩:=I.list hx
 have hlen:=r.length
 refine ⟨"list",_,slot_list_getitem.lookup,ht.isList.typeIs,?_⟩
 refine wpAny_getItem_list_slice ht.isList hs pl pu .none (by simp) ?_ (by rw [List.size_toArray]<;>omega)
 rw [U8,← hlen]
 refine ⟨.ref s.heap.objs.size,_,I.laid (t':=s.toks) (o := .lst (XS xs lo hi)) (fun b ob q=>Heap.get?_push_of_some _ q) (Nat.le_refl _) ?_,rfl,q _ (I.hok.fresh (Nat.le_refl _))⟩
 exact ⟨Nat.le_trans (QW xs lo hi) hz,_,0,(r.drop (HT.sIx xs.length 0 lo)).take (HT.sIx xs.length xs.length hi - HT.sIx xs.length 0 lo),Heap.get?_push_size _ rfl⟩
def YcR:V→Bool
 | .non=>true
 | .bl _=>true
 | .int _=>true
 | .str _=>true
 | _=>false
def eqV:V→V→Bool
 | .non,.non=>true
 | .bl a,.bl b=>a==b
 | .bl a,.int b=>(if a then 1 else 0)==b
 | .int a,.bl b=>a==(if b then 1 else 0)
 | .int a,.int b=>a==b
 | .str a,.str b=>a==b
 | _,_=>false
def inV (x:V) (xs:List V):Bool:=xs.any fun y=>eqV y x
def rIn (K:PySem.W.Frag) (neg:Bool):R2:=fun x y H Q=>∃ p xs,y = .ref p∧(SqL K H p xs∨SqT K H p xs)∧YcR x=true∧xs.all YcR=true∧Q (.bl (if neg then !inV x xs else inV x xs)) H
theorem YA:XQ X (.builtin "len") (fun xs H Q=>∃ p ys,xs=[.ref p]∧(SqL X.K H p ys∨SqT X.K H p ys)∧Q (.int ys.length) H):=by
 intro pins s σ H xs us Q I r h
 obtain ⟨p,ys,rfl,hq,q⟩:=h
 obtain ⟨u,rfl,rx⟩:=VG r
 cases rx
 have hn:=V4
 rcases hq with hq | hq
 ·obtain ⟨its,r',pl,hz⟩:=I.list hq
  have hlen:=r'.length
  exact Calls.call_len_list pl.isList (by simp only [List.size_toArray]<;>omega) ⟨.int ys.length,H,I.tok _,⟨s.toks+1,by rw [List.size_toArray,hlen]⟩,q⟩
 ·obtain ⟨its,r',pl,hz⟩:=I.tuple hq
  have hlen:=r'.length
  exact len_tuple pl (by simp only [List.size_toArray]<;>omega) ⟨.int ys.length,H,I.tok _,⟨s.toks+1,by rw [List.size_toArray,hlen]⟩,q⟩
theorem Vt:XQ X (.type "list") (fun xs H Q=>∃ p ys,xs=[.ref p]∧(SqL X.K H p ys∨SqT X.K H p ys)∧∀ l,H l=none→Q (.ref l) (upd H l (.lst ys))):=by
 intro pins s σ H xs us Q I r h
 obtain ⟨p,ys,rfl,hq,q⟩:=h
 obtain ⟨u,rfl,rx⟩:=VG r
 cases rx
 have fin:∀ (its:List Value),Ym ys its→ys.length≤sizeLine→∀ (h':Heap) (c':Nat),(∀ b o',s.heap.get? b=some o'→h'.get? b=some o') →
   h'.get? s.heap.objs.size=some { cls := .type "list",dict:=none,data := .seq its.toArray c',slots:=#[] }→EP X pins σ Q (.ref s.heap.objs.size) { s with heap:=h' }:=fun its r' hz h' c' kp e =>
  ⟨.ref s.heap.objs.size,_,I.laid (t':=s.toks) kp (Nat.le_refl _) (show YG X.prog X.w _ h' _ (.lst ys) from ⟨hz,its,c',r',e⟩),rfl,q _ (I.hok.fresh (Nat.le_refl _))⟩
 rcases hq with hq | hq
 ·obtain ⟨its,r',pl,hz⟩:=I.list hq
  have hlen:=r'.length
  obtain ⟨o,ho,hc,n,hd⟩:=pl.isList
  exact call_list_seq p (.inl rfl) ho hc hd (fun h' c' kp e=>fin its r' hz h' c' kp e) (by simp only [List.size_toArray]<;>omega)
 ·obtain ⟨its,r',pl,hz⟩:=I.tuple hq
  have hlen:=r'.length
  obtain ⟨o,ho,hc,n,hd⟩:=pl
  exact call_list_seq p (.inr rfl) ho hc hd (fun h' c' kp e=>fin its r' hz h' c' kp e) (by simp only [List.size_toArray]<;>omega)
theorem Vj:XQ X (.type "tuple") (fun xs H Q=>∃ p ys,xs=[.ref p]∧((SqL X.K H p ys∧∀ l,H l=none→Q (.ref l) (upd H l (.tup ys)))∨(SqT X.K H p ys∧Q (.ref p) H))):=by
 intro pins s σ H xs us Q I r h
 obtain ⟨p,ys,rfl,h⟩:=h
 obtain ⟨u,rfl,rx⟩:=VG r
 cases rx
 rcases h with ⟨hq,q⟩ | ⟨hq,q⟩
 ·obtain ⟨its,r',pl,hz⟩:=I.list hq
  have hlen:=r'.length
  refine call_tuple_list pl.isList (fun h' kp=>?_) (by simp only [List.size_toArray]<;>omega)
  have I1:Inv X pins σ H { s with heap:=h' }:=I.kept (t':=s.toks) kp
  have I2:Inv X pins σ (upd H h'.objs.size (.tup ys)) { s with heap:=h'.push { cls := .type "tuple",data := .seq its.toArray } } :=
   I1.laid (t':=s.toks) (fun b o e=>Heap.get?_push_of_some _ e) (Nat.le_refl _) (show YG X.prog X.w _ _ _ (.tup ys) from ⟨hz,its,r',IsTup.new _ _⟩)
  exact ⟨.ref h'.objs.size,_,I2,rfl,q _ (I1.hok.fresh (Nat.le_refl _))⟩
 ·obtain ⟨its,r',pl,hz⟩:=I.tuple hq
  exact call_tuple_same pl ⟨.ref p,H,I,rfl,q⟩
def tyV (K:PySem.W.Frag) (T:String) (x:V) (H:Hp):Prop:=match x with
 | .str _=>T="str"
 | .int _=>T="int"
 | .ref p=>(T="list"∧∃ xs,SqL K H p xs)∨(T="tuple"∧∃ o,K.lookup p=some o∧o.cls = .type "tuple"∧o.dict=none) ∨
   (T="dict"∧((∃ kvs,H p=some (.dK kvs))∨∃ kvs,H p=some (.dT kvs)))∨(T="set"∧∃ S n,H p=some (.set S n))
 | _=>False
theorem Ybv {pins:List (Addr×Obj)} {σ:St} {H:Hp} {s:Shared} {T:String} {x:V} {v:Value} (I:Inv X pins σ H s) (r:Yr x v) (ty:tyV X.K T x H) :
  s.TypeIs v T∧∀ a,v = .ref a→∃ ob,s.heap.get? a=some ob∧ob.dict=none:=by
 cases x with
 | str z =>
  obtain ⟨t,rfl⟩:=r
  cases (show T="str" from ty)
  exact ⟨typeIs_str s z t,fun _ e=>nomatch e⟩
 | int i =>
  obtain ⟨t,rfl⟩:=r
  cases (show T="int" from ty)
  exact ⟨typeIs_int s i t,fun _ e=>nomatch e⟩
 | ref p =>
  cases r
  rcases ty with ⟨rfl,xs,hq⟩ | ⟨rfl,o,hk,hc,hd⟩ | ⟨rfl,hk⟩ | ⟨rfl,S,n,hk⟩
  ·obtain ⟨its,_,pl,_⟩:=I.list hq
   refine ⟨pl.isList.typeIs,fun a e=>?_⟩
   cases e
   obtain ⟨o,n,e,c,hd,_⟩:=pl
   exact ⟨o,e,hd⟩
  ·refine ⟨⟨o,I.kIn p o hk,hc⟩,fun a e=>?_⟩
   cases e
   exact ⟨o,I.kIn _ o hk,hd⟩
  ·have z:∃ o,s.heap.get? p=some o∧o.ExactDict:=by
    rcases hk with ⟨kvs,hk⟩ | ⟨kvs,hk⟩
    ·obtain ⟨_,_,_,_,o,_,_,e,ex,_⟩:=I.hok p _ hk
     exact ⟨o,e,ex⟩
    ·obtain ⟨_,_,_,_,o,_,_,e,ex,_⟩:=I.hok p _ hk
     exact ⟨o,e,ex⟩
   obtain ⟨o,e,ex⟩:=z
   refine ⟨⟨o,e,ex.1⟩,fun a e2=>?_⟩
   cases e2
   exact ⟨o,e,ex.2.1⟩
  ·obtain ⟨o,_,_,_,e,ex,_⟩:=I.hok p _ hk
   refine ⟨⟨o,e,ex.1⟩,fun a e2=>?_⟩
   cases e2
   exact ⟨o,e,ex.2.1⟩
 | _=>exact False.elim ty
def tBM0 (K:PySem.W.Frag) (T:String) (r:V→List V→Hp→VK→Prop) (to:TE):TE:=fun σ H Q=>to σ H fun x H1=>tyV K T x H1∧r x [] H1 Q
def tBM (K:PySem.W.Frag) (T:String) (r:V→List V→Hp→VK→Prop) (to:TE) (t:TA):TE:=fun σ H Q=>to σ H fun x H1=>tyV K T x H1∧t σ H1 fun xs H2=>r x xs H2 Q
variable {o e:Expr} {es:List Expr} {to:TE} {t:TA} {name:Str} {apos cpos:Pos} {T id:String} {r:V→List V→Hp→VK→Prop}
theorem YdX (pa:PlainAttrs T) (slot:Slot T name id) (hty:typeOf (.builtin id)=pure (.type "method_descriptor")) (hm:MtR X id r) (ho:PE X o to)
  (hbase:attributeBase o name X.env (eval o X.env)=eval o X.env) (hline:(apos.endLine==cpos.line)=true):PE X (.Call (.Attribute o name apos) [] [] cpos) (tBM0 X.K T r to):=by
 intro pins s σ H Q I h
 refine wpAny_Call_method0_late hbase hline (thn (ho pins s σ H _ I h) fun v s1 ⟨x,H1,I1,r1,ty,q1⟩=>?_)
 obtain ⟨h1,h2⟩:=Ybv I1 r1 ty
 exact ⟨T,id,pa,slot,hty,h1,h2,Calls.callWith_builtin rfl (PySem.evalArgs_none (hm pins s1 σ H1 x [] v [] Q I1 r1 .nil q1))⟩
theorem X0 (pa:PlainAttrs T) (slot:Slot T name id) (hty:typeOf (.builtin id)=pure (.type "method_descriptor")) (hm:MtR X id r) (ho:PE X o to) (ha:PA X (e::es) t)
  (hbase:attributeBase o name X.env (eval o X.env)=eval o X.env)
  (hfew:((backTo cpos (starEach (e::es) X.env)).all (fun x => !x.1)&&(backToKw cpos (keywordEach [] X.env)).all (fun x=>x.1.isSome)
   && decide ((e::es).length+([]:List Keyword).length+(if ([]:List Keyword).isEmpty then 0 else 1)<30))=true)
  (hline:(apos.endLine==cpos.line)=true) (hs:starEach (e::es) X.env=(false,eval e X.env)::starEach es X.env) (hplain:(backTo cpos (starEach es X.env)).any (·.1)=false) :
  PE X (.Call (.Attribute o name apos) (e::es) [] cpos) (tBM X.K T r to t):=by
 intro pins s σ H Q I h
 refine wpAny_Call_method_late hbase hfew hline rfl (thn (ho pins s σ H _ I h) fun v s1 ⟨x,H1,I1,r1,ty,q1⟩=>?_)
 obtain ⟨h1,h2⟩:=Ybv I1 r1 ty
 refine ⟨T,id,pa,slot,hty,h1,h2,?_⟩
 have hA:=ha cpos pins s1 σ H1 _ I1 q1
 rw [hs] at hA ⊢
 refine Calls.callWith_builtin (by show (false||(backTo cpos (starEach es X.env)).any (·.1))=false;rw [hplain]<;>rfl) (Calls.evalArgs_plain ?_)
 exact thn hA fun us s2 ⟨vs,H2,I2,r2,q2⟩=>hm pins s2 σ H2 x vs v us Q I2 r1 r2 q2
/- xs.append(e),list.index on a module's tuple .. are MtR facts of 06m -/
end
end L2
namespace L2
open PySem PySem.Spec PyProof.Rows
def MtM (X:Cx) (id:String) (r:V→List V→Hp→VK→Prop):Prop :=
 ∀ (pins:List (Addr×Obj)) (s:Shared) (σ:St) (H:Hp) (x:V) (xs:List V) (v:Value) (us:List Value) (Q:VK),Inv X pins σ H s→Yr x v→Ym xs us→r x xs H Q →
  wpAny (model X.prog X.w) X.A (call (.builtin id) (v::us)) (EP X pins σ Q) X.xe s
theorem Ym.one:∀ {x:V} {us:List Value},Ym [x] us→∃ u,us=[u]∧Yr x u
 | _,_,.cons r .nil=>⟨_,rfl,r⟩
theorem Ym.two:∀ {x y:V} {us:List Value},Ym [x,y] us→∃ u v,us=[u,v]∧Yr x u∧Yr y v
 | _,_,_,.cons r (.cons q .nil)=>⟨_,_,rfl,r,q⟩
theorem Ym.zero:∀ {us:List Value},Ym [] us→us=[]
 | _,.nil=>rfl
theorem Ym.dropLast {xs:List V} {us:List Value} (h:Ym xs us):Ym xs.dropLast us.dropLast:=by
 induction h with
 | nil=>exact .nil
 | cons r t ih =>
  cases t with
  | nil=>exact .nil
  | cons q t'=>exact .cons r ih
theorem Ym.rep {xs:List V} {us:List Value} (h:Ym xs us):∀ k:Nat,Ym (List.replicate k xs).flatten (List.replicate k us).flatten
 | 0 => .nil
 | k+1=>by
  rw [List.replicate_succ,List.replicate_succ,List.flatten_cons,List.flatten_cons]
  exact Ym.append h (Ym.rep h k)
theorem YaI {α:Type} (l:List α):l.eraseIdx (l.length - 1)=l.dropLast:=by
 induction l with
 | nil=>rfl
 | cons a r ih =>
  cases r with
  | nil=>rfl
  | cons b r =>
   have e:(a::b::r).length - 1=((b::r).length - 1)+1:=by
    have h1:(a::b::r).length=r.length+2:=rfl
    have h2:(b::r).length=r.length+1:=rfl
    omega
   rw [e,List.eraseIdx_cons_succ,ih]
   all_goals rfl
theorem UR (its:List Value):∀ (k:Nat) (acc:List Value),
  List.foldl (fun x1 x2=>x1++x2) acc.toArray (List.replicate k its.toArray)=(acc++(List.replicate k its).flatten).toArray
 | 0,acc=>by simp
 | k+1,acc=>by
  have e:acc.toArray++its.toArray=(acc++its).toArray:=by simp
  have e2:(acc++its)++(List.replicate k its).flatten=acc++(List.replicate (k+1) its).flatten:=by
   rw [List.replicate_succ,List.flatten_cons,List.append_assoc]
  rw [← e2,← UR its k (acc++its),← e,List.replicate_succ,List.foldl_cons]
section
variable {X:Cx} {pins:List (Addr×Obj)} {σ:St} {H:Hp} {s:Shared} {l b:Addr} {xs ys zs:List V}
theorem Inv.lset {its its':List Value} {n:Nat} {f:Array Value→Array Value} {t':Nat} (I:Inv X pins σ H s) (hH:H l=some (.lst xs))
  (e:s.heap.get? l=some { cls := .type "list",data := .seq its.toArray n }) (hf:f its.toArray=its'.toArray) (hv:Ym ys its') (hz:ys.length≤sizeLine) :
  Inv X pins σ (upd H l (.lst ys)) { s with heap:=s.heap.update l (Obj.mapSeq f),toks:=t' }:=by
 have q:=PySem.IsL.update e f
 rw [hf] at q
 refine I.write (x:=l) (e:=l) (by rw [hH];exact trivial) (.inl rfl) (fun b' u hb hu=>(Heap.get?_update_other s.heap (Obj.mapSeq f) (Ne.symm hb)).trans hu) ⟨_,q⟩ ?_
 exact ⟨hz,its',_,hv,q⟩
theorem Inv.lnew {its:List Value} {t':Nat} (I:Inv X pins σ H s) (hv:Ym ys its) (hz:ys.length≤sizeLine) :
  Inv X pins σ (upd H s.heap.objs.size (.lst ys)) { s with heap:=s.heap.push { cls := .type "list",data := .seq its.toArray },toks:=t' } :=
 I.laid (fun _ _ q=>Heap.get?_push_of_some _ q) (Nat.le_refl _) ⟨hz,its,0,hv,Heap.get?_push_size _ rfl⟩
theorem Inv.fresh (I:Inv X pins σ H s):H s.heap.objs.size=none:=I.hok.fresh (Nat.le_refl _)
theorem Inv.lstM (I:Inv X pins σ H s) (hH:H l=some (.lst xs)):xs.length≤sizeLine∧∃ (its:List Value) (n:Nat),Ym xs its∧xs.length=its.length∧s.heap.get? l=some { cls := .type "list",data := .seq its.toArray n }:=by
 obtain ⟨z,its,n,r,e⟩:=I.hok l _ hH
 exact ⟨z,its,n,r,r.length,e⟩
theorem Ycf {n:Nat} (h:n≤sizeLine):Builtin.List.listTooLong n=false:=by
 unfold Builtin.List.listTooLong
 exact decide_eq_false (by omega)
end
section
variable {X:Cx}
def Yab:V→List V→Hp→VK→Prop:=fun x vs H Q=>∃ l xs y,x = .ref l∧vs=[y]∧H l=some (.lst xs)∧xs.length<sizeLine∧Q .non (upd H l (.lst (xs++[y])))
theorem Y0:MtM X "list.append" Yab:=by
 intro pins s σ H x vs v us Q I rx rv h
 obtain ⟨l,xs,y,rfl,rfl,hH,hz,q⟩:=h
 cases rx
 obtain ⟨u,rfl,ru⟩:=rv.one
 obtain ⟨z,its,n,r,hl,e⟩:=I.lstM hH
 refine call_meets F.slot_list_append ⟨_,e,rfl⟩ F.entry_list_append (F.args_list_append_2 _ _) (PySem.list_append l its.toArray n u (by rw [List.size_toArray];omega)) ⟨e,?_⟩
 refine ⟨.non,_,I.lset (its':=its++[u]) hH e (by simp) (r.append (.cons ru .nil)) ?_,rfl,q⟩
 rw [List.length_append,List.length_singleton]
 omega
def rPop:V→List V→Hp→VK→Prop:=fun x vs H Q=>∃ l xs y,x = .ref l∧vs=[]∧H l=some (.lst xs)∧xs[xs.length - 1]?=some y∧Q y (upd H l (.lst xs.dropLast))
theorem YdY:MtM X "list.pop" rPop:=by
 intro pins s σ H x vs v us Q I rx rv h
 obtain ⟨l,xs,y,rfl,rfl,hH,hy,q⟩:=h
 cases rx
 have hus:=rv.zero
 subst hus
 obtain ⟨z,its,n,r,hl,e⟩:=I.lstM hH
 obtain ⟨u,hu,ru⟩:=r.get hy
 have hy':its.toArray[its.toArray.size - 1]?=some u:=by
  show its.toArray[its.length - 1]?=some u
  rw [← Array.getElem?_toList,← hl]
  exact hu
 refine call_meets F.slot_list_pop ⟨_,e,rfl⟩ F.entry_list_pop (F.args_list_pop_1 _) (MeetsSeq.list_pop_last l its.toArray n u hy' (by rw [List.size_toArray];omega)) ⟨e,?_⟩
 refine ⟨y,_,I.lset (its':=its.dropLast) hH e ?_ r.dropLast ?_,ru,q⟩
 ·show its.toArray.eraseIdxIfInBounds (its.toArray.size - 1)=its.dropLast.toArray
  rw [List.size_toArray,List.eraseIdxIfInBounds_toArray,YaI]
 ·rw [List.length_dropLast]
  omega
def Ycg:V→List V→Hp→VK→Prop:=fun x vs H Q=>∃ l xs,x = .ref l∧vs=[]∧H l=some (.lst xs)∧Q .non (upd H l (.lst xs.reverse))
def rCat:R2:=fun x y H Q=>∃ l b xs zs,x = .ref l∧y = .ref b∧H l=some (.lst xs)∧H b=some (.lst zs)∧xs.length+zs.length≤sizeLine∧∀ p,H p=none→Q (.ref p) (upd H p (.lst (xs++zs)))
theorem Qq:OpR X (binaryOp .Add) rCat:=by
 intro pins s σ H x y v u Q I rx ry h
 obtain ⟨l,b,xs,zs,rfl,rfl,hH,hB,hz,q⟩:=h
 cases rx
 cases ry
 obtain ⟨z,its,n,r,hl,e⟩:=I.lstM hH
 obtain ⟨z2,its2,n2,r2,hl2,e2⟩:=I.lstM hB
 refine PySem.P.add_list e e2 ?_ (by rw [List.size_toArray,List.size_toArray];omega)
 have ea:its.toArray++its2.toArray=(its++its2).toArray:=by simp
 rw [ea]
 exact ⟨.ref _,_,I.lnew (t':=s.toks) (r.append r2) (by rw [List.length_append];omega),rfl,q _ I.fresh⟩
def rRep:R2:=fun x y H Q=>∃ l k xs,x = .ref l∧y = .int k∧H l=some (.lst xs) ∧ -(2^63)≤k∧k<2^63∧xs.length*k.toNat≤sizeLine ∧
 ∀ p,H p=none→Q (.ref p) (upd H p (.lst (List.replicate k.toNat xs).flatten))
theorem Ydg {α:Type} (xs:List α) (k:Nat):(List.replicate k xs).flatten.length=k*xs.length:=by
 induction k with
 | zero=>simp
 | succ k ih=>rw [List.replicate_succ,List.flatten_cons,List.length_append,ih,Nat.succ_mul,Nat.add_comm]
theorem YdZ:OpR X (binaryOp .Mult) rRep:=by
 intro pins s σ H x y v u Q I rx ry h
 obtain ⟨l,k,xs,rfl,rfl,hH,h1,h2,hz,q⟩:=h
 cases rx
 obtain ⟨t,rfl⟩:=ry
 obtain ⟨z,its,n,r,hl,e⟩:=I.lstM hH
 have hlen:its.toArray.size*k.toNat≤sizeLine:=by rw [List.size_toArray,← hl];exact hz
 have hcap:¬ its.toArray.size*k.toNat>(2^63 - 1) / 8:=by
  have:(sizeLine:Nat)≤(2^63 - 1) / 8:=by decide
  omega
 have hfit:¬ (!Builtin.List.listFitsIndex k)=true:=by
  rw [fitsIndex_both h1 h2]
  exact Bool.false_ne_true
 have hlong:¬ Builtin.List.listTooLong (its.toArray.size*k.toNat)=true:=by
  rw [Ycf hlen]
  exact Bool.false_ne_true
 have hnew:List.foldl (fun x1 x2=>x1++x2) #[] (List.replicate (if its.toArray.isEmpty=true then 0 else k.toNat) its.toArray)=(List.replicate k.toNat its).flatten.toArray:=by
  have f0:∀ m:Nat,List.foldl (fun x1 x2=>x1++x2) #[] (List.replicate m its.toArray)=(List.replicate m its).flatten.toArray:=fun m=>by
   have:=UR its m []
   rw [List.nil_append] at this
   exact this
  rw [f0]
  cases its with
  | nil=>simp
  | cons a r'=>rw [if_neg (by simp)]
 refine wpAny_binaryOp_repeat_ref (T:="list") (U:="int") (by decide) ⟨_,e,rfl⟩ (fun s'=>typeIs_int s' k t) noFill_list_mul F.fills_int_mul F.slot_int_rmul repeat_list F.slot_int_index.lookup
  (call_meets F.slot_int_rmul (typeIs_int s k t) F.entry_int_rmul (F.args_int_rmul_2 _ _) (int___rmul___int_list k t l its.toArray n)
   ⟨e,rfl,⟨_,e,rfl⟩,call_meets F.slot_list_mul ⟨_,e,rfl⟩ F.entry_list_mul (F.args_list_mul_2 _ _) (AutoListH.list___mul___list_int_3 l its.toArray n k t hfit hcap hlong) ⟨e,?_⟩⟩)
 rw [hnew]
 exact ⟨.ref _,_,I.lnew (t':=s.toks) (r.rep k.toNat) (by rw [Ydg,Nat.mul_comm];exact hz),rfl,q _ I.fresh⟩
end
section
variable {prog:Program} {w:World} {A:Around} {E:Value→Shared→Prop} {s:Shared}
end
section
variable {X:Cx}
end
end L2
namespace Att
open PySem PySem.W PySem.Calls PyProof.Rows
theorem V7 {P:Params} {h:Heap}:∀ (ns:List Int) (vs:List Value),WellAll P h vs (ns.map WData.int)→IntsAre vs ns:=by
 intro ns
 induction ns with
 | nil =>
  intro vs w
  rw [List.map_nil] at w
  cases w
  exact .nil
 | cons n ns ih =>
  intro vs w
  rw [List.map_cons] at w
  cases w with
  | cons a b =>
   cases a
   exact .cons _ _ (ih _ b)
theorem Ybw {l:OpenLaw} {n:Nat} (hn:l.most=some n) {P:Params} {h:Heap} {args:List WData} {vals:List Value}
  (hpre:l.row.toRowW.claim.pre args=true) (hwl:WellAll P h vals args) :
  ∃ a vs ns,vals=[Value.ref a]∧args=[WData.list (ns.map WData.int)]∧h.get? a=some { cls := .type "list",data := .seq vs.toArray }∧IntsAre vs ns∧ns.length≤n:=by
 have hsh:WShape.hasAll [] args [.list .int]=true:=(pre_splitW hpre).1
 have hc:l.pre.holds [] { args:=args }=true:=(pre_splitW hpre).2
 obtain ⟨d,r,rfl,h1,h2⟩:=hasAllW_cons hsh
 obtain rfl:=hasAllW_nil h2
 obtain ⟨xs,rfl,h3⟩:=hasW_list h1
 obtain ⟨ns,rfl⟩:=items_int h3
 have hlen:ns.length≤n:=by
  unfold OpenLaw.pre at hc
  have h4:(WTm.not (.lt (.lit (.int (n:Int))) (.len (.arg 0)))).holds [] { args:=[.list (ns.map .int)] }=true:=by
   have h4:=(holds_andW hc).1
   rw [hn] at h4
   exact h4
  have h5:=condW_of h4 (w_not (w_lt w_lit (w_len_list (w_arg rfl))))
  rw [List.length_map] at h5
  refine Nat.le_of_not_lt fun q=>?_
  have q':(n:Int)<((ns.length:Nat):Int):=by omega
  first
   | (rw [decide_eq_true q'] at h5;exact absurd h5 (by decide))
   | (simp at h5;omega)
 cases hwl with
 | cons w1 w2 =>
  cases w2
  cases w1 with
  | list ho hall=>exact ⟨_,_,ns,rfl,rfl,ho,V7 ns _ hall,hlen⟩
theorem Ybx (l:OpenLaw) (args:List WData):l.row.toRowW.claim.post args (.bool true) args=true :=
 postW_of (r:=l.row.toRowW) (X:=(true==true))
  (show WShape.has [] (.bool true) .bool=true by first | rfl | decide | simp [WShape.has,WShape.arms,WShape.armsAll])
  (show (WTm.eq .res (.lit (.bool true))).value [] { args:=args,res:=some (.bool true),after:=args }=some (.bool (true==true)) from w_eq_bool (w_res rfl) w_lit) rfl
theorem attach_call {l:OpenLaw} {n:Nat} {q:Program} {loose:List Str} {XP:(Str→Option Value)→Heap→Prop} {YP:World→Heap→Prop} {d:DefRec}
  (hn:l.most=some n) (hdf:d.params.defaults=[])
  (call:∀ (w:World) (s₀ s₁:Shared) (mg mb:Str→Option Value) (fa:Addr) (o:Obj) (pm cd doc:Value) (a:Addr) (vs:List Value) (ns:List Int),
   Ground q loose [] XP w s₀ mg mb s₁.heap→YP w s₁.heap →
   s₁.heap.get? fa=some o→o.data = .func (docDef d.name d.params d.body d.scope pm cd doc)→s₁.heap.CodeRec cd d.name→mg d.name=some (.ref fa) →
   s₁.heap.get? a=some { cls := .type "list",data := .seq vs.toArray }→IntsAre vs ns→ns.length≤n→s₁.gens=#[] →
   codeAny (model l.prog w) callerA (.call (.ref fa) ⟨[.ref a],[]⟩) (fun r s'=>r = .ok (.ret (.bool true))∧OldK s₁.heap s'.heap∧s'.os=s₁.os∧AllBare s'.gens) s₁) :
  WalkO q loose XP YP l.row.toRowW d [] (fun f vs=>PySem.call f vs):=by
 intro w s₀ s₁ mg mb G Y fa o pm cd doc dV kV ho hd hcd hD hmg hg args vals as hpre hlay hrd hwl hlo
 obtain rfl:dV = .none:=Dflts.none hD hdf
 obtain rfl:kV = .none:=Dflts.noKw hD
 obtain ⟨a,vs,ns,rfl,rfl,hobj,hints,hlen⟩:=Ybw hn hpre hwl
 refine enter_call (codeAny_mono (call w s₀ s₁ mg mb fa o pm cd doc a vs ns G Y ho (fd_plain hd) hcd hmg hobj hints hlen hg) fun r s' hq=>?_)
 obtain ⟨rfl,h2,h3,h4⟩:=hq
 exact ⟨.inl ⟨.bool true,.bool true,[],rfl,fun _=>rfl,.bool true,Ybx l _,fun _=>⟨List.Pairwise.nil,fun _ hm=>(nomatch hm)⟩⟩,h2,h3,h4⟩
section
variable {prog:Program} {w:World} {A:Around} {E:Value→Shared→Prop} {s:Shared} {K:Frag}
def ledger (h:Heap) (L d:Addr):List (Addr×Obj):=(List.range h.objs.size).filterMap fun a=>if a=L∨a=d then none else (h.get? a).map fun o=>(a,o)
end
end Att
namespace L2
open PySem PySem.Spec PyProof.Rows
theorem US:∀ {vs:List Value} {ns:List Int},IntsAre vs ns→Ym (ns.map V.int) vs
 | _,_,.nil => .nil
 | _,_,.cons n t h => .cons ⟨t,rfl⟩ (US h)
def Only (H:Hp):Prop:=∀ b,H b=none∨∃ o xs,H b=some (.frz o (.lst xs))
theorem Ych {P:Program} {w:World} {K:PySem.W.Frag} {mg mb:Str→Option Value} {CX:CXT} {k:Nat} {fa a:Addr} {fd:FuncData} {x:Str} {sp:Sp} {s₁:Shared} {vs:List Value} {ns:List Int}
  (KX:K.In s₁.heap) (hns:s₁.heap.Ns mainGlobals mg) (hb:s₁.heap.Ns builtinsNs mb) (hbb:∀ x:Str,x≠"__name__"→mb x=bootBuiltins x) (hlim:s₁.heap.NoLimit) (hg:s₁.gens=#[])
  (ha:s₁.heap.get? a=some { cls := .type "list",data := .seq vs.toArray }) (hi:IntsAre vs ns) (hl:ns.length≤sizeLine) (hr:Room k callerA)
  (F:∀ base:Heap,K.In base→base.Ns mainGlobals mg→FnOk P w K mg base CX k fa fd [x] sp) (hbind:∀ (s:Shared) (u:Value),BindsTo s fd ⟨[u],[]⟩ [(x,u)])
  (hsp:∀ H:Hp,Only H→SqL K H a (ns.map V.int)→sp [.ref a] H (fun v _=>v = .bl true) fun _ _ _=>False)
  (hCX:∀ H e s',CX [] H s₁ (fun _ _ _=>False) e s'→False) :
  codeAny (model P w) callerA (.call (.ref fa) ⟨[.ref a],[]⟩) (fun r s'=>r = .ok (.ret (.bool true))∧OldK s₁.heap s'.heap∧s'.os=s₁.os∧AllBare s'.gens) s₁:=by
 have rv:=US hi
 have lenV:=hi.length
 -- from an abstract heap in which nothing but the script may be tracked
 have core:∀ H:Hp,Only H→SqL K H a (ns.map V.int)→HOk P w H s₁.heap→(∀ b,H b≠none→b=a)→(H a≠none→K.lookup a=none) →
   codeAny (model P w) callerA (.call (.ref fa) ⟨[.ref a],[]⟩) (fun r s'=>r = .ok (.ret (.bool true))∧OldK s₁.heap s'.heap∧s'.os=s₁.os∧AllBare s'.gens) s₁:=by
  intro H hO hS hok hA hK
  have base_of:∀ {b:Addr} {o:Obj},s₁.heap.get? b=some o→H b=none→(W7 s₁.heap H).get? b=some o:=fun e n=>Yb8 e n
  have noA:∀ {b:Addr} {o:Obj} {es:Array DictEntry} {ep:Nat},s₁.heap.get? b=some o→o.data = .dict es ep→H b=none:=fun {b o es ep} e d=>by
   cases q:H b with
   | none=>rfl
   | some u =>
    have e':b=a:=hA b (by rw [q];simp)
    subst e'
    rw [ha] at e;cases e
    have d':Data.seq vs.toArray _=Data.dict es ep:=d
    cases d'
  have nsK:∀ {b:Addr} {m:Str→Option Value},s₁.heap.Ns b m→(W7 s₁.heap H).Ns b m:=fun {b m} ⟨o,es,ep,e,d,r⟩=>⟨o,es,ep,base_of e (noA e d),d,r⟩
  have hKb:K.In (W7 s₁.heap H):=fun b o e=>base_of (KX b o e) (by
   cases q:H b with
   | none=>rfl
   | some u =>
    have e':b=a:=hA b (by rw [q];simp)
    subst e'
    rw [hK (by rw [q];simp)] at e;cases e)
  have hM:Mod K mg (W7 s₁.heap H):=⟨hKb,nsK hns,⟨mb,nsK hb,hbb⟩,let ⟨mc,h1,h2⟩:=hlim;⟨mc,nsK h1,h2⟩⟩
  have e0:Env0 P w K mg (W7 s₁.heap H) callerA [] s₁ H:=⟨rfl,hM,fun b o e=>Yc3 e,Nat.le_of_eq (Ybg _ _),trivial,fun b hb=>absurd (show b∈([]:List Addr) from hb) (by simp),hok,.of_eq hg⟩
  refine codeAny_mono ((F _ hKb (nsK hns)).run callerA [] s₁ H ⟨[.ref a],[]⟩ [.ref a] [.ref a] _ _ hr e0 (hbind s₁ (.ref a)) (.cons rfl .nil) (hsp H hO hS)) fun r s' h=>?_
  cases r with
  | error e=>exact (hCX H e s' h).elim
  | ok fl =>
   cases fl with
   | next=>exact False.elim h
   | brk=>exact False.elim h
   | cont=>exact False.elim h
   | ret u =>
    obtain ⟨v,H',os,bare,un,hok',r',q⟩:=h
    have q':v = .bl true:=q
    subst q'
    obtain rfl:u=Value.bool true:=r'
    refine ⟨rfl,OldK.of_keep fun b o e=>?_,os,bare⟩
    cases q:H b with
    | none=>exact un.keep b o e q (by intro z;exact absurd (show b∈([]:List Addr) from z) (by simp)) (by simp)
    | some u =>
     rcases hO b with z | ⟨ob,xs,z⟩
     ·rw [q] at z;cases z
     ·have z2:=un.frzs b ob _ z
      obtain ⟨e1,_⟩:=hok b _ z
      obtain ⟨e2,_⟩:=hok' b _ z2
      rw [e] at e1;cases e1
      exact e2
 cases hk:K.lookup a with
 | some o =>
  -- the script is one of the module's own objects
  have e:=KX a o hk
  rw [ha] at e
  cases e
  refine core (fun _=>none) (fun _ => .inl rfl) (.inr ⟨_,vs.toArray,_,hk,rfl,rfl,rfl,by rw [List.size_toArray,lenV];exact hl,by simpa using rv⟩) (fun b u z=>by have z':(none:Option HO)=some u:=z;cases z') (fun b z=>absurd rfl z) fun z=>absurd rfl z
 | none =>
  refine core (fun b=>if b=a then some (.frz { cls := .type "list",data := .seq vs.toArray } (.lst (ns.map V.int))) else none) (fun b=>?_) (.inl (.inr ⟨{ cls := .type "list",data := .seq vs.toArray },if_pos rfl⟩)) (fun b u z=>?_) (fun b z=>?_) fun _=>hk
  ·by_cases hb:b=a
   ·exact .inr ⟨_,_,if_pos hb⟩
   ·exact .inl (if_neg hb)
  ·by_cases hb:b=a
   ·have z':=(if_pos hb).symm.trans z
    cases z'
    subst hb
    exact ⟨ha,by rw [List.length_map];exact hl,vs,_,rv,ha⟩
   ·have z':=(if_neg hb).symm.trans z
    cases z'
  ·by_cases hb:b=a
   ·exact hb
   ·exact absurd (if_neg hb) z
end L2
namespace L2
open PySem PySem.Spec PyProof.Rows
theorem Ydh {l:PySem.W.OpenLaw} {n k:Nat} {q:Program} {loose:List Str} {XP:(Str→Option Value)→Heap→Prop} {YP:World→Heap→Prop} {d:DefRec} {K:Params→PySem.W.Frag} {CX:World→CXT} {sp:World→Sp} {x:Str}
  (hn:l.most=some n) (hn2:n≤sizeLine) (hdf:d.params.defaults=[]) (hr:Room k callerA)
  (hY:∀ (w:World) (h:Heap),YP w h→(K w.params).In h)
  (F:∀ (w:World) (mg:Str→Option Value) (fa:Addr) (h:Heap),(K w.params).In h→h.Ns mainGlobals mg→mg d.name=some (.ref fa) →
   ∃ fd:FuncData,(∀ (s:Shared) (u:Value),BindsTo s fd ⟨[u],[]⟩ [(x,u)]) ∧
    ∀ base:Heap,(K w.params).In base→base.Ns mainGlobals mg→FnOk l.prog w (K w.params) mg base (CX w) k fa fd [x] (sp w))
  (hsp:∀ (w:World) (H:Hp) (a:Addr) (ns:List Int),ns.length≤n→Only H→SqL (K w.params) H a (ns.map V.int)→sp w [.ref a] H (fun v _=>v = .bl true) fun _ _ _=>False)
  (hCX:∀ (w:World) (H:Hp) (s:Shared) (e:Value) (s':Shared),CX w [] H s (fun _ _ _=>False) e s'→False) :
  PySem.W.WalkO q loose XP YP l.row.toRowW d [] (fun f vs=>PySem.call f vs):=by
 refine Att.attach_call hn hdf fun w s₀ s₁ mg mb fa o pm cd doc a vs ns G Y ho hd hcd hmg hobj hints hlen hg=>?_
 have KX:=hY w _ Y
 obtain ⟨fd,hb,hF⟩:=F w mg fa _ KX G.T.g hmg
 exact Ych KX G.T.g G.T.b G.T.builtins G.T.nolimit hg hobj hints (Nat.le_trans hlen hn2) hr hF hb (fun H hO hS=>hsp w H a ns hlen hO hS) fun H e s'=>hCX w H s₁ e s'
end L2
namespace L2
open PySem PySem.Spec PyProof.Rows
def YF (s:Stmt) (j:Nat):Stmt:=match s with
 | .ClassDef _ _ _ body _ _ _ _ _ _ _=>body.getD j (.Pass ⟨0,0,0,0⟩)
 | _ => .Pass ⟨0,0,0,0⟩
def Xi (s:Stmt):Arguments:=match s with
 | .FunctionDef _ a _ _ _ _ _ _ _ _=>a
 | _=>{ posonlyargs:=[],args:=[],vararg:=none,kwonlyargs:=[],kw_defaults:=[],kwarg:=none,defaults:=[] }
def Y6 (s:Stmt):List Stmt:=match s with
 | .FunctionDef _ _ b _ _ _ _ _ _ _=>b
 | _=>[]
def Yj (s:Stmt):Scope:=match s with
 | .FunctionDef _ _ _ _ _ _ sc _ _ _=>sc
 | _=>{ kind := .function,names:=[],isGenerator:=false,isCoroutine:=false }
abbrev CX0:CXT:=fun _ _ _ _ _ _=>False
abbrev E0:XK:=fun _ _ _=>False
theorem V8 {X:Cx}:WB CX0 X E0:=fun _ _ _ _ _ _ _ h=>h.elim
structure Fun (K:PySem.W.Frag) (x qual:Str) (st:Stmt) (f:Addr) (fd:FuncData):Prop where
 ex:∃ (oc:Value) (od:Option Addr) (kV doc pm:Value) (an:Option Addr) (cdv ct:Value) (osl:Array (Option Value)),
  fd=PySem.W.fnOf x qual (Xi st) (Y6 st) (Yj st) .none kV doc pm an cdv ct∧K.lookup f=some ⟨oc,od,.func fd,osl⟩∧PySem.W.codeIn K cdv qual=true
 kp:PySem.W.keepIn K (.ref f)=true
section
variable {P:Program} {w:World} {K:PySem.W.Frag} {mg:Str→Option Value} {base:Heap}
theorem Fun.ok {x qual:Str} {st:Stmt} {f:Addr} {fd:FuncData} {N ps:List Str} {k:Nat} {sp:Sp} (F:Fun K x qual st f fd) (S:FnScope N ps (Yj st)) (len:∀ vs H Q E,sp vs H Q E→vs.length=ps.length)
  (hbody:∀ (cdv:Value) (A:Around) (outer:List Env) (s:Shared) (H:Hp) (vs:List V) (Q:VK) (E:XK),Room k (A.deeper (envOfC qual (Yj st) s.heap.objs.size f cdv))→sp vs H Q E →
   ∃ t,PSs (Vs CX0 P w K mg base N qual (Yj st) f cdv A outer s H E).nox (Y6 st) t∧t { nx:=fun _ H'=>Q .non H',rt:=Q } (Wg N vs) H):FnOk P w K mg base CX0 (k+1) f fd ps sp:=by
 obtain ⟨oc,od,kV,doc,pm,an,cdv,ct,osl,rfl,lk,hcd⟩:=F.ex
 refine fn_of lk hcd S len fun A outer s H vs Q E hr hsp=>?_
 obtain ⟨t,h,q⟩:=hbody cdv A outer s H vs Q E hr hsp
 exact ⟨t,h.nox,q⟩
theorem Fun.binds {x qual:Str} {st:Stmt} {f:Addr} {fd:FuncData} {ps:List Str} (F:Fun K x qual st f fd)
  (h:∀ (kV doc pm:Value) (an:Option Addr) (cdv ct:Value) (us:List Value),us.length=ps.length→bindArgs (PySem.W.fnOf x qual (Xi st) (Y6 st) (Yj st) .none kV doc pm an cdv ct) ⟨us,[]⟩=pure (ps.zip us)):Xt K fd ps []:=by
 obtain ⟨oc,od,kV,doc,pm,an,cdv,ct,osl,rfl,lk,hcd⟩:=F.ex
 exact .all (h kV doc pm an cdv ct)
theorem Vu {x qual:Str} {st:Stmt} {f:Addr} {oc:Value} {od an:Option Addr} {osl:Array (Option Value)} {kV doc pm cdv ct:Value} (l:K.lookup f=some ⟨oc,od,.func (PySem.W.fnOf x qual (Xi st) (Y6 st) (Yj st) .none kV doc pm an cdv ct),osl⟩)
  (c:PySem.W.codeIn K cdv qual=true) (k:PySem.W.keepIn K (.ref f)=true):Fun K x qual st f (PySem.W.fnOf x qual (Xi st) (Y6 st) (Yj st) .none kV doc pm an cdv ct):=⟨⟨oc,od,kV,doc,pm,an,cdv,ct,osl,rfl,l,c⟩,k⟩
end
theorem XU {A:Around} {k:Nat} (hr:Room k A):A.units+1<cLine:=Nat.lt_of_le_of_lt (Nat.add_le_add_left (by decide:1≤64) _) hr.units
section
variable {X:Cx}
theorem pv (i:Nat) {x:Str} {pos:Pos} (hN:X.N[i]?=some x:=by rfl) (hv:Vis X.env.scope x:=by first | exact .inl rfl | exact .inr (.inl rfl) | exact .inr (.inr rfl)) (hd:(x==("__debug__":Str))=false:=by decide)
  (hcd:(x==("__classdict__":Str))=false:=by decide):PE X (.Name x pos) (Uy i):=YdN hN hv hd hcd
end
theorem iteF {A B:Prop} (h:B):if false=true then A else B:=by
 rw [if_neg Bool.false_ne_true]
 exact h
theorem iteT {A B:Prop} (h:A):if true=true then A else B:=by
 rw [if_pos rfl]
 exact h
theorem W8 {c A B:Prop} [Decidable c] (h1:c→A) (h2:¬ c→B):if c then A else B:=by
 by_cases h:c
 ·rw [if_pos h]
  exact h1 h
 ·rw [if_neg h]
  exact h2 h
def Yl (H H':Hp):Prop:=∀ b o,H b=some o→H' b=some o
theorem Yl.refl (H:Hp):Yl H H:=fun _ _ h=>h
theorem Yl.trans {H H1 H2:Hp} (a:Yl H H1) (b:Yl H1 H2):Yl H H2:=fun c o h=>b c o (a c o h)
theorem Yl.free {H H':Hp} (e:Yl H H') {l:Addr} (h:H' l=Option.none):H l=Option.none:=by
 cases q:H l with
 | none=>rfl
 | some o =>
  rw [e l o q] at h
  cases h
theorem Yl.seq {K:PySem.W.Frag} {H H':Hp} {a:Addr} {xs:List V} (e:Yl H H') (h:SqL K H a xs):SqL K H' a xs:=by
 rcases h with (h | ⟨o,h⟩) | h
 ·exact .inl (.inl (e _ _ h))
 ·exact .inl (.inr ⟨o,e _ _ h⟩)
 ·exact .inr h
end L2
namespace L2
open PySem PySem.Spec PyProof.Rows
section
variable {κ:Type} [DecidableEq κ]
def X1 (kvs:List (κ×V)) (k:κ):Option V:=(kvs.find? fun kv=>decide (kv.1=k)).map (·.2)
def X6 (kvs:List (κ×V)) (k:κ) (v:V):List (κ×V) :=
 if (kvs.any fun kv=>decide (kv.1=k))=true then kvs.map (fun kv=>if kv.1=k then (kv.1,v) else kv) else kvs++[(k,v)]
theorem WD {p:κ×V} {r:List (κ×V)} {k:κ} (e:p.1=k):X1 (p::r) k=some p.2:=by simp [X1,List.find?_cons,e]
theorem W9 {p:κ×V} {r:List (κ×V)} {k:κ} (e:¬ p.1=k):X1 (p::r) k=X1 r k:=by simp [X1,List.find?_cons,e]
theorem Qr (k:κ):∀ kvs:List (κ×V),(kvs.any fun kv=>decide (kv.1=k))=(X1 kvs k).isSome
 | []=>rfl
 | p::r=>by
  rw [List.any_cons]
  by_cases e:p.1=k
  ·simp only [WD e,decide_eq_true e,Bool.true_or,Option.isSome_some]
  ·rw [W9 e,decide_eq_false e,Bool.false_or];exact Qr k r
theorem VT (kvs:List (κ×V)) (k:κ) (v:V):(X6 kvs k v).length≤kvs.length+1:=by
 unfold X6
 split
 ·rw [List.length_map];omega
 ·rw [List.length_append,List.length_cons,List.length_nil];omega
theorem XR.isSome_eq {o:Option V} {u:Option Value} (r:XR o u):o.isSome=u.isSome:=by
 cases o with
 | none=>cases u with
  | none=>rfl
  | some _=>exact (show False from r).elim
 | some _=>cases u with
  | none=>exact (show False from r).elim
  | some _=>rfl
theorem KV.val {kvs:List (κ×V)} {vs:List (κ×Value)} (r:KV kvs vs) (k:κ):XR (X1 kvs k) (valueAt vs k):=by
 unfold KV at r
 induction r with
 | nil=>exact True.intro
 | @cons p q ps qs h t ih =>
  obtain ⟨h1,h2⟩:=h
  by_cases e:p.1=k
  ·have e':q.1=k:=h1.symm.trans e
   have b:valueAt (q::qs) k=some q.2:=by simp [valueAt,List.find?_cons,e']
   rw [WD e,b];exact h2
  ·have e':¬ q.1=k:=fun z=>e (h1.trans z)
   have b:valueAt (q::qs) k=valueAt qs k:=by simp [valueAt,List.find?_cons,e']
   rw [W9 e,b];exact ih
theorem KV.any {kvs:List (κ×V)} {vs:List (κ×Value)} (r:KV kvs vs) (k:κ):(kvs.any fun kv=>decide (kv.1=k))=vs.any fun kv=>decide (kv.1=k):=by
 unfold KV at r
 induction r with
 | nil=>rfl
 | cons h t ih=>rw [List.any_cons,List.any_cons,ih,h.1]
theorem KV.repl {kvs:List (κ×V)} {vs:List (κ×Value)} (r:KV kvs vs) (k:κ) {y:V} {u:Value} (ry:Yr y u) :
  KV (kvs.map fun kv=>if kv.1=k then (kv.1,y) else kv) (vs.map fun kv=>if kv.1=k then (kv.1,u) else kv):=by
 unfold KV at r ⊢
 induction r with
 | nil=>exact .nil
 | @cons p q ps qs h t ih =>
  rw [List.map_cons,List.map_cons]
  refine .cons ?_ ih
  obtain ⟨h1,h2⟩:=h
  by_cases e:p.1=k
  ·rw [if_pos e,if_pos (h1.symm.trans e)];exact ⟨h1,ry⟩
  ·rw [if_neg e,if_neg (fun z=>e (h1.trans z))];exact ⟨h1,h2⟩
theorem KV.put {kvs:List (κ×V)} {vs:List (κ×Value)} (r:KV kvs vs) (k:κ) {y:V} {u:Value} (ry:Yr y u):KV (X6 kvs k y) (stored vs k u):=by
 unfold X6 stored
 rw [r.any k]
 by_cases e:(vs.any fun kv=>decide (kv.1=k))=true
 ·rw [if_pos e,if_pos e];exact r.repl k ry
 ·rw [if_neg e,if_neg e];exact Paired.snoc r ⟨rfl,ry⟩
theorem KV.length {kvs:List (κ×V)} {vs:List (κ×Value)} (r:KV kvs vs):kvs.length=vs.length:=Paired.length r
end
theorem V9 {P:Program} {w:World} {k:Key} {u:Value} (r:Yr (kV k) u):(YY P w).is k u=true:=by
 cases k with
 | inl i=>obtain ⟨t,e⟩:=(show ∃ t,u=Value.int i t from r);subst e;exact QU P w i t
 | inr x=>obtain ⟨t,e⟩:=(show ∃ t,u=Value.str x t from r);subst e;exact QV P w x t
theorem UT {P:Program} {w:World}:∀ {ks:List Key} {us:List Value},Ym (ks.map kV) us→ItemsAre (YY P w) ks us
 | [],_,r=>by rw [List.map_nil] at r;cases r;exact .nil
 | k::ks,_,r=>by
  rw [List.map_cons] at r
  cases r with
  | cons h t=>exact .cons (V9 h) (UT t)
abbrev KT (H:Hp):List (List Key×V)→List (List Key×Addr×Value)→Prop:=Paired fun p q=>p.1=q.1∧H q.2.1=some (.tup (p.1.map kV))∧Yr p.2 q.2.2
theorem KT.val {H:Hp} {kvs:List (List Key×V)} {xs:List (List Key×Addr×Value)} (r:KT H kvs xs) (k:List Key):XR (X1 kvs k) ((atKey xs k).map (·.2)):=by
 induction r with
 | nil=>exact True.intro
 | @cons p q ps qs h t ih =>
  obtain ⟨h1,_,h2⟩:=h
  by_cases e:p.1=k
  ·have e':q.1=k:=h1.symm.trans e
   have b:atKey (q::qs) k=some q.2:=by simp [atKey,List.find?_cons,e']
   rw [WD e,b];exact h2
  ·have e':¬ q.1=k:=fun z=>e (h1.trans z)
   have b:atKey (q::qs) k=atKey qs k:=by simp [atKey,List.find?_cons,e']
   rw [W9 e,b];exact ih
theorem KT.repl {H:Hp} {kvs:List (List Key×V)} {xs:List (List Key×Addr×Value)} (r:KT H kvs xs) (k:List Key) {y:V} {u:Value} (ry:Yr y u) :
  KT H (kvs.map fun kv=>if kv.1=k then (kv.1,y) else kv) (xs.map (putAt k u)):=by
 induction r with
 | nil=>exact .nil
 | @cons p q ps qs h t ih =>
  rw [List.map_cons,List.map_cons]
  refine .cons ?_ ih
  obtain ⟨h1,h2,h3⟩:=h
  unfold putAt
  by_cases e:p.1=k
  ·rw [if_pos e,if_pos (h1.symm.trans e)];exact ⟨h1,h2,ry⟩
  ·rw [if_neg e,if_neg (fun z=>e (h1.trans z))];exact ⟨h1,h2,h3⟩
theorem KT.put {H:Hp} {kvs:List (List Key×V)} {xs:List (List Key×Addr×Value)} (r:KT H kvs xs) (k:List Key) {b:Addr} {y:V} {u:Value} (hb:H b=some (.tup (k.map kV))) (ry:Yr y u) :
  KT H (X6 kvs k y) (storedH xs k b u):=by
 have e:(kvs.any fun kv=>decide (kv.1=k))=(atKey xs k).isSome:=by
  rw [Qr,(r.val k).isSome_eq,Option.isSome_map]
 unfold X6 storedH
 rw [e]
 by_cases q:(atKey xs k).isSome=true
 ·rw [if_pos q,if_pos q];exact r.repl k ry
 ·rw [if_neg q,if_neg q];exact Paired.snoc r ⟨rfl,hb,ry⟩
theorem KT.keeps {H H':Hp} {kvs:List (List Key×V)} {xs:List (List Key×Addr×Value)} (r:KT H kvs xs) (ht:∀ b ys,H b=some (.tup ys)→H' b=some (.tup ys)):KT H' kvs xs :=
 Paired.mapP r fun _ _ z=>⟨z.1,ht _ _ z.2.1,z.2.2⟩
section
variable {P:Program} {w:World} {H:Hp} {h:Heap} {a:Addr}
theorem YcS {u:HO} (ok:HOk P w H h) (e:Rd H a u):YG P w H h a u:=e.ok ok
theorem YaJ {kvs:List (Key×V)} (ok:HOk P w H h) (e:Rd H a (.dK kvs)):kvs.length≤sizeLine∧(a==sysModules)=false∧∃ vs,KV kvs vs∧h.DictOf (YY P w) a vs :=
 show YG P w H h a (.dK kvs) from YcS ok e
theorem dk_of {kvs:List (Key×V)} (ok:HOk P w H h) (e:H a=some (.dK kvs)):kvs.length≤sizeLine∧(a==sysModules)=false∧∃ vs,KV kvs vs∧h.DictOf (YY P w) a vs:=YaJ ok (.inl e)
theorem Qs {ks:List Key} (ok:HOk P w H h) (e:H a=some (.tup (ks.map kV))):(tupleKind (YY P w)).is h ks a:=by
 obtain ⟨_,its,r,o,h1,h2,n,h3⟩:=(show YG P w H h a (.tup (ks.map kV)) from ok a _ e)
 exact ⟨o,its.toArray,n,h1,h2,h3,by simpa using UT r⟩
theorem YaK {kvs:List (List Key×V)} (ok:HOk P w H h) (e:Rd H a (.dT kvs)):kvs.length≤sizeLine∧(a==sysModules)=false ∧
  ∃ xs,KT H kvs xs∧h.DictOfH (tupleKind (YY P w)) a xs:=by
 obtain ⟨z,y,xs,r,o,es,ep,h1,h2,h3,h4,h5⟩:=(show YG P w H h a (.dT kvs) from YcS ok e)
 refine ⟨z,y,xs,r,o,es,ep,h1,h2,h3,h4,fun x hx=>?_,h5⟩
 have all:∀ {l:List (List Key×V)} {m:List (List Key×Addr×Value)},KT H l m→∀ x∈m,(tupleKind (YY P w)).is h x.1 x.2.1:=by
  intro l m q
  induction q with
  | nil=>intro x hx;exact nomatch hx
  | @cons p q ps qs hq t ih =>
   intro x hx
   rcases List.mem_cons.mp hx with e | hx
   ·subst e
    exact Qs ok (by rw [← hq.1];exact hq.2.1)
   ·exact ih x hx
 exact all r x hx
theorem dt_of {kvs:List (List Key×V)} (ok:HOk P w H h) (e:H a=some (.dT kvs)):kvs.length≤sizeLine∧(a==sysModules)=false ∧
  ∃ xs,KT H kvs xs∧h.DictOfH (tupleKind (YY P w)) a xs:=YaK ok (.inl e)
end
def Qt (H:Hp) (a:Addr) (y:V) (r:Option V):Prop :=
 (∃ kvs k,Rd H a (.dK kvs)∧y=kV k∧r=X1 kvs k)∨∃ kvs k b,Rd H a (.dT kvs)∧y = .ref b∧H b=some (.tup (k.map kV))∧r=X1 kvs k
def DPut (H:Hp) (a:Addr) (y v:V) (H':Hp):Prop :=
 (∃ kvs k,H a=some (.dK kvs)∧y=kV k∧kvs.length<sizeLine∧H'=upd H a (.dK (X6 kvs k v))) ∨
 ∃ kvs k b,H a=some (.dT kvs)∧y = .ref b∧H b=some (.tup (k.map kV))∧kvs.length<sizeLine∧H'=upd H a (.dT (X6 kvs k v))
section
variable {X:Cx} {pins:List (Addr×Obj)} {σ:St} {H:Hp} {s:Shared} {a:Addr} {y v:V} {u r:Value} {o:Option V} {A:Around} {E:Value→Shared→Prop}
theorem Inv.big (I:Inv X pins σ H s):sysModules<s.heap.objs.size:=by
 have h:mainGlobals<s.heap.objs.size:=(I.mod.glob.keeps I.bk).lt
 exact Nat.lt_trans (by decide) h
theorem Yby {Q:Value→Shared→Prop} (hu:A.units+1<cLine) (I:Inv X pins σ H s) (g:Qt H a y (some v)) (ry:Yr y u) (h:∀ w' s',Inv X pins σ H s'→Yr v w'→Q w' s') :
  wpAny (model X.prog X.w) A (getItem (.ref a) u) Q E s:=by
 rcases g with ⟨kvs,k,e,ey,l⟩ | ⟨kvs,k,b,e,ey,eb,l⟩
 ·subst ey
  obtain ⟨z,hd,vs,rel,dd⟩:=YaJ I.hok e
  obtain ⟨w',hw,rw'⟩:=XR.some_of (v:=v) (o:=valueAt vs k) (by rw [l];exact rel.val k)
  exact wpAny_getItem_of (V9 ry) dd.mapOf hw (h w' _ (I.tok _) rw')
 ·subst ey
  cases (show u=Value.ref b from ry)
  obtain ⟨z,hd,xs,rel,dd⟩:=YaK I.hok e
  obtain ⟨w',hw,rw'⟩:=XR.some_of (v:=v) (o:=(atKey xs k).map (·.2)) (by rw [l];exact rel.val k)
  obtain ⟨p,hp,hp2⟩:=Option.map_eq_some_iff.mp hw
  refine wpAny_getItem_heap (tupleKind_room_in1 hu) (Qs I.hok eb) dd hp ?_
  rw [hp2]
  exact h w' _ (I.tok _) rw'
theorem VI {h':Heap} {t':Nat} {ob:HO} (I:Inv X pins σ H s) (mu:Mut (H a)) (hs:Heap.SameBut a s.heap h') (he:∃ q,h'.get? a=some q) (new:YG X.prog X.w (upd H a ob) h' a ob) :
  Inv X pins σ (upd H a ob) { s with heap:=h',toks:=t' } :=
 I.write (x:=a) (e:=a) mu (.inl rfl) (fun b q hb z=>(hs.2 b hb).trans z) he new
theorem Yd0 {P:Program} {w:World} {H':Hp} {h':Heap} {kvs:List (Key×V)} {vs:List (Key×Value)} (z:kvs.length≤sizeLine) (hd:(a==sysModules)=false) (rel:KV kvs vs) (dd:h'.DictOf (YY P w) a vs) :
  YG P w H' h' a (.dK kvs):=⟨z,hd,vs,rel,dd⟩
theorem Ybz {H':Hp} {Q:Unit→Shared→Prop} (hu:A.units+1<cLine) (I:Inv X pins σ H s) (g:DPut H a y v H') (ry:Yr y u) (rv:Yr v r) (h:∀ s',Inv X pins σ H' s'→Q () s') :
  wpAny (model X.prog X.w) A (setItem (.ref a) u r) Q E s:=by
 rcases g with ⟨kvs,k,e,ey,l,eH⟩ | ⟨kvs,k,b,e,ey,eb,l,eH⟩
 ·subst ey eH
  obtain ⟨z,hd,vs,rel,dd⟩:=dk_of I.hok e
  have hz:vs.length≤sizeLine:=by rw [← rel.length];exact z
  have hl:(X6 kvs k v).length≤sizeLine:=by have:=VT kvs k v;omega
  refine wpAny_setItem_pairs (hsz:=hz) (V9 ry) dd fun h' dd' hs=>h _ ?_
  have he:∃ q,h'.get? a=some q:=let ⟨q,_,_,hq,_⟩:=dd';⟨q,hq⟩
  exact VI I (by rw [e];exact True.intro) hs he (Yd0 hl hd (rel.put k rv) dd')
 ·subst ey eH
  cases (show u=Value.ref b from ry)
  obtain ⟨z,hd,xs,rel,dd⟩:=dt_of I.hok e
  have hz:xs.length≤sizeLine:=by rw [← Paired.length rel];exact z
  have hl:(X6 kvs k v).length≤sizeLine:=by have:=VT kvs k v;omega
  refine wpAny_setItem_heap (hsz:=hz) (tupleKind_room_in1 hu) (Qs I.hok eb) dd fun h' dd' hs=>h _ ?_
  obtain ⟨q,es,ep,hq,h2,h3,h4,_,h5⟩:=dd'
  refine VI I (by rw [e];exact True.intro) hs ⟨q,hq⟩ ⟨hl,hd,_,(rel.put k eb rv).keeps fun c ys ec=>?_,q,es,ep,hq,h2,h3,h4,h5⟩
  rw [Yb (Y3 ec e (fun z=>nomatch z))]
  exact ec
end
section
variable {X:Cx} {pins:List (Addr×Obj)} {σ:St} {H:Hp} {s:Shared} {a:Addr} {kvs:List (Key×V)} {k:Key} {u:Value} {A:Around} {E:Value→Shared→Prop}
end
def NoSl (i:Expr):Prop:=∀ ov iv,subscripted i false ov iv=operate [ov,iv] (getItem ov iv)
theorem Yac {prog:Program} {w:World} {A:Around} {E:Value→Shared→Prop} {s:Shared} {env:Env} {value slice:Expr} {pos:Pos} {T id:String} {Q:Value→Shared→Prop}
  (hl:typeLookup (.type T) "__getitem__"=pure (some (.builtin id))) (hs:NoSl slice)
  (h:wpAny (model prog w) A (eval value env) (fun o s₁=>wpAny (model prog w) A (eval slice env) (fun i s₂=>s₂.TypeIs o T∧wpAny (model prog w) A (getItem o i) Q E s₂) E s₁) E s) :
  wpAny (model prog w) A (eval (.Subscript value slice pos) env) Q E s:=by
 refine Subscript_ (wpAny_mono h (fun o s₁ h₁=>wpAny_mono h₁ (fun i s₂ h₂=>?_) fun _ _ x=>x) fun _ _ x=>x)
 obtain ⟨hT,h₂⟩:=h₂
 unfold subscriptTail
 refine wpAny_bind ?_
 rw [getitemInPython_of_ne hT.not_modules]
 refine wpAny_bind (wpAny_specialOf hT hl ?_)
 have fin:wpAny (model prog w) A (subscripted slice false o i) (fun r s₃=>wpAny (model prog w) A (letTemporaryGo value o r >>= fun _=>pure r) Q E s₃) E s₂:=by
  rw [hs o i]
  exact wpAny_operating (wpAny_mono h₂ (fun r s₃ h₃=>wpAny_bind (wpAny_letTemporaryGo (wpAny_pure h₃))) fun _ _ x=>x)
 first
  | exact wpAny_pure (wpAny_bind fin)
  | exact wpAny_bind (wpAny_pure (wpAny_bind fin))
  | exact wpAny_bind fin
theorem QX {X:Cx} {pins:List (Addr×Obj)} {σ:St} {H:Hp} {s:Shared} {a:Addr} {y:V} {o:Option V} (I:Inv X pins σ H s) (g:Qt H a y o):s.TypeIs (.ref a) "dict":=by
 rcases g with ⟨kvs,k,e,_,_⟩ | ⟨kvs,k,b,e,_,_,_⟩
 ·obtain ⟨_,_,vs,_,dd⟩:=YaJ I.hok e
  exact dd.typeIs
 ·obtain ⟨_,_,xs,_,dd⟩:=YaK I.hok e
  exact dd.typeIs
def YcT (td ty:TE):TE:=fun σ H Q=>td σ H fun x H1=>ty σ H1 fun y H2=>∃ a v,x = .ref a∧Qt H2 a y (some v)∧Q v H2
def YcU (td ty tv:TE):TS:=fun D σ H=>tv σ H fun v H1=>td σ H1 fun x H2=>ty σ H2 fun y H3=>∃ a H4,x = .ref a∧DPut H3 a y v H4∧D.nx σ H4
section
variable {X:Cx} {o i e value:Expr} {pos pos' tpos:Pos} {td ty tv:TE}
theorem X7 (hu:X.A.units+1<cLine) (ho:PE X o td) (hi:PE X i ty) (hs:NoSl i):PE X (.Subscript o i pos) (YcT td ty):=by
 intro pins s σ H Q I h
 refine Yac PySem.F.slot_dict_getitem.lookup hs (thn (ho pins s σ H _ I h) fun u s1 ⟨x,H1,I1,rx,q1⟩=>thn (hi pins s1 σ H1 _ I1 q1) fun iv s2 ⟨y,H2,I2,ry,a,v,ex,g,q2⟩=>?_)
 subst ex
 obtain rfl:u=Value.ref a:=rx
 exact ⟨QX I2 g,Yby hu I2 g ry fun w' s3 I3 rw'=>⟨v,H2,I3,rw',q2⟩⟩
theorem Yad (hu:X.A.units+1<cLine) (ho:PE X o td) (hi:PE X i ty) (hv:PE X value tv) (hs:swapsWith value (some (.Subscript o i pos')) pos.line X.env=pure false) :
  PS X (.Assign [.Subscript o i pos'] value pos) (YcU td ty tv):=by
 intro pins s σ H D I h
 refine wpAny_Assign_Subscript (thn (hv pins s σ H _ I h) fun r s1 ⟨v,H1,I1,rv,q1⟩=>thn (ho pins s1 σ H1 _ I1 q1) fun u s2 ⟨x,H2,I2,rx,q2⟩=>thn (hi pins s2 σ H2 _ I2 q2) fun iv s3 ⟨y,H3,I3,ry,a,H4,ex,g,q3⟩=>?_) hs
 subst ex
 obtain rfl:u=Value.ref a:=rx
 exact Ybz hu I3 g ry rv fun s4 I4=>⟨σ,H4,I4,q3⟩
end
theorem Yci {P:Program} {w:World} {H:Hp} (h:Heap) (hb:sysModules<h.objs.size):YG P w H (h.push { cls := .type "dict",data := .dict #[] }) h.objs.size (.dK []) :=
 ⟨Nat.zero_le _,beq_eq_false_iff_ne.mpr (Ne.symm (Nat.ne_of_lt hb)),[],.nil,Heap.DictOf.new h⟩
def Yd1:TE:=fun _ H Q=>∀ p,H p=none→Q (.ref p) (upd H p (.dK []))
def Yd2:TE:=fun _ H Q=>∀ p,H p=none→Q (.ref p) (upd H p (.dT []))
section
variable {X:Cx} {pos:Pos}
theorem Qu:PE X (.Dict [] [] pos) Yd1:=fun pins s σ H Q I h =>
 wpAny_Dict_empty ⟨.ref s.heap.objs.size,_,I.laid (a:=s.heap.objs.size) (o := .dK []) (t':=s.toks) (fun _ _ q=>Heap.get?_push_of_some _ q) (Nat.le_refl _) (Yci s.heap I.big),rfl,h _ (I.hok.fresh (Nat.le_refl _))⟩
end
structure M2 (X:Cx) (o:Expr) (m:Str) (apos:Pos) (e f:Expr) (cpos:Pos):Prop where
 base:attributeBase o m X.env (eval o X.env)=eval o X.env
 few:((backTo cpos (starEach [e,f] X.env)).all (fun x => !x.1)&&(backToKw cpos (keywordEach [] X.env)).all (fun x=>x.1.isSome)
  && decide (([e,f]:List Expr).length+([]:List Keyword).length+(if ([]:List Keyword).isEmpty then 0 else 1)<30))=true
 line:(apos.endLine==cpos.line)=true
 trees:backTo cpos (starEach [e,f] X.env)=[(false,eval e X.env),(false,eval f X.env)]
section
variable {X:Cx} {pins:List (Addr×Obj)} {σ:St} {H:Hp} {s:Shared} {a:Addr} {y d:V} {u r:Value} {o:Option V} {A:Around} {E:Value→Shared→Prop}
end
section
variable {X:Cx} {o e f:Expr} {apos cpos:Pos} {td ty tx:TE}
end
section
variable {X:Cx} {pins:List (Addr×Obj)} {σ:St} {H:Hp} {s:Shared} {a:Addr} {kvs:List (Key×V)} {A:Around} {E:Value→Shared→Prop}
end
section
variable {X:Cx} {pins:List (Addr×Obj)} {σ:St} {H:Hp} {s:Shared} {a:Addr} {y:V} {u:Value} {A:Around} {E:Value→Shared→Prop}
end
end L2
namespace L2
open PySem PySem.Spec PyProof.Rows
theorem WE (env:Env):∀ (names:List (Str×NameKind)) (cs:List (Str×Addr)),(∀ x,(x,NameKind.free)∈names→∃ c,env.cells.lookup x=some c) →
  ∃ cl,(forIn names cs fun (p:Str×NameKind) (cs:List (Str×Addr))=>(if (p.2==NameKind.free)=true then (do let c ← cellOf env p.1;pure (ForInStep.yield ((p.1,c)::cs))) else pure (ForInStep.yield cs):Sem (ForInStep (List (Str×Addr)))))=pure cl ∧
   (∀ x c,cl.lookup x=some c→env.cells.lookup x=some c∨cs.lookup x=some c)∧(∀ x,(x,NameKind.free)∈names→∃ c,cl.lookup x=some c)∧(∀ x c,cs.lookup x=some c→∃ d,cl.lookup x=some d)
 | [],cs,_=>⟨cs,by simp,fun _ _ h => .inr h,(fun _ h=>nomatch h),fun x c h=>⟨c,h⟩⟩
 | (n,k)::r,cs,h=>by
  by_cases hk:k=NameKind.free
  ·subst hk
   obtain ⟨c,hc⟩:=h n (List.mem_cons_self ..)
   obtain ⟨cl,e,a,b,d⟩:=WE env r ((n,c)::cs) (fun x hx=>h x (List.mem_cons_of_mem _ hx))
   have hcell:cellOf env n=pure c:=by unfold cellOf;rw [hc]
   refine ⟨cl,?_,fun x c' hx=>?_,fun x hx=>?_,fun x c' hx=>?_⟩
   ·rw [List.forIn_cons]
    simp only [beq_self_eq_true,if_true,hcell,pure_bind]
    exact e
   ·rcases a x c' hx with q | q
    ·exact .inl q
    ·rw [List.lookup_cons] at q
     by_cases hxn:(x==n)=true
     ·rw [hxn] at q
      have hx':x=n:=by simpa using hxn
      subst hx'
      have:c=c':=by simpa using q
      subst this
      exact .inl hc
     ·rw [Bool.eq_false_iff.mpr hxn] at q
      exact .inr q
   ·rcases List.mem_cons.mp hx with q | q
    ·have hx':x=n:=congrArg Prod.fst q
     subst hx'
     exact d x c (by rw [List.lookup_cons];simp)
    ·exact b x q
   ·have:∃ d',((n,c)::cs).lookup x=some d':=by
     rw [List.lookup_cons]
     by_cases hxn:(x==n)=true
     ·rw [hxn];exact ⟨c,rfl⟩
     ·rw [Bool.eq_false_iff.mpr hxn];exact ⟨c',hx⟩
    obtain ⟨d',hd'⟩:=this
    exact d x d' hd'
  ·obtain ⟨cl,e,a,b,d⟩:=WE env r cs (fun x hx=>h x (List.mem_cons_of_mem _ hx))
   have hkf:(k==NameKind.free)=false:=by simpa using hk
   refine ⟨cl,?_,a,fun x hx=>?_,d⟩
   ·rw [List.forIn_cons]
    simp only [hkf,Bool.false_eq_true,if_false,pure_bind]
    exact e
   ·rcases List.mem_cons.mp hx with q | q
    ·exact absurd (congrArg Prod.snd q).symm hk
    ·exact b x q
theorem Va (env:Env) (scope:Scope) (h:∀ x,(x,NameKind.free)∈scope.names→∃ c,env.cells.lookup x=some c) :
  ∃ cl,closureFor scope env=pure cl∧(∀ x c,cl.lookup x=some c→env.cells.lookup x=some c)∧(∀ x,(x,NameKind.free)∈scope.names→∃ c,cl.lookup x=some c):=by
 obtain ⟨cl,e,a,b,_⟩:=WE env scope.names [] h
 refine ⟨cl,?_,fun x c hx=>(a x c hx).elim id (fun z=>by simp at z),b⟩
 unfold closureFor
 simp only [bind_pure]
 exact e
def cxC (X:Cx) (scope:Scope) (N':List Str) (cl:List (Str×Addr)) (C:Addr) (s₀:Shared) (H₀:Hp) (fp:List Addr) (pn:List (Addr×Obj)):Cx :=
 { X with N:=N',s₀:=s₀,H₀:=H₀,env:=compEnvC scope cl C X.env,outer:=X.stack,ex:=fp,fn:=fun _=>false,pn:=pn,xe:=fun _ _=>False }
inductive Cap (X:Cx) (scope:Scope):List (Option Nat)→List Str→Prop
 | nil:Cap X scope [] []
 | own {x src N'}:Cap X scope src N'→Cap X scope (none::src) (x::N')
 | cap {x i src N'}:X.N[i]?=some x→scope.names.lookup x=some NameKind.free→(X.env.scope.names.lookup x=some NameKind.cell∨X.env.scope.names.lookup x=some NameKind.free)→Cap X scope src N'→Cap X scope (some i::src) (x::N')
def Yy (src:List (Option Nat)) (σ:St):St:=src.map fun o=>match o with | none=>none | some i=>σ.getD i none
theorem Cap.length {X:Cx} {scope:Scope}:∀ {src:List (Option Nat)} {N':List Str},Cap X scope src N'→src.length=N'.length
 | _,_,.nil=>rfl
 | _,_,.own h=>congrArg (·+1) h.length
 | _,_,.cap _ _ _ h=>congrArg (·+1) h.length
theorem Cap.get {X:Cx} {scope:Scope} {σ:St}:∀ {src:List (Option Nat)} {N':List Str},Cap X scope src N'→∀ (j:Nat) (x:Str) (v:V),N'[j]?=some x→(Yy src σ)[j]?=some (some v) →
  ∃ i:Nat,X.N[i]?=some x∧σ[i]?=some (some v)∧scope.names.lookup x=some NameKind.free∧(X.env.scope.names.lookup x=some NameKind.cell∨X.env.scope.names.lookup x=some NameKind.free)
 | _,_,.nil,j,x,v,h,_=>by simp at h
 | _,_,.own h,0,x,v,_,e=>by simp [Yy] at e
 | _,_,.own h,j+1,x,v,e1,e2=>h.get j x v (by simpa using e1) (by simpa [Yy] using e2)
 | _,_,.cap (x:=y) (i:=i) hN hf hk h,0,x,v,e1,e2=>by
  have ex:y=x:=by simpa using e1
  subst ex
  refine ⟨i,hN,?_,hf,hk⟩
  simp only [Yy,List.map_cons,List.getElem?_cons_zero,Option.some.injEq] at e2
  rw [List.getD_eq_getElem?_getD] at e2
  cases q:σ[i]? with
  | none=>rw [q] at e2;simp at e2
  | some o=>rw [q] at e2;simp at e2;rw [e2]
 | _,_,.cap hN hf hk h,j+1,x,v,e1,e2=>h.get j x v (by simpa using e1) (by simpa [Yy] using e2)
theorem X8 (env:Env) (x:Str):∀ {names:List (Str×NameKind)},
  (names.map fun (n,k)=>if (k==NameKind.free&&env.scope.kind == .function&&env.kindOf n==some .cell) then (n,NameKind.cell) else (n,k)).lookup x =
   (names.lookup x).map fun k=>if (k==NameKind.free&&env.scope.kind == .function&&env.kindOf x==some .cell) then NameKind.cell else k
 | []=>rfl
 | (n,k)::r=>by
  have ih:=@X8 env x r
  rw [List.map_cons]
  dsimp only
  by_cases hx:(x==n)=true
  ·have e:x=n:=by simpa using hx
   subst e
   by_cases hc:(k==NameKind.free&&env.scope.kind == .function&&env.kindOf x==some .cell)=true
   ·rw [if_pos hc,List.lookup_cons,List.lookup_cons,hx]
    simp only [Option.map_some]
    rw [if_pos hc]
   ·rw [if_neg hc,List.lookup_cons,List.lookup_cons,hx]
    simp only [Option.map_some]
    rw [if_neg hc]
  ·have hx':=Bool.eq_false_iff.mpr hx
   by_cases hc:(k==NameKind.free&&env.scope.kind == .function&&env.kindOf n==some .cell)=true
   ·rw [if_pos hc];simp only [List.lookup_cons,hx'];exact ih
   ·rw [if_neg hc];simp only [List.lookup_cons,hx'];exact ih
theorem XI {names:List (Str×NameKind)} {x:Str} (h:names.lookup x=some NameKind.free):(x,NameKind.free)∈names:=PySem.mem_of_lookup h
section
variable {X:Cx}
theorem Ycj {scope:Scope} {N':List Str} {src:List (Option Nat)} {cl:List (Str×Addr)} {pins:List (Addr×Obj)} {σ:St} {H:Hp} {s s':Shared} {h':Heap} {tk:Nat} {fp:List Addr} {m:Str→Option Value}
  (hk:scope.kind = .function) (hcell:∀ y∈scope.names,y.2 ≠ .cell) (hcap:Cap X scope src N')
  (a:∀ x c,cl.lookup x=some c→X.env.cells.lookup x=some c) (b:∀ x,(x,NameKind.free)∈scope.names→∃ c,cl.lookup x=some c)
  (I:Inv X pins σ H s) (hf:∀ b∈fp,XJ X pins H b) (hfl:∀ b∈fp,b<s.heap.objs.size) (es':s'={ s with heap:=h',toks:=tk })
  (keep:∀ b o,s.heap.get? b=some o→h'.get? b=some o) (hn:h'.Ns s.heap.objs.size m) :
  Inv (cxC X scope N' cl s.heap.objs.size s H fp (X.pn++pins)) [] (Yy src σ) H s':=by
 subst es'
 have kindOf:∀ x,(compEnvC scope cl s.heap.objs.size X.env).kindOf x=(scope.names.lookup x).map fun k=>if (k==NameKind.free&&X.env.scope.kind == .function&&X.env.kindOf x==some .cell) then NameKind.cell else k:=fun x=>X8 X.env x
 have freeOf:∀ x,((compEnvC scope cl s.heap.objs.size X.env).kindOf x=some .cell∨(compEnvC scope cl s.heap.objs.size X.env).kindOf x=some .free)→scope.names.lookup x=some .free:=fun x h=>by
  rw [kindOf] at h
  cases q:scope.names.lookup x with
  | none=>rw [q] at h;simp at h
  | some k =>
   rw [q] at h
   by_cases hkf:k=NameKind.free
   ·rw [hkf]
   ·have hkf':(k==NameKind.free)=false:=by simpa using hkf
    simp only [Option.map_some,hkf',Bool.false_and,Bool.false_eq_true,if_false] at h
    rcases h with h | h
    ·exact absurd (Option.some.inj h) (hcell _ (PySem.mem_of_lookup q))
    ·exact absurd (Option.some.inj h) hkf
 refine ⟨⟨I.ok.mod,hk,I.ok.glob,I.ok.blt,Nat.le_refl _,fun x y c h1 h2=>I.ok.inj x y c (a x c h1) (a y c h2),fun x hx=>b x (XI (freeOf x hx)),(fun x c z _=>nomatch z),I.ok.hd,I.ok.frames,.inl rfl,fun b' hb=>?_,I.bs,Nat.le_trans I.ok.bsz I.sz,fun b' o e hb=>?_,fun b' hb z=>?_,I.stack,I.stkFree⟩,
  rfl,I.bare,Un.kept keep,⟨m,hn,fun j x v h1 h2 h3=>?_⟩,fun x c h=>?_,I.hok.fresh (Nat.le_refl _),fun x c h=>I.freeC x c (a x c h),fun p hp=>?_,I.hok.kept keep,?_⟩
 ·obtain ⟨f0,f1,f2,f3,f4,f5⟩:=hf b' hb
  exact ⟨Nat.ne_of_lt (hfl b' hb),fun x c h=>f4 x c (a x c h)⟩
 ·obtain ⟨f0,f1,f2,f3,f4,f5⟩:=hf b' hb
  rcases f3 with z | z
  ·exact I.ok.noex b' o e z
  ·exact absurd (Nat.lt_of_lt_of_le (Heap.lt_size e) (Nat.le_trans I.ok.bsz z)) (Nat.lt_irrefl _)
 ·obtain ⟨f0,f1,f2,f3,f4,f5⟩:=hf b' hb
  rcases List.mem_cons.mp (I.stkSub b' z) with e | e
  ·exact f1 e
  ·exact f2 e
 ·obtain ⟨i,e1,e2,e3,e4⟩:=hcap.get j x v h1 h2
  obtain ⟨m0,hn0,hl⟩:=I.loc
  obtain ⟨u,r,l⟩:=hl i x v e1 e2 (by rcases e4 with e4 | e4;exact .inr (.inl e4);exact .inr (.inr e4))
  refine ⟨u,r,?_⟩
  rcases l with ⟨l,_⟩ | ⟨k,c,e,z⟩
  ·have l':X.env.scope.names.lookup x=some NameKind.local:=l
   rcases e4 with e4 | e4<;>(rw [e4] at l';cases l')
  ·refine .inr ⟨?_,?_⟩
   ·show (compEnvC scope cl s.heap.objs.size X.env).kindOf x=some .cell∨(compEnvC scope cl s.heap.objs.size X.env).kindOf x=some .free
    rw [kindOf,e3]
    simp only [Option.map_some]
    split
    ·exact .inl rfl
    ·exact .inr rfl
   ·obtain ⟨c',hc'⟩:=b x (XI e3)
    have:=a x c' hc'
    rw [e] at this
    cases this
    obtain ⟨o,ho,hd⟩:=z
    exact ⟨c,hc',o,keep _ _ ho,hd⟩
 ·obtain ⟨v,o,ho,hd⟩:=I.cell x c (a x c h)
  exact ⟨v,o,keep _ _ ho,hd⟩
 ·have hp':p∈X.pn++pins:=by simpa [cxC] using hp
  obtain ⟨e,n,ne,nf,d⟩:=I.pin p hp'
  refine ⟨keep _ _ e,n,Nat.ne_of_lt (Heap.lt_size e),fun z=>?_,d⟩
  rcases List.mem_cons.mp (I.stkSub p.1 z) with q | q
  ·exact ne q
  ·exact nf q
 ·show (Yy src σ).length=N'.length
  rw [← hcap.length]
  simp [Yy]
end
end L2
namespace L2
open PySem PySem.Spec PyProof.Rows
section
variable {prog:Program} {w:World} {A:Around} {R:Result→Shared→Prop} {s:Shared}
theorem YaL {elt tg iter:Expr} {ifs:List Expr} {scope:Scope} {pos:Pos} {it acc:Value} {env:Env} (J:Nat→Shared→Prop)
  (turn:∀ n s,J n s→wpAny (model prog w) A (pyNext it) (fun r s₁=>match r with
    | none=>R (.ok .next) s₁
    | some v=>wpAny (model prog w) A (letOwnedTupleGo tg it v) (fun _ z₁=>wpAny (model prog w) A (assign tg env v) (fun _ s₂ =>
      wpAny (model prog w) A (forIn ifs true fun c r=>if r=true then do let ok ← isTrue c env (eval c env);pure (ForInStep.yield ok) else pure (ForInStep.yield r))
       (fun ok s₃=>if ok=true then wpAny (model prog w) A (eval elt env) (fun x s₄=>wpAny (model prog w) A (call (.builtin "list.append") [acc,x]) (fun _ s₅=>∃ m,m<n∧J m s₅) (fun _ _=>False) s₄) (notedBy (model prog w) A env fun e s'=>R (.error e) s') s₃
        else ∃ m,m<n∧J m s₃) (fun _ _=>False) s₂) (fun _ _=>False) z₁) (fun _ _=>False) s₁) (fun _ _=>False) s)
  (n:Nat) (h:J n s):codeAny (model prog w) A (.compLoop (.ListComp elt [⟨tg,iter,ifs,0⟩] scope pos) 0 it acc env) R s:=by
 refine codeAny_loop rfl J (fun n s hJ=>?_) n h
 show wpAny _ A (Sem.onRaise (compTurn (.ListComp elt [⟨tg,iter,ifs,0⟩] scope pos) 0 it acc env) (fun x=>do noteFrame x env;theTreesLotGoes x)) _ _ s
 refine wpAny_noted ?_
 rw [compTurn_list]
 have no:∀ {E:Value→Shared→Prop},∀ (e:Value) (s':Shared),False→E e s':=fun _ _ f=>f.elim
 refine wpAny_bind (wpAny_standAt (wpAny_bind (wpAny_mono (turn n s hJ) (fun r s₁ h₁=>?_) no)))
 cases r with
 | none=>exact wpAny_pure h₁
 | some v =>
  refine wpAny_bind (wpAny_mono h₁ (fun _ z₁ hz=>?_) no)
  refine wpAny_bind (wpAny_mono hz (fun _ s₂ h₂=>wpAny_bind (wpAny_mono h₂ (fun ok s₃ h₃=>?_) no)) no)
  cases ok with
  | false=>exact wpAny_pure ⟨rfl,h₃⟩
  | true =>
   exact wpAny_bind (wpAny_bind (wpAny_mono h₃ (fun x s₄ h₄=>wpAny_bind (wpAny_mono h₄ (fun _ s₅ h₅=>wpAny_pure (wpAny_pure ⟨rfl,h₅⟩)) no)) fun _ _ z=>z))
end
def PTs (X:Cx) (ifs:List Expr) (t:TT):Prop :=
 ∀ (pins:List (Addr×Obj)) (s:Shared) (σ:St) (H:Hp) (Q:Bool→Hp→Prop),Inv X pins σ H s→t σ H Q →
  wpAny (model X.prog X.w) X.A (forIn ifs true fun c r=>if r=true then do let ok ← isTrue c X.env (eval c X.env);pure (ForInStep.yield ok) else pure (ForInStep.yield r)) (TP X pins σ Q) X.xe s
def Wp:TT:=fun _ H Q=>Q true H
theorem Xj {X:Cx}:PTs X [] Wp:=fun _ _ _ H _ I h=>wpAny_tests_nil ⟨H,I,h⟩
theorem Ydi {X:Cx} {c:Expr} {t:TT} (h:PT X c t):PTs X [c] t:=fun pins s σ H Q I q=>wpAny_tests_one (h pins s σ H Q I q)
def LC (src:List (Option Nat)) (J:It) (g:TG) (tt:TT) (te:TE) (σ:St) (H1:Hp) (Q:VK) (D:Addr):Prop:=∃ W:Nat→Nat→List V→St→Hp→Prop,(∃ m,W 0 m [] (Yy src σ) (upd H1 D (.lst []))) ∧
 ∀ i m ys σ' H2,W i m ys σ' H2→H2 D=some (.lst ys)∧((J.stop i H2∧Q (.ref D) H2)∨(J.go i H2∧∃ N:List V→St→Hp→Prop,(∀ ys' σ3 H3,N ys' σ3 H3→∃ m',m'<m∧W (i+1) m' ys' σ3 H3)∧∀ x H3,J.yld i H2 x H3→g x σ' H3 fun σ2 H4=>tt σ2 H4 fun b H5 =>
  if b=true then te σ2 H5 fun y H6=>H6 D=some (.lst ys)∧ys.length<sizeLine∧N (ys++[y]) σ2 (upd H6 D (.lst (ys++[y])))
  else N ys σ2 H5))
def tLC (src:List (Option Nat)) (wi:TI) (g:TG) (tt:TT) (te:TE):TE:=fun σ H Q=>wi σ H fun J H1=>∀ D,H1 D=none→LC src J g tt te σ H1 Q D
section
variable {X:Cx}
theorem Qv {elt tg iter:Expr} {ifs:List Expr} {scope:Scope} {pos:Pos} {src:List (Option Nat)} {N':List Str} {g:TG} {tt:TT} {te:TE} {cl:List (Str×Addr)} {pins:List (Addr×Obj)} {σ:St} {Q:VK} {itv:Value} {s2:Shared} {Po:Value→Addr→Result→Shared→Prop} {Z:Addr→Shared→Hp→List Addr→List (Addr×Obj)→Value→Shared→Prop}
  (hcap:Cap X scope src N') (hc:X.calm=true) (hg:∀ C s₀ H₀ fp pn,PG (cxC X scope N' cl C s₀ H₀ fp pn) tg g) (ht:∀ C s₀ H₀ fp pn,PTs (cxC X scope N' cl C s₀ H₀ fp pn) ifs tt)
  (he:∀ C s₀ H₀ fp pn,PE ((cxC X scope N' cl C s₀ H₀ fp pn).wish (Z C s₀ H₀ fp pn)) elt te) (hk:scope.kind = .function) (hcell:∀ y∈scope.names,y.2 ≠ .cell) (a:∀ x c,cl.lookup x=some c→X.env.cells.lookup x=some c) (b:∀ x,(x,NameKind.free)∈scope.names→∃ c,cl.lookup x=some c)
  (h2:PIE X pins σ tg (fun J H1=>∀ D,H1 D=none→LC src J g tt te σ H1 Q D) itv s2)
  (done:∀ (D C:Addr) (s6:Shared) (H5:Hp),(∀ h',Heap.SameBut C s6.heap h'→Inv X pins σ H5 { s6 with heap:=h' })→(∃ m,s6.heap.Ns C m)→H5 C=none→(∀ {H':Hp},H' C=none→XJ X pins H' C)→Q (.ref D) H5→Po (.ref D) C (.ok .next) s6)
  (gone:∀ (D:Addr) (s3:Shared) (H3:Hp) (fp:List Addr),Inv X pins σ H3 s3→(∀ {H':Hp} {s':Shared} {σ':St} {pins':List (Addr×Obj)},Inv (cxC X scope N' cl s3.heap.objs.size s3 H3 fp (X.pn++pins)) pins' σ' H' s'→∀ h',Heap.SameBut s3.heap.objs.size s'.heap h'→Inv X pins σ H' { s' with heap:=h' }) →
   ∀ e s',Z s3.heap.objs.size s3 H3 fp (X.pn++pins) e s'→notedBy (model X.prog X.w) X.A (compEnvC scope cl s3.heap.objs.size X.env) (fun e s'=>Po (.ref D) s3.heap.objs.size (.error e) s') e s') :
  wpAny (model X.prog X.w) X.A (newList []) (fun acc s₃=>wpAny (model X.prog X.w) X.A (newFunctionEnv scope X.env.globals cl [] X.env.qual none Value.none (some X.env)) (fun cenv s₄ =>
   codeAny (model X.prog X.w) X.A (.compStart (.ListComp elt [⟨tg,iter,ifs,0⟩] scope pos) 0 itv acc { cenv with scope:=relabel scope X.env }) (Po acc cenv.locals) s₄) X.xe s₃) X.xe s2:=by
 obtain ⟨it,fp,tn,J,H2,e,I2,T,st2,f2,q⟩:=h2
 subst e
 have hD:H2 s2.heap.objs.size=none:=I2.hok.fresh (Nat.le_refl _)
 obtain ⟨W,⟨m0,w0⟩,turn⟩:=q s2.heap.objs.size hD
 have I3:=I2.lnew (t':=s2.toks) (ys:=[]) (its:=[]) .nil (Nat.zero_le _)
 have fl2:∀ b∈fp,b<s2.heap.objs.size:=fun b hb=>by
  obtain ⟨o,e,_⟩:=T.obj _ _ st2 b hb
  exact Heap.lt_size e
 refine wpAny_newObj_type ?_
 generalize es3:({ s2 with heap:=s2.heap.push { cls := .type "list",dict:=none,data := .seq ([]:List Value).toArray } }:Shared)=s3
 have I3':Inv X pins σ (upd H2 s2.heap.objs.size (.lst [])) s3:=es3▸I3
 have keep3:∀ b o,s2.heap.get? b=some o→s3.heap.get? b=some o:=fun b o e=>by rw [← es3];exact Heap.get?_push_of_some _ e
 have st3:tn 0 s3.heap:=T.keep _ _ _ st2 fun b _ o e=>keep3 b o e
 have fl3:∀ b∈fp,b<s3.heap.objs.size:=fun b hb=>by
  obtain ⟨o,e,_⟩:=T.obj _ _ st3 b hb
  exact Heap.lt_size e
 have f3:∀ b∈fp,XJ X pins (upd H2 s2.heap.objs.size (.lst [])) b:=fun b hb=>⟨by rw [Yb (Nat.ne_of_lt (fl2 b hb))];exact (f2 b hb).1,(f2 b hb).2⟩
 generalize eD:s2.heap.objs.size=D at *
 generalize eH3:upd H2 D (.lst [])=H3 at *
 refine wpAny_newFunctionEnv hcell (by intro y hy;simp at hy) (fun h₁ hns₁ hsb₁=>?_) hk
 have keep4:∀ b o,s3.heap.get? b=some o→h₁.get? b=some o:=fun b o e=>hsb₁.extBut b o (Nat.ne_of_lt (Heap.lt_size e)) (Heap.get?_push_of_some _ e)
 have I4:=Ycj (N':=N') (src:=src) (tk:=s3.toks+([]:List (Str×Value)).length) hk hcell hcap a b I3' f3 fl3 rfl keep4 hns₁
 have stat:∀ {H':Hp},(∀ b∈fp,H' b=none)→∀ b∈fp,XJ (cxC X scope N' cl s3.heap.objs.size s3 H3 fp (X.pn++pins)) [] H' b:=fun hn b' hb=>by
  obtain ⟨f0,f1,fs,fe,f4,f5⟩:=f3 b' hb
  refine ⟨hn b' hb,Nat.ne_of_lt (fl3 b' hb),fun z=>?_,.inl hb,fun x c h=>f4 x c (a x c h),fun p hp=>f5 p (by simpa [cxC] using hp)⟩
  rcases List.mem_cons.mp (I3'.stkSub b' z) with e | e
  ·exact f1 e
  ·exact fs e
 have fin:∀ {H':Hp} {s':Shared} {σ':St} {pins':List (Addr×Obj)},Inv (cxC X scope N' cl s3.heap.objs.size s3 H3 fp (X.pn++pins)) pins' σ' H' s'→∀ h',Heap.SameBut s3.heap.objs.size s'.heap h'→Inv X pins σ H' { s' with heap:=h' }:=fun {H' s' σ' pins'} J' h' sb=>by
  have same:∀ b o,b≠s3.heap.objs.size→s'.heap.get? b=some o→h'.get? b=some o:=fun b o hb e=>sb.extBut b o hb e
  have u:Un (frs X.stack) fp H3 H' s3.heap s'.heap:=J'.base
  refine I3'.call' (s':={ s' with heap:=h' }) (ch:=fp) J'.os ⟨fun b o e n hb hx=>?_,fun b o e n hb hx=>?_,u.free,fun b o e hx=>?_,u.tups,u.frzs,u.tbls⟩ (fun b o e=>?_) J'.bare fun b hb=>?_
  ·exact same b o (Nat.ne_of_lt (Heap.lt_size e)) (u.keep b o e n hb hx)
  ·obtain ⟨sl,z⟩:=u.slot b o e n hb hx
   exact ⟨sl,same b _ (Nat.ne_of_lt (Heap.lt_size e)) z⟩
  ·obtain ⟨o',z⟩:=u.there b o e hx
   exact ⟨o',same b o' (Nat.ne_of_lt (Heap.lt_size e)) z⟩
  ·have nC:∀ c v,H' c=some v→c≠s3.heap.objs.size:=fun c v z q=>by
    have:=J'.free
    rw [show (cxC X scope N' cl s3.heap.objs.size s3 H3 fp (X.pn++pins)).env.locals=s3.heap.objs.size from rfl,← q,z] at this
    cases this
   refine (J'.hok b o e).stay (fun c v hc q=>same c v ?_ q) (fun _ q=>q) fun _ _ q=>q
   rcases hc with z | z
   ·rw [z];exact nC b o e
   ·exact nC c _ z
  ·obtain ⟨f0,f1,fs,fe,f4,f5⟩:=f3 b hb
   exact ⟨fe,f1,f4,f5⟩
 have loop:codeAny (model X.prog X.w) X.A (.compLoop (.ListComp elt [⟨tg,iter,ifs,0⟩] scope pos) 0 (.ref it) (.ref D) (compEnvC scope cl s3.heap.objs.size X.env))
   (Po (.ref D) s3.heap.objs.size) { s3 with heap:=h₁,toks:=s3.toks+([]:List (Str×Value)).length }:=by
  refine YaL (fun n s'=>∃ i ys σ' H',Inv (cxC X scope N' cl s3.heap.objs.size s3 H3 fp (X.pn++pins)) [] σ' H' s'∧tn i s'.heap∧(∀ b∈fp,H' b=none)∧W i n ys σ' H') ?_ m0 ⟨0,[],Yy src σ,H3,I4,T.keep _ _ _ st3 fun b _ o e=>keep4 b o e,fun b hb=>(f3 b hb).1,w0⟩
  rintro n s5 ⟨i,ys,σ5,H5,I5,st5,fr5,w5⟩
  obtain ⟨hDs,stop | go⟩:=turn i n ys σ5 H5 w5
  ·obtain ⟨stop,qn⟩:=stop
   refine thn (T.done (cxC X scope N' cl s3.heap.objs.size s3 H3 fp (X.pn++pins)) rfl rfl rfl hc i [] s5 σ5 H5 _ I5 (stat fr5) st5 stop) fun r s6 ⟨hr,I6⟩=>?_
   subst hr
   obtain ⟨m,hn,_⟩:=id I6.loc
   exact done D _ s6 H5 (fun h' sb=>fin I6 h' sb) ⟨m,hn⟩ I6.free (fun z=>I3'.fpOk (Nat.le_refl _) z) qn
  ·obtain ⟨go,N,hN,step⟩:=go
   refine thn (T.item (cxC X scope N' cl s3.heap.objs.size s3 H3 fp (X.pn++pins)) rfl rfl rfl hc i [] s5 σ5 H5 _ I5 (stat fr5) st5 go) fun r s6 ⟨u,hr,h6⟩=>?_
   subst hr
   refine thn h6 fun _ s7 ⟨x,H7,I7,r7,y7,st7,fr7⟩=>?_
   have I7':=I7.pinned (stat fr7) (T.obj _ _ st7)
   have again:∀ {s8:Shared} {σ8:St} {H8:Hp} {ys':List V},Inv (cxC X scope N' cl s3.heap.objs.size s3 H3 fp (X.pn++pins)) ([]++WV fp s7.heap) σ8 H8 s8→(∃ m',m'<n∧W (i+1) m' ys' σ8 H8) →
     ∃ m,m<n∧∃ i ys σ' H',Inv (cxC X scope N' cl s3.heap.objs.size s3 H3 fp (X.pn++pins)) [] σ' H' s8∧tn i s8.heap∧(∀ b∈fp,H' b=none)∧W i m ys σ' H':=fun {s8 σ8 H8 ys'} I8 ⟨m',hm,w8⟩=>by
    refine ⟨m',hm,i+1,ys',σ8,H8,I8.unpinned,T.keep _ _ _ st7 fun b hb o e=>(I8.pin (b,o) (List.mem_append_right _ (List.mem_append_right _ (XF hb e)))).1,fun b hb=>?_,w8⟩
    obtain ⟨o,e,d⟩:=T.obj _ _ st7 b hb
    exact (I8.pin (b,o) (List.mem_append_right _ (List.mem_append_right _ (XF hb e)))).2.1
   refine thn (hg _ s3 H3 fp _ _ s7 σ5 H7 x u _ I7' r7 (step x H7 y7)) fun _ s8 ⟨σ8,H8,I8,q8⟩=>?_
   refine thn (ht _ s3 H3 fp _ _ s8 σ8 H8 _ I8 q8) fun ok s9 ⟨H9,I9,q9⟩=>?_
   cases ok with
   | false=>exact again I9 (hN _ _ _ q9)
   | true =>
    rw [if_pos rfl]
    refine wpAny_mono (he _ s3 H3 fp _ _ s9 σ8 H9 _ (I9.wish _) q9) (fun y s10 ⟨yv,H10,I10',r10,q10⟩=>?_) (gone D s3 H3 fp I3' fin)
    have I10:=I10'.unwish
    obtain ⟨hDy,hlen,w10⟩:=q10
    refine thn (Y0 (X:=cxC X scope N' cl s3.heap.objs.size s3 H3 fp (X.pn++pins)) _ s10 σ8 H10 (.ref D) [yv] (.ref D) [y] (fun _ H'=>H'=upd H10 D (.lst (ys++[yv]))) I10 rfl (.cons r10 .nil) ⟨D,ys,yv,rfl,rfl,hDy,hlen,rfl⟩) fun _ s11 ⟨_,H11,I11,_,e11⟩=>?_
    subst e11
    exact again I11 (hN _ _ _ w10)
 exact codeAny_compStart_list loop (T.self _ 0 _ _ _ (T.keep _ _ _ st3 fun b _ o e=>keep4 b o e) loop)
theorem Wh {elt tg iter:Expr} {ifs:List Expr} {scope:Scope} {pos:Pos} {src:List (Option Nat)} {N':List Str} {wi:TI} {g:TG} {tt:TT} {te:TE} (hcap:Cap X scope src N') (hc:X.calm=true) (hi:PI X tg iter wi)
  (hg:∀ cl C s₀ H₀ fp pn,PG (cxC X scope N' cl C s₀ H₀ fp pn) tg g) (ht:∀ cl C s₀ H₀ fp pn,PTs (cxC X scope N' cl C s₀ H₀ fp pn) ifs tt) (he:∀ cl C s₀ H₀ fp pn,PE (cxC X scope N' cl C s₀ H₀ fp pn) elt te)
  (hfree:∀ x,(x,NameKind.free)∈scope.names→X.env.scope.names.lookup x=some NameKind.cell∨X.env.scope.names.lookup x=some NameKind.free)
  (hk:scope.kind = .function) (hcell:∀ y∈scope.names,y.2 ≠ .cell) (hnames:∀ y∈scope.names,y.2 = .local→scope.names.lookup y.1=some .local)
  (hs:∀ x,foldedSetIterable iter X.env x=pure x):PE X (.ListComp elt [⟨tg,iter,ifs,0⟩] scope pos) (tLC src wi g tt te):=by
 intro pins s σ H Q I h
 obtain ⟨cl,hcl,a,b⟩:=Va X.env scope fun x hx=>I.ok.has x (hfree x hx)
 rw [eval_ListComp]
 refine wpAny_comprehension_free (use:=none) rfl hs hcl hk hnames (thn (hi pins s σ H _ I h) fun v s1 h1=>thn h1 fun itv s2 h2=>?_)
 exact Qv (Po:=fun v C=>compPost (model X.prog X.w) X.A X.xe none (EP X pins σ Q) v C) (Z:=fun _ _ _ _ _ _ _=>False) hcap hc (hg cl) (ht cl) (he cl) hk hcell a b h2 (fun D C s6 H5 fi ⟨m,hn⟩ _ _ qn=>⟨m,hn,fun h' sb=>⟨.ref D,H5,fi h' sb,rfl,qn⟩⟩) fun _ _ _ _ _ _ _ _ z=>z.elim
end
end L2
namespace L2
open PySem PySem.Spec PyProof.Rows
section
variable {X:Cx}
end
end L2
namespace L2
open PySem PySem.Spec PyProof.Rows
section
variable {X:Cx} {tg:Expr}
def Wr (J:It) (P:Hp→Prop) (xs:List V):Prop:=∀ H,P H→∀ i,(∀ x,xs[i]?=some x→J.go i H∧∀ y H',J.yld i H y H'→H'=H∧y=x)∧(xs.length≤i→J.stop i H)
theorem YbA {K:PySem.W.Frag} {a:Addr} {xs:List V}:Wr (Itt K a) (fun H=>SqT K H a xs) xs:=fun H hq i=>by
 refine ⟨fun x hx=>⟨⟨xs,x,hq,hx⟩,fun y H' ⟨e1,e2⟩=>⟨e1,?_⟩⟩,fun hi=>⟨xs,hq,hi⟩⟩
 have:=e2 xs hq
 rw [hx] at this
 exact (Option.some.inj this).symm
theorem Ws {K:PySem.W.Frag} {a:Addr} {xs:List V}:Wr (Itl K a) (fun H=>SqL K H a xs) xs:=fun H hq i=>by
 refine ⟨fun x hx=>⟨⟨xs,x,hq,hx⟩,fun y H' ⟨e1,e2⟩=>⟨e1,?_⟩⟩,fun hi=>⟨xs,hq,hi⟩⟩
 have:=e2 xs hq
 rw [hx] at this
 exact (Option.some.inj this).symm
theorem WR {lo:Int} {n:Nat} {P:Hp→Prop}:Wr (Itr lo n) P ((List.range n).map fun (i:Nat)=>V.int (lo+i)):=fun H hq i=>by
 refine ⟨fun x hx=>?_,fun hi=>by show n≤i;simpa using hi⟩
 have hi:i<n:=by
  have:=(List.getElem?_eq_some_iff.mp hx).1
  simpa using this
 refine ⟨hi,fun y H' ⟨e1,e2⟩=>⟨e1,?_⟩⟩
 rw [List.getElem?_map,List.getElem?_range hi] at hx
 rw [e2]
 simpa using hx
theorem Wr.imp {J:It} {P P':Hp→Prop} {xs:List V} (h:Wr J P xs) (hp:∀ H,P' H→P H):Wr J P' xs:=fun H q=>h H (hp H q)
theorem YcV {J:It} {P:Hp→Prop} {xs:List V} (hJ:Wr J P xs) {src:List (Option Nat)} {g:TG} {tt:TT} {te:TE} {σ:St} {H1:Hp} {Q:VK} {D:Addr} (Pv:Nat→List V→St→Hp→Prop)
  (h0:Pv 0 [] (Yy src σ) (upd H1 D (.lst []))) (hP:∀ i ys σ' H',Pv i ys σ' H'→P H'∧H' D=some (.lst ys))
  (step:∀ i ys σ' H' x,xs[i]?=some x→Pv i ys σ' H'→g x σ' H' fun σ2 H4=>tt σ2 H4 fun b H5=>if b=true then te σ2 H5 fun y H6=>H6 D=some (.lst ys)∧ys.length<sizeLine∧Pv (i+1) (ys++[y]) σ2 (upd H6 D (.lst (ys++[y]))) else Pv (i+1) ys σ2 H5)
  (fin:∀ ys σ' H',Pv xs.length ys σ' H'→Q (.ref D) H') :
  LC src J g tt te σ H1 Q D:=by
 refine ⟨fun i m ys σ' H'=>m=xs.length - i∧i≤xs.length∧Pv i ys σ' H',⟨xs.length,by simp,Nat.zero_le _,h0⟩,?_⟩
 rintro i m ys σ' H2 ⟨rfl,hi,p⟩
 obtain ⟨hp,hD⟩:=hP i ys σ' H2 p
 refine ⟨hD,?_⟩
 by_cases hlt:i<xs.length
 ·obtain ⟨go,yl⟩:=(hJ H2 hp i).1 xs[i] (by simp [hlt])
  refine .inr ⟨go,fun ys' σ3 H3=>Pv (i+1) ys' σ3 H3,fun ys' σ3 H3 p'=>⟨xs.length - (i+1),by omega,rfl,hlt,p'⟩,fun x H3 y=>?_⟩
  obtain ⟨e1,e2⟩:=yl x H3 y
  subst e1 e2
  exact step i ys σ' _ _ (by simp [hlt]) p
 ·have e:i=xs.length:=by omega
  subst e
  exact .inl ⟨(hJ H2 hp _).2 (Nat.le_refl _),fin ys σ' H2 p⟩
theorem Yl.upd_new {H:Hp} {p:Addr} (h:H p=none) (o:HO):Yl H (upd H p o):=fun b u q=>by rw [Yb (Yh q h)];exact q
theorem Yl.upd_over {H H':Hp} {p:Addr} (h:H p=none) (e:Yl H H') (o:HO):Yl H (upd H' p o):=fun b u q=>by rw [Yb (Yh q h)];exact e b u q
theorem Yl.tup {K:PySem.W.Frag} {H H':Hp} {a:Addr} {xs:List V} (e:Yl H H') (h:SqT K H a xs):SqT K H' a xs:=by
 rcases h with (h | ⟨o,h⟩) | h
 ·exact .inl (.inl (e _ _ h))
 ·exact .inl (.inr ⟨o,e _ _ h⟩)
 ·exact .inr h
end
section
variable {X:Cx}
def YaM:V→Option Value
 | .ty n=>some (.type n)
 | .ref a=>some (.ref a)
 | _=>none
theorem WS:XQ X (.builtin "isinstance") (fun xs H Q=>∃ x c cv t b,xs=[x,c]∧YaM c=some cv∧TyOf X.K H x t∧PySem.W.kitOne X.K t cv=some b∧Q (.bl b) H):=by
 intro pins s σ H xs us Q I r h
 obtain ⟨x,c,cv,t,b,rfl,ec,ty,e,q⟩:=h
 obtain ⟨u,w',rfl,ru,rw'⟩:=YaB r
 have ew:w'=cv:=by
  cases c with
  | ty n=>cases (show w'=Value.type n from rw');simpa [YaM] using ec
  | ref a=>cases (show w'=Value.ref a from rw');simpa [YaM] using ec
  | _=>simp [YaM] at ec
 subst ew
 exact Ybs I ru ty e fun tk=>⟨.bl b,H,I.tok tk,rfl,q⟩
end
end L2
namespace L2
open PySem PySem.Spec PyProof.Rows
structure Sub (P:Program) (w:World) (i:Addr) (St:Nat→Heap→Prop) (Xa:Heap→(Nat→Option Value)→Prop):Prop where
 obj:∀ k h,St k h→∃ o,h.get? i=some o∧∀ v,o.data ≠ .cell v
 keep:∀ k h h',St k h→(∀ o,h.get? i=some o→h'.get? i=some o)→St k h'
 item:∀ (A:Around) (k:Nat) (s:Shared) (get:Nat→Option Value) (x:Value) (Q:Value→Shared→Prop) (E:Value→Shared→Prop),St k s.heap→Xa s.heap get→get k=some x →
  (∀ h' tk,St (k+1) h'→Heap.SameBut i s.heap h'→Q x { s with heap:=h',toks:=tk })→wpAny (model P w) A (Builtin.SmallTypes.nextOf (.ref i)) Q E s
 fin:∀ (A:Around) (k:Nat) (s:Shared) (get:Nat→Option Value) (Q:Value→Shared→Prop) (E:Value→Shared→Prop),A.handled=none→St k s.heap→Xa s.heap get→get k=none →
  (∀ h' e,Heap.ExtBut i s.heap h'→(∃ o,h'.get? e=some o∧o.cls = .type "StopIteration")→E (.ref e) { s with heap:=h' })→wpAny (model P w) A (Builtin.SmallTypes.nextOf (.ref i)) Q E s
section
variable {prog:Program} {w:World} {A:Around} {E:Value→Shared→Prop} {s:Shared}
end
theorem Yck {P:Program} {w:World} (i t:Addr):Sub P w i (fun k h=>h.IsListIter i t k) (fun h get=>∃ items:Array Value,h.IsList t items∧∀ k,get k=items[k]?) where
 obj:=fun k h ⟨o,e,c,d⟩=>⟨o,e,fun v z=>by rw [d] at z;cases z⟩
 keep:=fun k h h' st q=>st.at q
 item:=fun A k s get x Q E st ⟨items,ht,hg⟩ hx hQ=>wpAny_nextOf_list_item st ht ((hg k).symm.trans hx) fun h' st' sb=>hQ h' s.toks st' sb
 fin:=fun A k s get Q E hh st ⟨items,ht,hg⟩ hx hE=>wpAny_nextOf_list_end hh st ht ((hg k).symm.trans hx) hE
structure ZApart (z TI TO i1 i2:Addr):Prop where
 a:TI≠z
 b:TO≠z
 c:i1≠z
 d:i2≠z
 e:TI≠TO
 f:TI≠i1
 g:TI≠i2
 h:TO≠i1
 i:TO≠i2
 j:i1≠i2
section
variable {prog:Program} {w:World} {A:Around} {E:Value→Shared→Prop} {s:Shared} {z TI TO i1 i2:Addr} {S1 S2:Nat→Heap→Prop} {R1 R2:Heap→(Nat→Option Value)→Prop} {g1 g2:Nat→Option Value} {k:Nat} {a b:Value}
theorem Ycl {x y:Value} {Q:Option Value→Shared→Prop} (D:ZApart z TI TO i1 i2) (U1:Sub prog w i1 S1 R1) (U2:Sub prog w i2 S2 R2)
  (k1:∀ h h' g,R1 h g→(∀ c o,c≠z→c≠TO→c≠i1→c≠i2→h.get? c=some o→h'.get? c=some o)→R1 h' g) (k2:∀ h h' g,R2 h g→(∀ c o,c≠z→c≠TO→c≠i1→c≠i2→h.get? c=some o→h'.get? c=some o)→R2 h' g)
  (hz:IsZip s.heap z TI TO .none) (hTI:IsPair s.heap TI (.ref i1) (.ref i2)) (hTO:IsPair s.heap TO a b) (h1:S1 k s.heap) (h2:S2 k s.heap) (r1:R1 s.heap g1) (r2:R2 s.heap g2) (hx:g1 k=some x) (hy:g2 k=some y)
  (hQ:∀ h' tk,IsZip h' z TI TO (rawInt s.heap.objs.size)→IsPair h' TO x y→S1 (k+1) h'→S2 (k+1) h'→IsPair h' s.heap.objs.size x y→h'.objs.size=s.heap.objs.size+1 →
   (∀ c o,c≠z→c≠TO→c≠i1→c≠i2→s.heap.get? c=some o→h'.get? c=some o)→Q (some (.ref s.heap.objs.size)) { s with heap:=h',toks:=tk }) :
  wpAny (model prog w) A (pyNext (.ref z)) Q E s:=by
 have hT:s.TypeIs (.ref z) "zip":=⟨_,hz,rfl⟩
 unfold pyNext
 refine wpAny_bind (wpAny_attempt (wpAny_callSpecial?_slot (name:=Str.ofString "__next__") hT F.slot_zip_next (wpAny_call_entry F.slot_zip_next hT F.entry_zip_next ?_ (F.args_zip_next_1 _))))
 show wpAny _ _ (field (.ref z) 2 >>= _) _ _ _
 refine wpAny_bind (wpAny_field hz rfl (x := .bool false) rfl ?_)
 show wpAny _ _ (field (.ref z) 3 >>= _) _ _ _
 refine wpAny_bind (wpAny_field hz rfl (x := .ref TI) rfl ?_)
 refine wpAny_bind (wpAny_seqItems hTI rfl ?_)
 show wpAny _ _ (Builtin.SmallTypes.ownedTupleIsFree (.ref z) >>= _) _ _ _
 refine wpAny_bind ?_
 unfold Builtin.SmallTypes.ownedTupleIsFree
 refine wpAny_bind (wpAny_field hz rfl (x := .none) rfl (wpAny_pure ?_))
 simp only [if_true]
 refine wpAny_bind (wpAny_rule ?_)
 refine wpAny_bind (wpAny_field hz rfl (x := .ref TO) rfl ?_)
 refine wpAny_bind (wpAny_setField_rec hz (by simp) fun h₁ hz₁ hs₁=>?_)
 replace hz₁:IsZip h₁ z TI TO .ellipsis:=hz₁
 refine wpAny_bind ?_
 simp only [List.zipIdx_cons,List.zipIdx_nil,List.forIn_cons,List.forIn_nil]
 refine wpAny_bind (wpAny_bind (wpAny_onRaise ?_))
 show wpAny _ _ (Builtin.SmallTypes.nextOf (.ref i1) >>= _) _ _ _
 have S1₁:S1 k h₁:=U1.keep _ _ _ h1 fun o e=>hs₁.extBut _ _ D.c e
 have R1₁:R1 h₁ g1:=k1 _ _ _ r1 fun c o c1 _ _ _ e=>hs₁.extBut _ _ c1 e
 refine wpAny_bind (U1.item _ k { s with heap:=h₁ } g1 x _ _ S1₁ R1₁ hx fun h₂ tk₂ S1₂ hs₂=>wpAny_pure ?_)
 have hTO₂:IsPair h₂ TO a b:=hs₂.extBut _ _ D.h (hs₁.extBut _ _ D.b hTO)
 refine wpAny_bind (wpAny_seqItems hTO₂ rfl ?_)
 refine wpAny_bind (wpAny_updateSeq_pair hTO₂ fun h₃ hTO₃ hs₃=>?_)
 replace hTO₃:IsPair h₃ TO x b:=hTO₃
 refine wpAny_bind (wpAny_letGo (wpAny_pure ?_))
 refine wpAny_bind (wpAny_bind (wpAny_onRaise ?_))
 show wpAny _ _ (Builtin.SmallTypes.nextOf (.ref i2) >>= _) _ _ _
 have kk₃:∀ c o,c≠z→c≠TO→c≠i1→c≠i2→s.heap.get? c=some o→h₃.get? c=some o:=fun c o c1 c2 c3 c4 e=>hs₃.extBut _ _ c2 (hs₂.extBut _ _ c3 (hs₁.extBut _ _ c1 e))
 have S2₃:S2 k h₃:=U2.keep _ _ _ h2 fun o e=>hs₃.extBut _ _ D.i.symm (hs₂.extBut _ _ D.j.symm (hs₁.extBut _ _ D.d e))
 refine wpAny_bind (U2.item _ k { s with heap:=h₃,toks:=tk₂ } g2 y _ _ S2₃ (k2 _ _ _ r2 kk₃) hy fun h₄ tk₄ S2₄ hs₄=>wpAny_pure ?_)
 have hTO₄:IsPair h₄ TO x b:=hs₄.extBut _ _ D.i hTO₃
 refine wpAny_bind (wpAny_seqItems hTO₄ rfl ?_)
 refine wpAny_bind (wpAny_updateSeq_pair hTO₄ fun h₅ hTO₅ hs₅=>?_)
 replace hTO₅:IsPair h₅ TO x y:=hTO₅
 refine wpAny_bind (wpAny_letGo (wpAny_pure (wpAny_pure ?_)))
 refine wpAny_bind (wpAny_seqItems hTO₅ rfl ?_)
 refine wpAny_bind (wpAny_newTuple ?_)
 have hsz:h₅.objs.size=s.heap.objs.size:=by rw [hs₅.1,hs₄.1,hs₃.1,hs₂.1,hs₁.1]
 have hz₅:IsZip h₅ z TI TO .ellipsis:=hs₅.extBut _ _ D.b.symm (hs₄.extBut _ _ D.d.symm (hs₃.extBut _ _ D.b.symm (hs₂.extBut _ _ D.c.symm hz₁)))
 have hk₅:∀ c o,c≠z→c≠TO→c≠i1→c≠i2→s.heap.get? c=some o→h₅.get? c=some o:=fun c o c1 c2 c3 c4 e=>hs₅.extBut _ _ c2 (hs₄.extBut _ _ c4 (kk₃ c o c1 c2 c3 c4 e))
 have S1₅:S1 (k+1) h₅:=U1.keep _ _ _ S1₂ fun o e=>hs₅.extBut _ _ D.h.symm (hs₄.extBut _ _ D.j (hs₃.extBut _ _ D.h.symm e))
 have S2₅:S2 (k+1) h₅:=U2.keep _ _ _ S2₄ fun o e=>hs₅.extBut _ _ D.i.symm e
 have hzlt:z<h₅.objs.size:=Heap.lt_size hz₅
 show wpAny _ _ (Builtin.SmallTypes.ownedTupleHandOut (.ref z) (.ref h₅.objs.size) >>= _) _ _ _
 refine wpAny_bind ?_
 unfold Builtin.SmallTypes.ownedTupleHandOut
 have hz₆:IsZip (h₅.push { cls := .type "tuple",data := .seq #[x,y] }) z TI TO .ellipsis:=Heap.get?_push_of_some _ hz₅
 refine wpAny_bind (wpAny_setField_rec hz₆ (by simp) fun h₇ hz₇ hs₇=>?_)
 replace hz₇:IsZip h₇ z TI TO (rawInt h₅.objs.size):=hz₇
 refine wpAny_setField_rec hz₇ (by simp) fun h₈ hz₈ hs₈=>?_
 replace hz₈:IsZip h₈ z TI TO (rawInt h₅.objs.size):=hz₈
 have up:∀ c o,c≠z→h₅.get? c=some o→h₈.get? c=some o:=fun c o c1 e=>hs₈.extBut _ _ c1 (hs₇.extBut _ _ c1 (Heap.get?_push_of_some _ e))
 have hT₈:IsPair h₈ h₅.objs.size x y:=hs₈.extBut _ _ (Nat.ne_of_gt hzlt) (hs₇.extBut _ _ (Nat.ne_of_gt hzlt) (Heap.get?_push_size _ rfl))
 have hz8:h₈.objs.size=h₅.objs.size+1:=by rw [hs₈.1,hs₇.1,Heap.size_push]
 rw [hsz] at hz₈ hT₈ hz8
 refine wpAny_pure ⟨_,rfl,wpAny_pure ?_⟩
 show Q (some (.ref h₅.objs.size)) _
 rw [hsz]
 exact hQ h₈ tk₄ hz₈ (up _ _ D.b hTO₅) (U1.keep _ _ _ S1₅ fun o e=>up _ o D.c e) (U2.keep _ _ _ S2₅ fun o e=>up _ o D.d e) hT₈ hz8 fun c o c1 c2 c3 c4 e=>up c o c1 (hk₅ c o c1 c2 c3 c4 e)
theorem Ydj {Q:Option Value→Shared→Prop} (hh:A.handled=none) (D:ZApart z TI TO i1 i2) (U1:Sub prog w i1 S1 R1) (U2:Sub prog w i2 S2 R2)
  (k1:∀ h h' g,R1 h g→(∀ c o,c≠z→c≠TO→c≠i1→c≠i2→h.get? c=some o→h'.get? c=some o)→R1 h' g) (k2:∀ h h' g,R2 h g→(∀ c o,c≠z→c≠TO→c≠i1→c≠i2→h.get? c=some o→h'.get? c=some o)→R2 h' g)
  (hz:IsZip s.heap z TI TO .none) (hTI:IsPair s.heap TI (.ref i1) (.ref i2)) (hTO:IsPair s.heap TO a b) (h1:S1 k s.heap) (h2:S2 k s.heap) (r1:R1 s.heap g1) (r2:R2 s.heap g2) (hend:g1 k=none∨g2 k=none)
  (hQ:∀ h' tk,(∀ c o,c≠z→c≠TO→c≠i1→c≠i2→s.heap.get? c=some o→h'.get? c=some o)→Q none { s with heap:=h',toks:=tk }):wpAny (model prog w) A (pyNext (.ref z)) Q E s:=by
 have hT:s.TypeIs (.ref z) "zip":=⟨_,hz,rfl⟩
 unfold pyNext
 refine wpAny_bind (wpAny_attempt (wpAny_callSpecial?_slot (name:=Str.ofString "__next__") hT F.slot_zip_next (wpAny_call_entry F.slot_zip_next hT F.entry_zip_next ?_ (F.args_zip_next_1 _))))
 show wpAny _ _ (field (.ref z) 2 >>= _) _ _ _
 refine wpAny_bind (wpAny_field hz rfl (x := .bool false) rfl ?_)
 show wpAny _ _ (field (.ref z) 3 >>= _) _ _ _
 refine wpAny_bind (wpAny_field hz rfl (x := .ref TI) rfl ?_)
 refine wpAny_bind (wpAny_seqItems hTI rfl ?_)
 show wpAny _ _ (Builtin.SmallTypes.ownedTupleIsFree (.ref z) >>= _) _ _ _
 refine wpAny_bind ?_
 unfold Builtin.SmallTypes.ownedTupleIsFree
 refine wpAny_bind (wpAny_field hz rfl (x := .none) rfl (wpAny_pure ?_))
 simp only [if_true]
 refine wpAny_bind (wpAny_rule ?_)
 refine wpAny_bind (wpAny_field hz rfl (x := .ref TO) rfl ?_)
 refine wpAny_bind (wpAny_setField_rec hz (by simp) fun h₁ hz₁ hs₁=>?_)
 replace hz₁:IsZip h₁ z TI TO .ellipsis:=hz₁
 refine wpAny_bind ?_
 simp only [List.zipIdx_cons,List.zipIdx_nil,List.forIn_cons,List.forIn_nil]
 refine wpAny_bind (wpAny_bind (wpAny_onRaise ?_))
 show wpAny _ _ (Builtin.SmallTypes.nextOf (.ref i1) >>= _) _ _ _
 have S1₁:S1 k h₁:=U1.keep _ _ _ h1 fun o e=>hs₁.extBut _ _ D.c e
 have R1₁:R1 h₁ g1:=k1 _ _ _ r1 fun c o c1 _ _ _ e=>hs₁.extBut _ _ c1 e
 cases hx:g1 k with
 | none =>
  refine wpAny_bind (U1.fin _ k { s with heap:=h₁ } g1 _ _ hh S1₁ R1₁ hx fun h₂ e hs₂ he=>?_)
  obtain ⟨oe,hoe,hce⟩:=he
  have hz₂:IsZip h₂ z TI TO .ellipsis:=hs₂ _ _ D.c.symm hz₁
  have hez:e≠z:=fun x=>by subst x;rw [hz₂] at hoe;cases hoe;simp at hce
  refine wpAny_setField_rec hz₂ (by simp) fun h₃ _ hs₃=>?_
  refine wpAny_bind (wpAny_isInstance (T:="StopIteration") (b:=true) ⟨oe,hs₃.extBut _ _ hez hoe,hce⟩ isSubtype_stop ?_)
  exact wpAny_pure (hQ h₃ s.toks fun c o c1 _ c3 _ x=>hs₃.extBut _ _ c1 (hs₂ _ _ c3 (hs₁.extBut _ _ c1 x)))
 | some x =>
  have hy:g2 k=none:=by rcases hend with h | h;rw [hx] at h;cases h;exact h
  refine wpAny_bind (U1.item _ k { s with heap:=h₁ } g1 x _ _ S1₁ R1₁ hx fun h₂ tk₂ S1₂ hs₂=>wpAny_pure ?_)
  have hTO₂:IsPair h₂ TO a b:=hs₂.extBut _ _ D.h (hs₁.extBut _ _ D.b hTO)
  refine wpAny_bind (wpAny_seqItems hTO₂ rfl ?_)
  refine wpAny_bind (wpAny_updateSeq_pair hTO₂ fun h₃ hTO₃ hs₃=>?_)
  refine wpAny_bind (wpAny_letGo (wpAny_pure ?_))
  refine wpAny_bind (wpAny_bind (wpAny_onRaise ?_))
  show wpAny _ _ (Builtin.SmallTypes.nextOf (.ref i2) >>= _) _ _ _
  have kk₃:∀ c o,c≠z→c≠TO→c≠i1→c≠i2→s.heap.get? c=some o→h₃.get? c=some o:=fun c o c1 c2 c3 c4 e=>hs₃.extBut _ _ c2 (hs₂.extBut _ _ c3 (hs₁.extBut _ _ c1 e))
  have S2₃:S2 k h₃:=U2.keep _ _ _ h2 fun o e=>hs₃.extBut _ _ D.i.symm (hs₂.extBut _ _ D.j.symm (hs₁.extBut _ _ D.d e))
  refine wpAny_bind (U2.fin _ k { s with heap:=h₃,toks:=tk₂ } g2 _ _ hh S2₃ (k2 _ _ _ r2 kk₃) hy fun h₄ e hs₄ he=>?_)
  obtain ⟨oe,hoe,hce⟩:=he
  have hz₄:IsZip h₄ z TI TO .ellipsis:=hs₄ _ _ D.d.symm (hs₃.extBut _ _ D.b.symm (hs₂.extBut _ _ D.c.symm hz₁))
  have hez:e≠z:=fun x=>by subst x;rw [hz₄] at hoe;cases hoe;simp at hce
  refine wpAny_setField_rec hz₄ (by simp) fun h₅ _ hs₅=>?_
  refine wpAny_bind (wpAny_isInstance (T:="StopIteration") (b:=true) ⟨oe,hs₅.extBut _ _ hez hoe,hce⟩ isSubtype_stop ?_)
  exact wpAny_pure (hQ h₅ tk₂ fun c o c1 c2 c3 c4 x=>hs₅.extBut _ _ c1 (hs₄ _ _ c4 (kk₃ c o c1 c2 c3 c4 x)))
end
end L2
namespace L2
open PySem PySem.Spec PyProof.Rows
abbrev zpH (h:Heap) (o1 o2:Obj):Heap:=((h.push o1).push o2)
abbrev zpT (h:Heap) (o1 o2:Obj):Heap:=(zpH h o1 o2).push { cls := .type "tuple",data := .seq #[.ref h.objs.size,.ref (h.push o1).objs.size] }
abbrev zpO (h:Heap) (o1 o2:Obj):Heap:=(zpT h o1 o2).push { cls := .type "tuple",data := .seq #[.none,.none] }
abbrev zpZ (h:Heap) (o1 o2:Obj):Heap:=(zpO h o1 o2).push { cls := .type "zip",data := .fields #[.none,.bool false,.bool false,.ref (zpH h o1 o2).objs.size,.ref (zpT h o1 o2).objs.size] }
def X9 (h:Heap) (v:Value) (o:Obj):Prop:=∀ (prog:Program) (w:World) (A:Around) (E:Value→Shared→Prop) (s:Shared) (Q:Value→Shared→Prop),(∀ b ob,h.get? b=some ob→s.heap.get? b=some ob) →
 Q (.ref s.heap.objs.size) { s with heap:=s.heap.push o }→wpAny (model prog w) A (pyIter v) Q E s
theorem Vv {h:Heap} {t:Addr} {items:Array Value} (ht:h.IsList t items):X9 h (.ref t) { cls := .type "list_iterator",data := .fields #[.ref t,.int 0 0] }:=fun prog w A E s Q k q=>by
 obtain ⟨o,e,r⟩:=ht
 exact wpAny_pyIter_list (items:=items) ⟨o,k _ _ e,r⟩ q
theorem YaN (v1 v2:Value) (o1 o2:Obj) :
  Meets (Builtin.«zip.__new__» ⟨[.type "zip",v1,v2],[]⟩) (fun _ R s=>X9 s.heap v1 o1∧X9 s.heap v2 o2∧R (.ok (.ret (.ref (zpO s.heap o1 o2).objs.size))) { s with heap:=zpZ s.heap o1 o2 }) :=
 .of_wp fun prog w A R s h=>by
  obtain ⟨hp,g,d,tk,os⟩:=s
  obtain ⟨h1,h2,h⟩:=h
  have hsub:=sub_zip
  have p1:∀ {A':Around} {E:Value→Shared→Prop} {Q:Value→Shared→Prop},Q (.ref hp.objs.size) ⟨hp.push o1,g,d,tk,os⟩→wpAny (model prog w) A' (pyIter v1) Q E ⟨hp,g,d,tk,os⟩:=fun q=>h1 prog w _ _ ⟨hp,g,d,tk,os⟩ _ (fun _ _ e=>e) q
  have p2:∀ {A':Around} {E:Value→Shared→Prop} {Q:Value→Shared→Prop},Q (.ref (hp.push o1).objs.size) ⟨(hp.push o1).push o2,g,d,tk,os⟩→wpAny (model prog w) A' (pyIter v2) Q E ⟨hp.push o1,g,d,tk,os⟩:=fun q=>h2 prog w _ _ ⟨hp.push o1,g,d,tk,os⟩ _ (fun _ _ e=>Heap.get?_push_of_some _ e) q
  wp_walk using p1,p2
  exact ⟨_,rfl,h⟩
section
variable {prog:Program} {w:World} {A:Around} {E:Value→Shared→Prop} {s:Shared}
theorem YbB {v1 v2:Value} {o1 o2:Obj} {Q:Value→Shared→Prop} (p1:X9 s.heap v1 o1) (p2:X9 s.heap v2 o2) (f1:o1.isFreed=false) (f2:o2.isFreed=false)
  (h:∀ h',IsZip h' (s.heap.objs.size+4) (s.heap.objs.size+2) (s.heap.objs.size+3) .none→IsPair h' (s.heap.objs.size+2) (.ref s.heap.objs.size) (.ref (s.heap.objs.size+1))→IsPair h' (s.heap.objs.size+3) .none .none →
   h'.get? s.heap.objs.size=some o1→h'.get? (s.heap.objs.size+1)=some o2→h'.objs.size=s.heap.objs.size+5→(∀ c o,s.heap.get? c=some o→h'.get? c=some o)→Q (.ref (s.heap.objs.size+4)) { s with heap:=h' }) :
  wpAny (model prog w) A (call (.type "zip") [v1,v2]) Q E s:=by
 refine callType_new F.called_zip (by decide) (F.typeCall_zip_2 _ _) (F.newCall_zip_2 _ _) (fun obj=>F.args_object_init_3 obj _ _) F.entry_zip_new (YaN v1 v2 o1 o2) ⟨p1,p2,?_⟩
 have z1:(s.heap.push o1).objs.size=s.heap.objs.size+1:=Heap.size_push ..
 have z2:(zpH s.heap o1 o2).objs.size=s.heap.objs.size+2:=by rw [Heap.size_push,z1]
 have z3:(zpT s.heap o1 o2).objs.size=s.heap.objs.size+3:=by rw [Heap.size_push,z2]
 have z4:(zpO s.heap o1 o2).objs.size=s.heap.objs.size+4:=by rw [Heap.size_push,z3]
 have z5:(zpZ s.heap o1 o2).objs.size=s.heap.objs.size+5:=by rw [Heap.size_push,z4]
 have g5:(zpZ s.heap o1 o2).get? (zpO s.heap o1 o2).objs.size=some _:=Heap.get?_push_size _ rfl
 have g4:(zpZ s.heap o1 o2).get? (zpT s.heap o1 o2).objs.size=some _:=Heap.get?_push_of_some _ (Heap.get?_push_size _ rfl)
 have g3:(zpZ s.heap o1 o2).get? (zpH s.heap o1 o2).objs.size=some _:=Heap.get?_push_of_some _ (Heap.get?_push_of_some _ (Heap.get?_push_size _ rfl))
 have g2:(zpZ s.heap o1 o2).get? (s.heap.push o1).objs.size=some o2:=Heap.get?_push_of_some _ (Heap.get?_push_of_some _ (Heap.get?_push_of_some _ (Heap.get?_push_size _ f2)))
 have g1:(zpZ s.heap o1 o2).get? s.heap.objs.size=some o1:=Heap.get?_push_of_some _ (Heap.get?_push_of_some _ (Heap.get?_push_of_some _ (Heap.get?_push_of_some _ (Heap.get?_push_size _ f1))))
 show _∧_
 rw [z2,z3,z4] at g5
 rw [z1,z2] at g3
 rw [z3] at g4
 rw [z1] at g2
 rw [z4]
 exact ⟨⟨_,g5,rfl⟩,h _ g5 g3 g4 g1 g2 z5 fun c o x=>Heap.get?_push_of_some _ (Heap.get?_push_of_some _ (Heap.get?_push_of_some _ (Heap.get?_push_of_some _ (Heap.get?_push_of_some _ x))))⟩
end
section
variable {X:Cx} {pins:List (Addr×Obj)} {σ:St} {H:Hp} {s:Shared} {h':Heap}
theorem Inv.turnedL {t':Nat} {ch:List Addr} (I:Inv X pins σ H s) (k:∀ b o,b∉ch→s.heap.get? b=some o→h'.get? b=some o) (hf:∀ b∈ch,XJ X pins H b):Inv X pins σ H { s with heap:=h',toks:=t' }:=by
 have nit:∀ b u,H b=some u→b∉ch:=fun b u e z=>by rw [(hf b z).1] at e;cases e
 refine I.step (g':=s.gens) (d':=s.drawn) (ch:=ch) (fun b hb=>?_) (fun b o _ _ hc e _=>k b o hc e) (fun b o _ _ hc e _=>⟨o.slots,k b o hc e⟩) (fun _ _ _ _ n=>n)
  (fun b o hc e=>⟨o,k b o hc e⟩) (fun _ _ e=>e) (fun _ _ _ e=>e) (fun b ps e=>⟨#[],by rw [e];simp⟩) (fun m hm=>?_) (fun b u e=>?_) I.bare
 ·obtain ⟨f0,f1,f2,f3,f4,f5⟩:=hf b hb
  exact ⟨f3,f1,f4,f5⟩
 ·obtain ⟨o,es,ep,ho,r⟩:=hm
  exact ⟨o,es,ep,k _ o (fun z=>(hf _ z).2.1 rfl) ho,r⟩
 ·refine (I.hok b u e).stay (fun c v hc q=>k c v ?_ q) (fun _ q=>q) fun _ _ q=>q
  rcases hc with z | z
  ·rw [z];exact nit b u e
  ·exact nit c _ z
theorem Inv.turnedT {t':Nat} {ch:List Addr} {T:Addr} {vs:List V} (I:Inv X pins σ H s) (k:∀ b o,b∉ch→s.heap.get? b=some o→h'.get? b=some o) (hf:∀ b∈ch,XJ X pins H b) (hT:s.heap.objs.size≤T)
  (new:YG X.prog X.w (upd H T (.tup vs)) h' T (.tup vs)):Inv X pins σ (upd H T (.tup vs)) { s with heap:=h',toks:=t' }:=by
 have hn:H T=none:=I.hok.fresh hT
 have nit:∀ b u,H b=some u→b∉ch:=fun b u e z=>by rw [(hf b z).1] at e;cases e
 have nT:∀ b o,s.heap.get? b=some o→b≠T:=fun b o e z=>absurd (Heap.lt_size e) (by rw [z];exact Nat.not_lt.mpr hT)
 have up:∀ b u,H b=some u→upd H T (.tup vs) b=some u:=fun b u e=>by rw [Yb (Yh e hn)];exact e
 refine I.step (g':=s.gens) (d':=s.drawn) (ch:=ch) (fun b hb=>?_) (fun b o _ _ hc e _=>k b o hc e) (fun b o _ _ hc e _=>⟨o.slots,k b o hc e⟩) (fun b o _ e n=>by rw [Yb (nT b o e)];exact n)
  (fun b o hc e=>⟨o,k b o hc e⟩) (fun b xs e=>up b _ e) (fun b o u e=>up b _ e) (fun b ps e=>⟨#[],by rw [up b _ e];simp⟩) (fun m hm=>?_) (fun b u e=>?_) I.bare
 ·obtain ⟨f0,f1,f2,f3,f4,f5⟩:=hf b hb
  exact ⟨f3,f1,f4,f5⟩
 ·obtain ⟨o,es,ep,ho,r⟩:=hm
  exact ⟨o,es,ep,k _ o (fun z=>(hf _ z).2.1 rfl) ho,r⟩
 ·by_cases hb:b=T
  ·subst hb;rw [Yc] at e;cases e;exact new
  ·rw [Yb hb] at e
   refine (I.hok b u e).stay (fun c v hc q=>k c v ?_ q) (fun c q=>up c _ q) fun c xs q=>up c _ q
   rcases hc with z | z
   ·rw [z];exact nit b u e
   ·exact nit c _ z
end
def Itz (G1 G2:Hp→List V→Prop):It :=
 ⟨fun i H=>∃ xs ys x y,G1 H xs∧G2 H ys∧xs[i]?=some x∧ys[i]?=some y,fun i H v H'=>∃ T,v = .ref T∧H T=none∧∀ xs ys x y,G1 H xs→G2 H ys→xs[i]?=some x→ys[i]?=some y→H'=upd H T (.tup [x,y]),
  fun i H=>∃ xs ys,G1 H xs∧G2 H ys∧(xs.length≤i∨ys.length≤i)⟩
structure Part (K:PySem.W.Frag) (G:Hp→List V→Prop) (Si:Addr→Nat→Heap→Prop) (R:Heap→(Nat→Option Value)→Prop) (own:Addr):Prop where
 sub:∀ (P:Program) (w:World) (i:Addr),Sub P w i (Si i) R
 ready:∀ (X:Cx),X.K=K→∀ (pins:List (Addr×Obj)) (σ:St) (H:Hp) (s:Shared) (xs:List V),Inv X pins σ H s→G H xs→∃ us:List Value,Ym xs us∧R s.heap (fun k=>us[k]?)
 inj:∀ (X:Cx),X.K=K→∀ (pins:List (Addr×Obj)) (σ:St) (H:Hp) (s:Shared) (xs ys:List V),Inv X pins σ H s→G H xs→G H ys→xs=ys
 keep:∀ h h' g,R h g→(∀ o,h.get? own=some o→h'.get? own=some o)→R h' g
theorem UU {K:PySem.W.Frag} (a:Addr):Part K (fun H xs=>SqL K H a xs) (fun i k h=>h.IsListIter i a k) (fun h get=>∃ items:Array Value,h.IsList a items∧∀ k,get k=items[k]?) a where
 sub:=fun P w i=>Yck i a
 ready:=fun X hK pins σ H s xs I hq=>by
  subst hK
  obtain ⟨its,r,ht,_⟩:=I.list hq
  exact ⟨its,r,its.toArray,ht.isList,fun k=>by simp⟩
 inj:=fun X hK pins σ H s xs ys I h1 h2=>by subst hK;exact I.list_inj h1 h2
 keep:=fun h h' g ⟨items,⟨o,e,r⟩,q⟩ k=>⟨items,⟨o,k o e,r⟩,q⟩
theorem Ycm {P:Program} {w:World} {K:PySem.W.Frag} {elts:List Expr} {kk:Nat} {pos:Pos} {G1 G2:Hp→List V→Prop} {S1 S2:Addr→Nat→Heap→Prop} {R1 R2:Heap→(Nat→Option Value)→Prop} {a1 a2:Addr}
  (p1:Part K G1 S1 R1 a1) (p2:Part K G2 S2 R2 a2) {z TI TO i1 i2:Addr} (D:ZApart z TI TO i1 i2) (n1:a1∉[z,TO,i1,i2]) (n2:a2∉[z,TO,i1,i2]) :
  Turn P w K (.Tuple elts kk pos) (Itz G1 G2) [z,TI,TO,i1,i2] z (fun i h=>IsZip h z TI TO .none∧IsPair h TI (.ref i1) (.ref i2)∧(∃ a b,IsPair h TO a b)∧S1 i1 i h∧S2 i2 i h) where
 mem:=by simp
 obj:=fun i h ⟨hz,hTI,⟨a,b,hTO⟩,h1,h2⟩ c hc=>by
  simp only [List.mem_cons,List.not_mem_nil,or_false] at hc
  rcases hc with rfl | rfl | rfl | rfl | rfl
  ·exact ⟨_,hz,fun v e=>by cases e⟩
  ·exact ⟨_,hTI,fun v e=>by cases e⟩
  ·exact ⟨_,hTO,fun v e=>by cases e⟩
  ·exact (p1.sub P w _).obj _ _ h1
  ·exact (p2.sub P w _).obj _ _ h2
 keep:=fun i h h' ⟨hz,hTI,⟨a,b,hTO⟩,h1,h2⟩ q =>
  ⟨q z (by simp) _ hz,q TI (by simp) _ hTI,⟨a,b,q TO (by simp) _ hTO⟩,(p1.sub P w i1).keep _ _ _ h1 (q i1 (by simp)),(p2.sub P w i2).keep _ _ _ h2 (q i2 (by simp))⟩
 item:=by
  intro X hP hw hK hc i pins s σ H E I hf ⟨hz,hTI,⟨a,b,hTO⟩,h1,h2⟩ hg
  subst hP hw
  obtain ⟨xs,ys,x,y,g1,g2,hx,hy⟩:=hg
  obtain ⟨us1,r1,rd1⟩:=p1.ready X hK pins σ H s xs I g1
  obtain ⟨us2,r2,rd2⟩:=p2.ready X hK pins σ H s ys I g2
  obtain ⟨u,hu,ru⟩:=r1.get hx
  obtain ⟨v,hv,rv⟩:=r2.get hy
  have out:∀ c,c≠z→c≠TO→c≠i1→c≠i2→c∉[z,TO,i1,i2]:=fun c c1 c2 c3 c4 hm=>by
   simp only [List.mem_cons,List.not_mem_nil,or_false] at hm
   rcases hm with e | e | e | e<;>contradiction
  have sep:∀ {c:Addr},c∉[z,TO,i1,i2]→c≠z∧c≠TO∧c≠i1∧c≠i2:=fun hm=>⟨fun e=>hm (by simp [e]),fun e=>hm (by simp [e]),fun e=>hm (by simp [e]),fun e=>hm (by simp [e])⟩
  obtain ⟨m1,m2,m3,m4⟩:=sep n1
  obtain ⟨m5,m6,m7,m8⟩:=sep n2
  refine Ycl (k:=i) D (p1.sub _ _ i1) (p2.sub _ _ i2) (fun h h' g r q=>p1.keep _ _ _ r fun o e=>q a1 o m1 m2 m3 m4 e) (fun h h' g r q=>p2.keep _ _ _ r fun o e=>q a2 o m5 m6 m7 m8 e) hz hTI hTO h1 h2 rd1 rd2 hu hv fun h' tk hz' hTO' h1' h2' hT' hsz keep=>?_
  refine ⟨_,rfl,?_⟩
  refine wpAny_letOwnedTupleGo_zip (s:={ s with heap:=h',toks:=tk }) hz' fun h'' hz'' sb=>?_
  have zlt:z<s.heap.objs.size:=Heap.lt_size hz
  have kp:∀ c o,c∉[z,TO,i1,i2]→s.heap.get? c=some o→h''.get? c=some o:=fun c o hm e=>by
   obtain ⟨c1,c2,c3,c4⟩:=sep hm
   exact sb.extBut c o c1 (keep c o c1 c2 c3 c4 e)
  have hT'':IsPair h'' s.heap.objs.size u v:=sb.extBut _ _ (Nat.ne_of_gt zlt) hT'
  have fp4:∀ c∈[z,TO,i1,i2],XJ X pins H c:=fun c hm=>hf c (by
   simp only [List.mem_cons,List.not_mem_nil,or_false] at hm ⊢
   rcases hm with e | e | e | e<;>simp [e])
  have I':=I.turnedT (t':=tk) (h':=h'') (T:=s.heap.objs.size) (vs:=[x,y]) kp fp4 (Nat.le_refl _) (show YG X.prog X.w _ h'' _ (.tup [x,y]) from ⟨by show 2≤sizeLine;decide,[u,v],.cons ru (.cons rv .nil),_,hT'',rfl,_,rfl⟩)
  have fresh:H s.heap.objs.size=none:=I.hok.fresh (Nat.le_refl _)
  refine ⟨.ref s.heap.objs.size,_,I',rfl,⟨_,rfl,fresh,fun xs' ys' x' y' g1' g2' hx' hy'=>?_⟩,⟨hz'',sb.extBut _ _ D.a (keep _ _ D.a D.e D.f D.g hTI),⟨_,_,sb.extBut _ _ D.b hTO'⟩,(p1.sub X.prog X.w i1).keep _ _ _ h1' fun o e=>sb.extBut _ _ D.c e,(p2.sub X.prog X.w i2).keep _ _ _ h2' fun o e=>sb.extBut _ _ D.d e⟩,fun c hm=>?_⟩
  ·rw [p1.inj X hK pins σ H s _ _ I g1' g1,hx] at hx'
   rw [p2.inj X hK pins σ H s _ _ I g2' g2,hy] at hy'
   cases hx'
   cases hy'
   rfl
  ·have h0:=(hf c hm).1
   have clt:c<s.heap.objs.size:=by
    simp only [List.mem_cons,List.not_mem_nil,or_false] at hm
    rcases hm with rfl | rfl | rfl | rfl | rfl
    ·exact zlt
    ·exact Heap.lt_size hTI
    ·exact Heap.lt_size hTO
    ·obtain ⟨o,e,_⟩:=(p1.sub X.prog X.w _).obj _ _ h1;exact Heap.lt_size e
    ·obtain ⟨o,e,_⟩:=(p2.sub X.prog X.w _).obj _ _ h2;exact Heap.lt_size e
   rw [Yb (Nat.ne_of_lt clt)]
   exact h0
 done:=by
  intro X hP hw hK hc i pins s σ H E I hf ⟨hz,hTI,⟨a,b,hTO⟩,h1,h2⟩ hg
  subst hP hw
  obtain ⟨xs,ys,g1,g2,hend⟩:=hg
  obtain ⟨us1,r1,rd1⟩:=p1.ready X hK pins σ H s xs I g1
  obtain ⟨us2,r2,rd2⟩:=p2.ready X hK pins σ H s ys I g2
  have sep:∀ {c:Addr},c∉[z,TO,i1,i2]→c≠z∧c≠TO∧c≠i1∧c≠i2:=fun hm=>⟨fun e=>hm (by simp [e]),fun e=>hm (by simp [e]),fun e=>hm (by simp [e]),fun e=>hm (by simp [e])⟩
  obtain ⟨m1,m2,m3,m4⟩:=sep n1
  obtain ⟨m5,m6,m7,m8⟩:=sep n2
  have l1:=r1.length
  have l2:=r2.length
  refine Ydj (k:=i) (I.ok.hd hc) D (p1.sub _ _ i1) (p2.sub _ _ i2) (fun h h' g r q=>p1.keep _ _ _ r fun o e=>q a1 o m1 m2 m3 m4 e) (fun h h' g r q=>p2.keep _ _ _ r fun o e=>q a2 o m5 m6 m7 m8 e) hz hTI hTO h1 h2 rd1 rd2 ?_ fun h' tk keep=>?_
  ·rcases hend with e | e
   ·exact .inl (by simp;omega)
   ·exact .inr (by simp;omega)
  ·refine ⟨rfl,I.turnedL (ch:=[z,TO,i1,i2]) (fun c o hm e=>?_) fun c hm=>hf c (by
    simp only [List.mem_cons,List.not_mem_nil,or_false] at hm ⊢
    rcases hm with e | e | e | e<;>simp [e])⟩
   obtain ⟨c1,c2,c3,c4⟩:=sep hm
   exact keep c o c1 c2 c3 c4 e
 self:=fun A i s Q E ⟨hz,_⟩ q=>wpAny_pyIter_zip hz q
end L2
namespace L2
open PySem PySem.Spec PyProof.Rows
section
variable {X:Cx} {elts:List Expr} {kk:Nat} {tpos:Pos}
theorem YaO (n:Nat):ZApart (n+4) (n+2) (n+3) n (n+1):=by
 constructor<;>(intro e;have e':@Eq Nat _ _:=e;omega)
def YcW (K:PySem.W.Frag) (ta:TA):TI:=fun σ H R=>ta σ H fun vs H1=>∃ a b xs ys,vs=[.ref a,.ref b]∧SqL K H1 a xs∧SqL K H1 b ys∧R (Itz (fun H xs=>SqL K H a xs) (fun H ys=>SqL K H b ys)) H1
theorem Ydk {pins:List (Addr×Obj)} {σ:St} {H:Hp} {s:Shared} {R:It→Hp→Prop} {E:Value→Shared→Prop} {G1 G2:Hp→List V→Prop} {S1 S2:Addr→Nat→Heap→Prop} {R1 R2:Heap→(Nat→Option Value)→Prop} {a b:Addr} {o1 o2:Obj}
  (I:Inv X pins σ H s) (p1:Part X.K G1 S1 R1 a) (p2:Part X.K G2 S2 R2 b) (t1:X9 s.heap (.ref a) o1) (t2:X9 s.heap (.ref b) o2) (f1:o1.isFreed=false) (f2:o2.isFreed=false) (la:a<s.heap.objs.size) (lb:b<s.heap.objs.size)
  (s1:∀ h i,h.get? i=some o1→S1 i 0 h) (s2:∀ h i,h.get? i=some o2→S2 i 0 h) (q:R (Itz G1 G2) H) :
  wpAny (model X.prog X.w) X.A (call (.type "zip") [.ref a,.ref b]) (fun v s1=>wpAny (model X.prog X.w) X.A (pyIter v) (PIE X pins σ (.Tuple elts kk tpos) R) E s1) E s:=by
 refine YbB t1 t2 f1 f2 fun h' hz hTI hTO g1 g2 hsz keep=>?_
 refine wpAny_pyIter_zip hz ?_
 have I1:Inv X pins σ H { s with heap:=h' }:=I.kept (t':=s.toks) keep
 refine ⟨_,[s.heap.objs.size+4,s.heap.objs.size+2,s.heap.objs.size+3,s.heap.objs.size,s.heap.objs.size+1],_,_,H,rfl,I1,Ycm (K:=X.K) p1 p2 (YaO s.heap.objs.size) ?_ ?_,⟨hz,hTI,⟨_,_,hTO⟩,s1 _ _ g1,s2 _ _ g2⟩,fun c hc=>?_,q⟩
 ·intro hm
  simp only [List.mem_cons,List.not_mem_nil,or_false] at hm
  rcases hm with e | e | e | e<;>(have e':@Eq Nat _ _:=e;have la':@LT.lt Nat _ a s.heap.objs.size:=la;have lb':@LT.lt Nat _ b s.heap.objs.size:=lb;omega)
 ·intro hm
  simp only [List.mem_cons,List.not_mem_nil,or_false] at hm
  rcases hm with e | e | e | e<;>(have e':@Eq Nat _ _:=e;have la':@LT.lt Nat _ a s.heap.objs.size:=la;have lb':@LT.lt Nat _ b s.heap.objs.size:=lb;omega)
 ·have hle:s.heap.objs.size≤c:=by
   simp only [List.mem_cons,List.not_mem_nil,or_false] at hc
   rcases hc with e | e | e | e | e<;>(have e':@Eq Nat _ _:=e;show @LE.le Nat _ s.heap.objs.size c;omega)
  exact I.fpOk hle (I.hok.fresh hle)
theorem Ydl {a b:Expr} {ta:TA} {p pos:Pos} (hg:Gl X "zip") (hm:X.mg "zip"=none) (ha:PA X [a,b] ta) (hs:starEach [a,b] X.env=[(false,eval a X.env),(false,eval b X.env)]) (hs2:starEach [b] X.env=[(false,eval b X.env)]) :
  PI X (.Tuple elts kk tpos) (.Call (.Name "zip" p) [a,b] [] pos) (YcW X.K ta):=by
 intro pins s σ H R I h
 refine Call_ (WU I hg hm boot_zip (PyProof.Rows.callWith_type1 (thn (ha pos pins s σ H _ I h) fun us s1 ⟨vs,H1,I1,r1,q1⟩=>?_) (by rw [hs,hs2]) (by rw [hs2];rfl)))
 obtain ⟨x,y,xs,ys,e,hx,hy,q⟩:=q1
 subst e
 obtain ⟨u,v,rfl,ru,rv⟩:=r1.two
 cases ru
 cases rv
 obtain ⟨i1,_,ht1,_⟩:=I1.list hx
 obtain ⟨i2,_,ht2,_⟩:=I1.list hy
 have l1:x<s1.heap.objs.size:=by obtain ⟨_,e,_⟩:=ht1.isList;exact Heap.lt_size e
 have l2:y<s1.heap.objs.size:=by obtain ⟨_,e,_⟩:=ht2.isList;exact Heap.lt_size e
 exact Ydk I1 (UU x) (UU y) (Vv ht1.isList) (Vv ht2.isList) rfl rfl l1 l2 (fun h i e=>⟨_,e,rfl,rfl⟩) (fun h i e=>⟨_,e,rfl,rfl⟩) q
theorem VJ {J:It} {P:Hp→Prop} {xs:List V} (hJ:Wr J P xs) {src:List (Option Nat)} {g:TG} {te:TE} {σ:St} {H1:Hp} {Q:VK} {D:Addr} (Pv:Nat→List V→St→Hp→Prop)
  (h0:Pv 0 [] (Yy src σ) (upd H1 D (.lst []))) (hP:∀ i ys σ' H',Pv i ys σ' H'→P H'∧H' D=some (.lst ys))
  (mono:∀ x σ H Q Q',(∀ σ' H',Q σ' H'→Q' σ' H')→g x σ H Q→g x σ H Q')
  (step:∀ i ys σ' H' x,xs[i]?=some x→Pv i ys σ' H'→g x σ' H' fun σ2 H4=>te σ2 H4 fun y H6=>H6 D=some (.lst ys)∧ys.length<sizeLine∧Pv (i+1) (ys++[y]) σ2 (upd H6 D (.lst (ys++[y]))))
  (fin:∀ ys σ' H',Pv xs.length ys σ' H'→Q (.ref D) H'):LC src J g Wp te σ H1 Q D :=
 YcV hJ Pv h0 hP (fun i ys σ' H' x hx p=>by
  refine mono _ _ _ _ _ ?_ (step i ys σ' H' x hx p)
  intro σ2 H4 q
  unfold Wp
  dsimp only
  rw [if_pos rfl]
  exact q) fin
theorem Wt (i:Nat):∀ x σ H Q Q',(∀ σ' H',Q σ' H'→Q' σ' H')→Yv i x σ H Q→Yv i x σ H Q':=fun _ _ _ _ _ h q=>h _ _ q
end
end L2
namespace L2
open PySem PySem.Spec PyProof.Rows
structure Gx where
 P:Program
 w:World
 K:PySem.W.Frag
 mg:Str→Option Value
 base:Heap
def Cx.gx (X:Cx):Gx:=⟨X.prog,X.w,X.K,X.mg,X.base⟩
def Gx.Raw (g:Gx) (x qual:Str) (st:Stmt) (ps:List Str):Prop:=∃ f fd,Fun g.K x qual st f fd∧Xt g.K fd ps []∧g.mg x=some (.ref f)
def Gx.Fn (g:Gx) (k:Nat) (x:Str) (ps:List Str) (sp:Sp):Prop:=∃ f fd,FnOk g.P g.w g.K g.mg g.base CX0 k f fd ps sp∧Xt g.K fd ps []∧PySem.W.keepIn g.K (.ref f)=true∧g.mg x=some (.ref f)
def Gx.RawM (g:Gx) (C:Addr) (m qual:Str) (st:Stmt) (ps:List Str):Prop:=∃ f fd,Fun g.K m qual st f fd∧Xt g.K fd ps []∧Meth g.K C m f
def Gx.Me (g:Gx) (k:Nat) (C:Addr) (m:Str) (ps:List Str) (sp:Sp):Prop:=∃ f fd,FnOk g.P g.w g.K g.mg g.base CX0 k f fd ps sp∧Xt g.K fd ps []∧Meth g.K C m f
def Gx.RawI (g:Gx) (x:Str) (C:Addr) (qual:Str) (st:Stmt) (ps:List Str):Prop:=∃ f fd,Fun g.K "__init__" qual st f fd∧Xt g.K fd ps []∧Mk g.K C f∧g.mg x=some (.ref C)
def Gx.Ma (g:Gx) (k:Nat) (x:Str) (C:Addr) (ps:List Str) (sp:Sp):Prop:=∃ f fd,FnOk g.P g.w g.K g.mg g.base CX0 k f fd ps sp∧Xt g.K fd ps []∧Mk g.K C f∧g.mg x=some (.ref C)
abbrev Gx.cx (g:Gx) (N:List Str) (qual:Str) (st:Stmt) (f:Addr) (cdv:Value) (A:Around) (outer:List Env) (s:Shared) (H:Hp) (E:XK):Cx:=(Vs CX0 g.P g.w g.K g.mg g.base N qual (Yj st) f cdv A outer s H E).nox
def VW (g:Gx) (k:Nat) (N:List Str) (qual:Str) (st:Stmt) (sp:Sp):Prop:=∀ (f:Addr) (cdv:Value) (A:Around) (outer:List Env) (s:Shared) (H:Hp) (vs:List V) (Q:VK) (E:XK),Room k (g.cx N qual st f cdv A outer s H E).A→sp vs H Q E →
 ∃ t,PSs (g.cx N qual st f cdv A outer s H E) (Y6 st) t∧t { nx:=fun _ H'=>Q .non H',rt:=Q } (Wg N vs) H
section
variable {g:Gx} {k:Nat} {x qual m:Str} {st:Stmt} {N ps:List Str} {sp:Sp} {C:Addr}
theorem Gx.Raw.fn (R:g.Raw x qual st ps) (S:FnScope N ps (Yj st)) (len:∀ vs H Q E,sp vs H Q E→vs.length=ps.length) (b:VW g k N qual st sp):g.Fn (k+1) x ps sp:=by
 obtain ⟨f,fd,F,bd,hm⟩:=R
 exact ⟨f,fd,F.ok S len fun cdv A outer s H vs Q E hr h=>b f cdv A outer s H vs Q E hr h,bd,F.kp,hm⟩
theorem Gx.RawM.me (R:g.RawM C m qual st ps) (S:FnScope N ps (Yj st)) (len:∀ vs H Q E,sp vs H Q E→vs.length=ps.length) (b:VW g k N qual st sp):g.Me (k+1) C m ps sp:=by
 obtain ⟨f,fd,F,bd,hm⟩:=R
 exact ⟨f,fd,F.ok S len fun cdv A outer s H vs Q E hr h=>b f cdv A outer s H vs Q E hr h,bd,hm⟩
theorem Gx.RawI.ma (R:g.RawI x C qual st ps) (S:FnScope N ps (Yj st)) (len:∀ vs H Q E,sp vs H Q E→vs.length=ps.length) (b:VW g k N qual st sp):g.Ma (k+1) x C ps sp:=by
 obtain ⟨f,fd,F,bd,hm,hg⟩:=R
 exact ⟨f,fd,F.ok S len fun cdv A outer s H vs Q E hr h=>b f cdv A outer s H vs Q E hr h,bd,hm,hg⟩
theorem Gx.Fn.mono {j:Nat} (F:g.Fn j x ps sp) (h:j≤k):g.Fn k x ps sp:=by
 obtain ⟨f,fd,F,r⟩:=F
 exact ⟨f,fd,F.mono h,r⟩
theorem Gx.Me.mono {j:Nat} (F:g.Me j C m ps sp) (h:j≤k):g.Me k C m ps sp:=by
 obtain ⟨f,fd,F,r⟩:=F
 exact ⟨f,fd,F.mono h,r⟩
theorem Gx.RawM.none (R:g.RawM C m qual st ps) (no:∀ vs H Q E,¬ sp vs H Q E):g.Me k C m ps sp:=by
 obtain ⟨f,fd,F,bd,hm⟩:=R
 exact ⟨f,fd,⟨fun vs H Q E h=>absurd h (no vs H Q E),fun A outer s H args us vs Q E _ _ _ _ h=>absurd h (no vs H Q E)⟩,bd,hm⟩
end
section
variable {g:Gx} {X:Cx} {k j:Nat} {x m:Str} {ps:List Str} {sp:Sp} {C:Addr} {e o:Expr} {es:List Expr} {t:TA} {ta:TE} {p pos apos:Pos}
theorem YE (F:g.Fn j x ps sp) (hr:Room k X.A) (ha:PA X (e::es) t) (hj:j≤k) (hX:X.gx=g) (hg:Gl X x) (hdb:(x==("__debug__":Str))=false)
  (he:starEach (e::es) X.env=(false,eval e X.env)::starEach es X.env) (hpl:(backTo pos (starEach es X.env)).any (·.1)=false):PE X (.Call (.Name x p) (e::es) [] pos) (V5 sp [] E0 t):=by
 subst hX
 obtain ⟨f,fd,F,b,kp,hm⟩:=F
 exact Ydb F (hr.mono hj) hg hm kp b .nil V8 ha hdb he hpl
theorem YC {pl:Sem Bool} (F:g.Me j C m ps sp) (c:Cls g.K C) (hr:Room k X.A) (ho:PE X o ta) (ha:PA X (e::es) t) (hj:j≤k) (hX:X.gx=g)
  (hst:starEach (e::es) X.env=(false,eval e X.env)::starEach es X.env) (hpl:(backTo pos (starEach es X.env)).any (·.1)=false)
  (ht:eval (.Call (.Attribute o m apos) (e::es) [] pos) X.env=(do
   let ov ← eval o X.env
   standAt apos.atName
   let (f,first) ← holding [ov] (getMethod ov m pl)
   callWith pos f first (backTo pos (starEach (e::es) X.env)) (backToKw pos (keywordEach [] X.env)))):PE X (.Call (.Attribute o m apos) (e::es) [] pos) (Qd C m sp [] E0 ta t):=by
 subst hX
 obtain ⟨f,fd,F,b,hm⟩:=F
 exact Ydc ho c hm F (hr.mono hj) b .nil V8 ha hst hpl ht
theorem Ub (F:g.Ma j x C ps sp) (hr:Room k X.A) (ha:PA X (e::es) t) (hj:j+1≤k) (hX:X.gx=g) (hg:Gl X x) (hdb:(x==("__debug__":Str))=false)
  (he:starEach (e::es) X.env=(false,eval e X.env)::starEach es X.env) (hpl:(backTo pos (starEach es X.env)).any (·.1)=false):PE X (.Call (.Name x p) (e::es) [] pos) (V6 C sp [] E0 t):=by
 subst hX
 obtain ⟨f,fd,F,b,M,hm⟩:=F
 exact Ydd M F (hr.mono hj) hg hm b .nil V8 ha hdb he hpl
theorem YX {id:String} {r:List V→Hp→VK→Prop} (hm:g.mg x=none) (hc:XQ X (.builtin id) r) (ha:PA X (e::es) t) (hv:bootBuiltins x=some (.builtin id)) (hX:X.gx=g) (hg:Gl X x) (hn:x≠"__name__") (hdb:(x==("__debug__":Str))=false)
  (he:starEach (e::es) X.env=(false,eval e X.env)::starEach es X.env) (hpl:(backTo pos (starEach es X.env)).any (·.1)=false):PE X (.Call (.Name x p) (e::es) [] pos) (tCB r t):=by
 subst hX
 exact Ycd hc hg hm hv ha hn hdb he hpl
theorem Uc {T:String} {r:List V→Hp→VK→Prop} (hm:g.mg x=none) (hc:XQ X (.type T) r) (ha:PA X (e::es) t) (hv:bootBuiltins x=some (.type T)) (hX:X.gx=g) (hg:Gl X x) (hn:x≠"__name__") (hdb:(x==("__debug__":Str))=false)
  (he:starEach (e::es) X.env=(false,eval e X.env)::starEach es X.env) (hpl:(backTo pos (starEach es X.env)).any (·.1)=false):PE X (.Call (.Name x p) (e::es) [] pos) (tCB r t):=by
 subst hX
 exact Ybu hc hg hm hv ha hn hdb he hpl
theorem YaP {T:String} (hm:g.mg x=none) (hv:bootBuiltins x=some (.type T)) (hX:X.gx=g) (hg:Gl X x) (hn:x≠"__name__") (hdb:(x==("__debug__":Str))=false):PE X (.Name x pos) (tC (.ty T)):=by
 subst hX
 exact Yc6 hg hm hv rfl hn hdb
end
def S (l:List Nat):Str:=⟨l.toArray⟩
theorem YbC (l:List Nat):(S l).cps.toList=l:=by simp [S]
theorem YaQ (l:List Nat):(S l).length=l.length:=by simp [S,Str.length]
theorem S_app (a b:List Nat):S a++S b=S (a++b):=by
 show Str.append (S a) (S b)=S (a++b)
 simp [Str.append,S]
theorem Vb {a b:List Nat} (h:S a=S b):a=b:=by
 have:=congrArg (fun x:Str=>x.cps.toList) h
 simpa [YbC] using this
end L2
namespace L2
open PySem PySem.Spec PyProof.Rows
section
variable {K:PySem.W.Frag} {h:Heap} {mg:Str→Option Value} {P:Program} {w:World} {base:Heap} {f C:Addr} {x qual m:Str} {st:Stmt} {ps:List Str} {oc kV dc pm cd ct:Value} {od an:Option Addr} {sl:Array (Option Value)}
theorem Xd (X:K.In h) (G:h.Ns mainGlobals mg) (ps:List Str)
  (a:PySem.W.nsIn K mainGlobals x=some (some (.ref f))) (l:K.lookup f=some ⟨oc,od,.func (PySem.W.fnOf x x (Xi st) (Y6 st) (Yj st) .none kV dc pm an cd ct),sl⟩) (c:PySem.W.codeIn K cd x=true) (k:PySem.W.keepIn K (.ref f)=true)
  (b:∀ (kV doc pm:Value) (an:Option Addr) (cdv ct:Value) (us:List Value),us.length=ps.length→bindArgs (PySem.W.fnOf x x (Xi st) (Y6 st) (Yj st) .none kV doc pm an cdv ct) ⟨us,[]⟩=pure (ps.zip us)) :
  ∀ P w base,(Gx.mk P w K mg base).Raw x x st ps:=fun P w base =>
 have F:=Vu (st:=st) l c k
 ⟨f,_,F,F.binds b,PySem.W.mg_of X G a⟩
theorem Xe (X:K.In h) (G:h.Ns mainGlobals mg) (ps:List Str)
  (a:PySem.W.findIn K (.ref C) m=some (some (.ref f))) (i:PySem.W.isFn K (.ref f)=true) (l:K.lookup f=some ⟨oc,od,.func (PySem.W.fnOf m qual (Xi st) (Y6 st) (Yj st) .none kV dc pm an cd ct),sl⟩) (c:PySem.W.codeIn K cd qual=true) (k:PySem.W.keepIn K (.ref f)=true)
  (b:∀ (kV doc pm:Value) (an:Option Addr) (cdv ct:Value) (us:List Value),us.length=ps.length→bindArgs (PySem.W.fnOf m qual (Xi st) (Y6 st) (Yj st) .none kV doc pm an cdv ct) ⟨us,[]⟩=pure (ps.zip us)) :
  ∀ P w base,(Gx.mk P w K mg base).RawM C m qual st ps:=fun P w base =>
 have F:=Vu (st:=st) l c k
 ⟨f,_,F,F.binds b,⟨a,i,k⟩⟩
theorem Ww (X:K.In h) (G:h.Ns mainGlobals mg) (ps:List Str) (aC:PySem.W.nsIn K mainGlobals x=some (some (.ref C))) (mk:PySem.W.makesIn K C=true) (kc:PySem.W.keepIn K (.ref C)=true)
  (a:PySem.W.findIn K (.ref C) "__init__"=some (some (.ref f))) (i:PySem.W.isFn K (.ref f)=true) (l:K.lookup f=some ⟨oc,od,.func (PySem.W.fnOf "__init__" qual (Xi st) (Y6 st) (Yj st) .none kV dc pm an cd ct),sl⟩) (c:PySem.W.codeIn K cd qual=true) (k:PySem.W.keepIn K (.ref f)=true)
  (b:∀ (kV doc pm:Value) (an:Option Addr) (cdv ct:Value) (us:List Value),us.length=ps.length→bindArgs (PySem.W.fnOf "__init__" qual (Xi st) (Y6 st) (Yj st) .none kV doc pm an cdv ct) ⟨us,[]⟩=pure (ps.zip us)) :
  ∀ P w base,(Gx.mk P w K mg base).RawI x C qual st ps:=fun P w base =>
 have F:=Vu (st:=st) l c k
 ⟨f,_,F,F.binds b,⟨mk,a,i,kc⟩,PySem.W.mg_of X G aC⟩
end
def Ue (K:PySem.W.Frag):Sp:=fun vs H Q _=>∃ (a:Addr) (ns:List Int),vs=[.ref a]∧SqL K H a (ns.map V.int)∧ns.length≤63∧∀ H',Q (.bl true) H'
def YbD (K:PySem.W.Frag) (mg:Str→Option Value) (st:Stmt) (x n:Str):Prop:=∃ f fd,Fun K n n st f fd∧(∀ (s:Shared) (u:Value),BindsTo s fd ⟨[u],[]⟩ [(x,u)])∧mg n=some (.ref f)
theorem YbE {K:PySem.W.Frag} {h:Heap} {mg:Str→Option Value} {f:Addr} {x n:Str} {st:Stmt} {oc kV dc pm cd ct:Value} {od an:Option Addr} {sl:Array (Option Value)} (X:K.In h) (G:h.Ns mainGlobals mg)
  (a:PySem.W.nsIn K mainGlobals n=some (some (.ref f))) (l:K.lookup f=some ⟨oc,od,.func (PySem.W.fnOf n n (Xi st) (Y6 st) (Yj st) .none kV dc pm an cd ct),sl⟩) (c:PySem.W.codeIn K cd n=true) (k:PySem.W.keepIn K (.ref f)=true)
  (b:∀ (kV doc pm:Value) (an:Option Addr) (cdv ct:Value) (s:Shared) (u:Value),BindsTo s (PySem.W.fnOf n n (Xi st) (Y6 st) (Yj st) .none kV doc pm an cdv ct) ⟨[u],[]⟩ [(x,u)]):YbD K mg st x n :=
 ⟨f,_,Vu (st:=st) l c k,b kV dc pm an cd ct,PySem.W.mg_of X G a⟩
theorem Ydm {l:PySem.W.OpenLaw} {q:Program} {loose:List Str} {XP:(Str→Option Value)→Heap→Prop} {YP:World→Heap→Prop} {d:DefRec} {K:Params→PySem.W.Frag} (k:Nat) (x:Str) (st:Stmt) (N:List Str) (hn:l.most=some 63) (hdf:d.params.defaults=[]) (hk:Room (k+1) callerA) (S:FnScope N [x] (Yj st))
  (hY:∀ (w:World) (h:Heap),YP w h→(K w.params).In h)
  (F:∀ (w:World) (mg:Str→Option Value) (h:Heap),(K w.params).In h→h.Ns mainGlobals mg→YbD (K w.params) mg st x d.name∧∀ base,VW (Gx.mk l.prog w (K w.params) mg base) k N d.name st (Ue (K w.params))) :
  PySem.W.WalkO q loose XP YP l.row.toRowW d [] (fun f vs=>PySem.call f vs):=by
 refine L2.Ydh (n:=63) (k:=k+1) (x:=x) (CX:=fun _=>CX0) (sp:=fun w=>Ue (K w.params)) hn (by decide) hdf hk hY (fun w mg fa h KX G hmg=>?_) (fun _ _ a ns hl _ hS=>⟨a,ns,rfl,hS,hl,fun _=>rfl⟩) fun _ _ _ _ _ z=>z
 obtain ⟨⟨f,fd,Fu,hb,hm⟩,B⟩:=F w mg h KX G
 have e:=hmg.symm.trans hm
 cases e
 exact ⟨fd,hb,fun base _ _=>Fu.ok S (fun vs H Q E h=>by obtain ⟨a,ns,rfl,_⟩:=h;rfl) fun cdv A outer s H vs Q E hr h=>B base fa cdv A outer s H vs Q E hr h⟩
end L2
namespace L2
open PySem PySem.Spec PyProof.Rows
section
variable {X:Cx}
theorem Yae {a:Int} {m:Nat} (h:a.natAbs<2^m):Builtin.Int.intBits a≤m:=by
 unfold Builtin.Int.intBits
 split
 ·omega
 ·rename_i h0
  have h0:a.natAbs≠0:=by simpa using h0
  have:=(Nat.log2_lt h0).mpr h
  omega
def Qe (i j:Int):Prop:=∃ m n:Nat,i.natAbs<2^m∧j.natAbs<2^n∧m+n≤100000000
theorem Qe.ok {i j:Int} (h:Qe i j):IntMulOk i j:=by
 obtain ⟨m,n,h1,h2,h3⟩:=h
 exact IntMulOk.of_le (Yae h1) (Yae h2) (by omega)
def YcX (i j:Int):Prop:=0<j∧j.natAbs<2^9000
theorem Y4:OpR X (binaryOp .FloorDiv) (rI YcX fun i j => .int (i / j)):=opI fun i j _ _ _ _ _ hc q=>by
 have h1:(0:Int)<j:=hc.1
 have h2:=hc.2
 have h3:j.natAbs≠0:=by omega
 exact floordiv_int (by omega) (by rw [Int.fdiv_eq_ediv_of_nonneg i (by omega)];exact q) (.inl (PyProof.noPylong_of_log2 ((Nat.log2_lt h3).mpr h2)))
theorem YV {j:Int} (h:0<j) (h2:j<1073741824) {i:Int}:YcX i j:=⟨h,Nat.lt_of_lt_of_le (show j.natAbs<2^30 by omega) (Nat.pow_le_pow_right (by decide) (by decide))⟩
end
end L2
namespace L2
open PySem PySem.Spec PyProof.Rows
theorem Yd3 {CX:CXT} {P:Program} {w:World} {K:PySem.W.Frag} {mg:Str→Option Value} {base:Heap} {N:List Str} {qual:Str} {scope:Scope} {f:Addr} {cd:Value} {A:Around} {outer:List Env} {s:Shared} {H:Hp} {E:XK} :
  (Vs CX P w K mg base N qual scope f cd A outer s H E).K=K:=rfl
theorem nox_K {X:Cx}:X.nox.K=X.K:=rfl
section
variable {g:TG} {tb:TS} {D:Ends} {σ:St} {H:Hp}
theorem Wi {ta:TA} {n:Nat} (Pv:Nat→St→Hp→Prop) (ha:∀ R:List V→Hp→Prop,R [.int n] H→ta σ H R) (hn:n<2^62) (h0:Pv 0 σ H)
  (hs:∀ i σ H,i<n→Pv i σ H→g (.int i) σ H fun σ2 H2=>tb { D with nx:=Pv (i+1),ct:=Pv (i+1),bk:=D.nx } σ2 H2) (hd:∀ σ H,Pv n σ H→D.nx σ H):Vn (V1 ta) g tb D σ H:=by
 refine ha _ ⟨n,rfl,by omega,by omega,?_⟩
 refine Ybn (lo:=0) (n:=n) Pv h0 (fun i σ H hi p=>?_) hd
 have e:(0:Int)+i=i:=by omega
 rw [e];exact hs i σ H hi p
theorem WM {K:PySem.W.Frag} {tl:TE} {a:Addr} {xs:List V} (Pv:Nat→St→Hp→Prop) (ha:∀ R:V→Hp→Prop,R (.ref a) H→tl σ H R) (h0:Pv 0 σ H) (hl:∀ i σ H,i≤xs.length→Pv i σ H→SqL K H a xs)
  (hs:∀ i x σ H,xs[i]?=some x→Pv i σ H→g x σ H fun σ2 H2=>tb { D with nx:=Pv (i+1),ct:=Pv (i+1),bk:=D.nx } σ2 H2) (hd:∀ σ H,Pv xs.length σ H→D.nx σ H):Vn (Wq K tl) g tb D σ H:=by
 refine ha _ ⟨a,rfl,⟨xs,hl 0 σ H (Nat.zero_le _) h0⟩,?_⟩
 exact VV Pv h0 hl hs hd
end
end L2
namespace L2
open PySem PySem.Spec PyProof.Rows
section
variable {X:Cx}
theorem Vk (hc:X.calm=true:=by rfl):XQ X (.builtin "sum") (fun xs H Q=>∃ (p:Addr) (ns:List Int),xs=[.ref p]∧SqL X.K H p (ns.map V.int)∧Q (.int ns.sum) H):=by
 intro pins s σ H xs us Q I r h
 obtain ⟨p,ns,rfl,hq,q⟩:=h
 obtain ⟨u,rfl,rx⟩:=VG r
 cases rx
 obtain ⟨its,r',pl,hz⟩:=I.list hq
 have hi:=YaH r'
 have hl:=pl.isList
 obtain ⟨xs,ex⟩:=hi.allInts.items
 rw [ex] at hl
 have e:preSum (numAt xs) xs.size=ns.sum:=by
  have h1:=nums_intItems (xs:=xs)
  rw [← ex] at h1
  have h2:=hi.numsOf
  rw [preSum_eq,List.take_of_length_le (by simp)]
  rw [← h1]
  exact congrArg List.sum h2
 refine sum_intListG (I.ok.hd hc) hl fun h' tk t' hk=>?_
 rw [e]
 exact ⟨.int _,H,I.kept (t':=tk) hk,⟨t',rfl⟩,q⟩
end
section
variable {X:Cx} {elts:List Expr} {kk:Nat} {tpos:Pos}
end
end L2
namespace L2
open PySem PySem.Spec PyProof.Rows
mutual
inductive Den (K:PySem.W.Frag) (H:Hp):V→PyData→Prop
 | non:Den K H .non .none
 | bl (b:Bool):Den K H (.bl b) (.bool b)
 | int (i:Int):Den K H (.int i) (.int i)
 | str (x:Str) (h:PyData.strOk x=true):Den K H (.str x) (.str x)
 | lst {a:Addr} {vs:List V} {ds:List PyData}:SqL K H a vs→Dens K H vs ds→Den K H (.ref a) (.list ds)
 | tup {a:Addr} {vs:List V} {ds:List PyData}:SqT K H a vs→Dens K H vs ds→Den K H (.ref a) (.tuple ds)
inductive Dens (K:PySem.W.Frag) (H:Hp):List V→List PyData→Prop
 | nil:Dens K H [] []
 | cons {v:V} {d:PyData} {vs:List V} {ds:List PyData}:Den K H v d→Dens K H vs ds→Dens K H (v::vs) (d::ds)
end
mutual
theorem Den.keep {K:PySem.W.Frag} {H H':Hp} (e:Yl H H'):∀ {v:V} {d:PyData},Den K H v d→Den K H' v d
 | _,_,.non => .non
 | _,_,.bl b => .bl b
 | _,_,.int i => .int i
 | _,_,.str x h => .str x h
 | _,_,.lst h hs => .lst (e.seq h) (hs.keep e)
 | _,_,.tup h hs => .tup (e.tup h) (hs.keep e)
theorem Dens.keep {K:PySem.W.Frag} {H H':Hp} (e:Yl H H'):∀ {vs:List V} {ds:List PyData},Dens K H vs ds→Dens K H' vs ds
 | _,_,.nil => .nil
 | _,_,.cons h hs => .cons (h.keep e) (hs.keep e)
end
mutual
theorem Den.lay {K:PySem.W.Frag} {H:Hp}:∀ {v:V} {d:PyData},Den K H v d→d.canLay0=true
 | _,_,.non=>rfl
 | _,_,.bl b=>rfl
 | _,_,.int i=>rfl
 | _,_,.str x h=>by simpa [PyData.canLay0] using h
 | _,_,.lst _ hs=>by rw [PyData.canLay0];exact hs.lay
 | _,_,.tup _ hs=>by rw [PyData.canLay0];exact hs.lay
theorem Dens.lay {K:PySem.W.Frag} {H:Hp}:∀ {vs:List V} {ds:List PyData},Dens K H vs ds→PyData.canLayAll0 ds=true
 | _,_,.nil=>rfl
 | _,_,.cons h hs=>by rw [PyData.canLayAll0,h.lay,hs.lay];rfl
end
section
variable {X:Cx}
mutual
theorem Den.reads {pins:List (Addr×Obj)} {σ:St} {H:Hp} {s:Shared} (I:Inv X pins σ H s):∀ {v:V} {d:PyData} {u:Value},Den X.K H v d→Yr v u→∃ as,Reads s.heap u d as
 | _,_,u,.non,r=>by cases (show u = .none from r);exact ⟨_,.none⟩
 | _,_,u,.bl b,r=>by cases (show u = .bool b from r);exact ⟨_,.bool b⟩
 | _,_,u,.int i,r=>by obtain ⟨t,rfl⟩:=r;exact ⟨_,.int i t⟩
 | _,_,u,.str x h,r=>by obtain ⟨t,rfl⟩:=r;exact ⟨_,.str x t⟩
 | _,_,u,.lst (a:=a) h hs,r=>by
  cases (show u = .ref a from r)
  obtain ⟨its,rv,pl,hz⟩:=I.list h
  obtain ⟨as,ra⟩:=hs.reads I rv
  obtain ⟨o,e1,e2,n,e3⟩:=pl.isList
  exact ⟨_,.list e1 e2 e3 (by simpa using ra)⟩
 | _,_,u,.tup (a:=a) h hs,r=>by
  cases (show u = .ref a from r)
  obtain ⟨its,rv,pl,hz⟩:=I.tuple h
  obtain ⟨as,ra⟩:=hs.reads I rv
  obtain ⟨o,e1,e2,n,e3⟩:=(show s.heap.IsTuple a its.toArray from pl)
  exact ⟨_,.tuple e1 e2 e3 (by simpa using ra)⟩
theorem Dens.reads {pins:List (Addr×Obj)} {σ:St} {H:Hp} {s:Shared} (I:Inv X pins σ H s):∀ {vs:List V} {ds:List PyData} {us:List Value},Dens X.K H vs ds→Ym vs us→∃ as,ReadsAll s.heap us ds as
 | _,_,us,.nil,r=>by cases r;exact ⟨_,.nil⟩
 | _,_,us,.cons h hs,r=>by
  cases r with
  | cons r rr =>
   obtain ⟨as,ra⟩:=h.reads I r
   obtain ⟨bs,rb⟩:=hs.reads I rr
   exact ⟨_,.cons ra rb⟩
end
theorem Yd4 (hu:X.A.units+64<cLine):OpR X (compareOp .Eq) (fun x y H Q=>∃ d e,Den X.K H x d∧Den X.K H y e∧d.depth≤64∧Q (.bl (PyData.eqv d e)) H):=by
 intro pins s σ H x y v u Q I rx ry h
 obtain ⟨d,e,hd,he,dp,q⟩:=h
 obtain ⟨as,ra⟩:=hd.reads I rx
 obtain ⟨bs,rb⟩:=he.reads I ry
 exact SeqAt.rcAt_reads ra rb hd.lay he.lay (by omega) _ _ _ _ ⟨.bl _,H,I,rfl,q⟩
end
theorem Xu {α:Type} {l:List α} {i:Nat} {x:α} (h:l[i]?=some x):l.take (i+1)=l.take i++[x]:=by
 obtain ⟨hi,hc⟩:=List.getElem?_eq_some_iff.mp h
 rw [List.take_succ_eq_append_getElem hi,hc]
theorem YbF {J:It} {P:Hp→Prop} {xs:List V} (hJ:Wr J P xs) {src:List (Option Nat)} {te:TE} {σ:St} {H1:Hp} {Q:VK} {D:Addr} (ys:List V) (hP:∀ H',Yl H1 H'→P H') (hD:H1 D=none) (hl:ys.length=xs.length) (hlen:xs.length≤100000)
  (step:∀ (i:Nat) x y H',xs[i]?=some x→ys[i]?=some y→Yl H1 H'→∀ R:VK,(∀ H'',Yl H' H''→R y H'')→te (some x::Yy src σ) H' R)
  (fin:∀ H',Yl H1 H'→H' D=some (.lst ys)→Q (.ref D) H'):LC (none::src) J (Yv 0) Wp te σ H1 Q D:=by
 have h6:100000<sizeLine:=by decide
 refine VJ hJ (fun i zs σ' H'=>zs=ys.take i∧(∃ o,σ'=o::Yy src σ)∧Yl H1 H'∧H' D=some (.lst zs)) ⟨by simp,⟨none,rfl⟩,.upd_new hD _,Yc⟩ (fun i zs σ' H' p=>⟨hP _ p.2.2.1,p.2.2.2⟩) (Wt 0) ?_ ?_
 ·rintro i zs σ' H' x hx ⟨rfl,⟨o,rfl⟩,sm,hd⟩
  have hi:=(List.getElem?_eq_some_iff.mp hx).1
  have hy:ys[i]?=some (ys[i]'(by omega)):=List.getElem?_eq_getElem _
  show te (some x::Yy src σ) H' _
  refine step i x _ H' hx hy sm _ fun H'' s2=>⟨s2 _ _ hd,?_,(Xu hy).symm,⟨_,rfl⟩,.upd_over hD (sm.trans s2) _,Yc⟩
  rw [List.length_take];omega
 ·rintro zs σ' H' ⟨rfl,_,sm,hd⟩
  rw [← hl,List.take_length] at hd
  exact fin H' sm hd
theorem VU (K:PySem.W.Frag) (i j:Nat):∀ x σ H Q Q',(∀ σ' H',Q σ' H'→Q' σ' H')→WQ K 2 (Xp (Yv i) (Xp (Yv j) WP)) x σ H Q→WQ K 2 (Xp (Yv i) (Xp (Yv j) WP)) x σ H Q':=by
 rintro x σ H Q Q' h ⟨a,xs,e,sq,l,v,r,e1,v2,r2,e2,e3,q⟩
 exact ⟨a,xs,e,sq,l,v,r,e1,v2,r2,e2,e3,h _ _ q⟩
end L2
namespace L2
open PySem PySem.Spec PyProof.Rows
section
variable {a b c d e r:TS} {D:Ends} {σ:St} {H:Hp} (M:St→Hp→Prop) (h1:∀ σ H,M σ H→r D σ H)
include h1
theorem WF (h2:∀ N:St→Hp→Prop,(∀ σ H,M σ H→N σ H)→a { D with nx:=N } σ H):XH a r D σ H:=h2 (r D) h1
theorem cut2 (h2:∀ N:St→Hp→Prop,(∀ σ H,M σ H→N σ H)→XH a b { D with nx:=N } σ H):XH a (XH b r) D σ H:=h2 (r D) h1
theorem cut3 (h2:∀ N:St→Hp→Prop,(∀ σ H,M σ H→N σ H)→XH a (XH b c) { D with nx:=N } σ H):XH a (XH b (XH c r)) D σ H:=h2 (r D) h1
theorem cut4 (h2:∀ N:St→Hp→Prop,(∀ σ H,M σ H→N σ H)→XH a (XH b (XH c d)) { D with nx:=N } σ H):XH a (XH b (XH c (XH d r))) D σ H:=h2 (r D) h1
end
theorem Ydn (i j:Int):Yaz (.int i) (.int j)=true:=rfl
theorem Y1 (i j:Str):Yaz (.str i) (.str j)=true:=rfl
theorem Ycn {α:Type} (xs:List α) (i j:Nat):(xs.drop (min i xs.length)).take (min j xs.length - min i xs.length)=(xs.drop i).take (j - i):=by
 by_cases hi:i≤xs.length
 ·rw [Nat.min_eq_left hi]
  by_cases hj:j≤xs.length
  ·rw [Nat.min_eq_left hj]
  ·rw [Nat.min_eq_right (by omega),List.take_of_length_le (by rw [List.length_drop];omega),List.take_of_length_le (by rw [List.length_drop];omega)]
 ·rw [List.drop_of_length_le (by omega),List.drop_of_length_le (show xs.length≤i by omega)]
  simp
theorem VM (xs:List V) (j:Nat):XS xs none (some (j:Int))=xs.take j:=by
 unfold XS
 rw [HT.sIx_nat,HT.sIx_none,List.drop_zero,Nat.sub_zero]
 have:=Ycn xs 0 j
 simpa using this
theorem Ydo (xs:List V) (i:Nat):XS xs (some (i:Int)) none=xs.drop i:=by
 unfold XS
 rw [HT.sIx_nat,HT.sIx_none]
 by_cases hi:i≤xs.length
 ·rw [Nat.min_eq_left hi,List.take_of_length_le (by rw [List.length_drop];omega)]
 ·rw [List.drop_of_length_le (by omega),List.drop_of_length_le (show xs.length≤i by omega)]
  simp
end L2
namespace L2
open PySem PySem.Spec PyProof.Rows
theorem Xw {α:Type} {c:TT} {tb:TS} {D:Ends} {σ:St} {H:Hp} (Pv:α→St→Hp→Prop) (cond:α→Bool) (μ:α→Nat) (a₀:α) (h0:Pv a₀ σ H)
  (hc:∀ a σ H,Pv a σ H→∀ R:Bool→Hp→Prop,(∀ H',Pv a σ H'→R (cond a) H')→c σ H R)
  (hb:∀ a σ H,Pv a σ H→cond a=true→tb { D with nx:=fun σ' H'=>∃ a',Pv a' σ' H'∧μ a'<μ a,ct:=fun σ' H'=>∃ a',Pv a' σ' H'∧μ a'<μ a,bk:=D.nx } σ H)
  (hd:∀ a σ H,Pv a σ H→cond a=false→D.nx σ H):Ybk c tb D σ H:=by
 refine ⟨fun m σ H=>∃ a,m=μ a∧Pv a σ H,⟨_,a₀,rfl,h0⟩,?_⟩
 rintro m σ H ⟨a,rfl,p⟩
 refine hc a σ H p _ fun H' p'=>?_
 cases e:cond a with
 | true=>exact ⟨_,fun σ' H' ⟨a',q,l⟩=>⟨_,l,a',rfl,q⟩,hb a σ H' p' e⟩
 | false=>exact hd a σ H' p' e
section
variable {X:Cx} {tg:Expr}
def Itd (hi:Int) (n:Nat):It:=⟨fun i _=>i<n,fun i H x H'=>H'=H∧x = .int (hi - i),fun i _=>n≤i⟩
theorem YbG {P:Program} {w:World} {K:PySem.W.Frag} {tg:Expr} (it:Addr) (hi:Int) (n:Nat):Turn P w K tg (Itd hi n) [it] it (fun i h=>IsRangeIter h it (hi+(i:Nat)*(-1)) ((n:Int) - (i:Nat)) (-1)) where
 mem:=by simp
 obj:=fun i h st b hb=>by
  have e:b=it:=by simpa using hb
  subst e
  exact ⟨_,st,fun v z=>by
   have z':Data.fields _=Data.cell v:=z
   cases z'⟩
 keep:=fun i h h' st k=>k it (by simp) _ st
 item:=by
  intro X hP hw hK hc i pins s σ H E I hf st hg
  subst hP hw hK
  obtain ⟨f0,f1,f2,f3,f4,f5⟩:=hf it (by simp)
  have W:=Walks.range (prog:=X.prog) (w:=X.w) (I.ok.hd hc) it hi (-1) n
  refine W.item i s _ _ hg st fun v h' tk hv st' kk=>?_
  obtain ⟨t,rfl⟩:=hv
  have I1:Inv X pins σ H { s with heap:=h',toks:=tk }:=I.turned (fun b o hb e=>kk b o (by simpa using hb) e) f0 f1 f3 f4 f5
  refine ⟨_,rfl,Qa (s:={ s with heap:=h',toks:=tk }) (n:="range_iterator") st' rfl rfl (by decide) ⟨.int (hi - i),H,I1,⟨t,?_⟩,⟨rfl,rfl⟩,st',fun b hb=>(hf b hb).1⟩⟩
  have:hi+(i:Int) * -1=hi - i:=by omega
  rw [this]
 done:=by
  intro X hP hw hK hc i pins s σ H E I hf st hg
  subst hP hw hK
  obtain ⟨f0,f1,f2,f3,f4,f5⟩:=hf it (by simp)
  exact wpAny_pyNext_range_end (I.ok.hd hc) st (by have:n≤i:=hg;omega) fun h' eb=>⟨rfl,I.turned (t':=s.toks) (fun b o hb e=>eb b o hb e) f0 f1 f3 f4 f5⟩
 self:=fun _ _ _ _ _ st h=>wpAny_pyIter_rangeiter st h
theorem YaR {a b:Int} (ha : -(2^62)≤a) (ha':a<2^62) (hb : -(2^62)≤b) (hb':b<2^62):Builtin.Range.small a b (-1)=true:=by
 have e:Builtin.Range.rangeSize a b (-1)=if a>b then a - b else 0:=by unfold Builtin.Range.rangeSize;simp
 unfold Builtin.Range.small
 rw [e]
 simp only [Builtin.Range.rangeFitsLong,Bool.and_eq_true,Bool.or_eq_true,decide_eq_true_eq,beq_iff_eq,show ¬ ((-1:Int)>0) by decide,if_false]
 split<;>omega
theorem Ydp {pins:List (Addr×Obj)} {σ:St} {H:Hp} {s:Shared} {R:It→Hp→Prop} {E:Value→Shared→Prop} {lo hi:Int} {t u v:Tok} {tk:Nat} (I:Inv X pins σ H s) (h1 : -(2^62)≤lo) (h2:lo<2^62) (h3 : -(2^62)≤hi) (h4:hi<2^62)
  (q:R (Itd lo (lo - hi).toNat) H):wpAny (model X.prog X.w) X.A (pyIter (.ref s.heap.objs.size)) (PIE X pins σ tg R) E { s with heap:=s.heap.push { cls := .type "range",data := .fields #[.int lo t,.int hi u,.int (-1) v] },toks:=tk }:=by
 refine wpAny_pyIter_range (IsRange.new ..) (YaR h1 h2 h3 h4) ?_
 have I1:Inv X pins σ H { s with heap:=s.heap.push { cls := .type "range",data := .fields #[.int lo t,.int hi u,.int (-1) v] },toks:=tk }:=I.kept fun b o e=>Heap.get?_push_of_some _ e
 refine ⟨(s.heap.push { cls := .type "range",data := .fields #[.int lo t,.int hi u,.int (-1) v] }).objs.size,[(s.heap.push { cls := .type "range",data := .fields #[.int lo t,.int hi u,.int (-1) v] }).objs.size],_,_,H,rfl,
  I1.kept (t':=tk) fun b o e=>Heap.get?_push_of_some _ e,YbG _ lo (lo - hi).toNat,?_,fun b hb=>?_,q⟩
 ·have e1:lo+((0:Nat):Int)*(-1)=lo:=by simp
  have e2:(((lo - hi).toNat:Nat):Int) - ((0:Nat):Int)=Builtin.Range.rangeSize lo hi (-1):=by unfold Builtin.Range.rangeSize;simp;split<;>omega
  show IsRangeIter _ _ (lo+((0:Nat):Int)*(-1)) ((((lo - hi).toNat:Nat):Int) - ((0:Nat):Int)) (-1)
  rw [e1,e2]
  exact Heap.get?_push_size _ rfl
 ·have e:b=(s.heap.push { cls := .type "range",data := .fields #[.int lo t,.int hi u,.int (-1) v] }).objs.size:=by simpa using hb
  subst e
  exact I1.fpOk (Nat.le_refl _) (I1.hok.fresh (Nat.le_refl _))
def YcY (ta:TA):TI:=fun σ H R=>ta σ H fun vs H1=>∃ i j:Int,vs=[.int i,.int j,.int (-1)]∧(-(2^62)≤i∧i<2^62 ∧ -(2^62)≤j∧j<2^62)∧R (Itd i (i - j).toNat) H1
theorem YbH {a b c:Expr} {ta:TA} {p pos:Pos} (hg:Gl X "range") (hm:X.mg "range"=none) (ha:PA X [a,b,c] ta) (hs:starEach [a,b,c] X.env=[(false,eval a X.env),(false,eval b X.env),(false,eval c X.env)]) (hs2:starEach [b,c] X.env=[(false,eval b X.env),(false,eval c X.env)]) :
  PI X tg (.Call (.Name "range" p) [a,b,c] [] pos) (YcY ta):=by
 intro pins s σ H R I h
 refine Call_ (WU I hg hm boot_range (PyProof.Rows.callWith_type1 (thn (ha pos pins s σ H _ I h) fun us s1 ⟨vs,H1,I1,r1,q1⟩=>?_) (by rw [hs,hs2]) (by rw [hs2];rfl)))
 obtain ⟨i,j,e,⟨q1,q2,q3,q4⟩,q⟩:=q1
 subst e
 cases r1 with
 | cons r rr =>
  cases rr with
  | cons r' rr =>
   cases rr with
   | cons r'' rr =>
    cases rr
    obtain ⟨t,rfl⟩:=r
    obtain ⟨t',rfl⟩:=r'
    obtain ⟨t'',rfl⟩:=r''
    exact call_range_3 (by decide) (Ydp I1 q1 q2 q3 q4 q) (.inl (PyProof.noPylong_small (by decide)))
end
end L2
namespace L2
open PySem PySem.Spec PyProof.Rows
theorem Uf {g:TG} {tb:TS} {D:Ends} {σ:St} {H:Hp} {K:PySem.W.Frag} {tl:TE} {xs:List V} (Pv:Addr→Nat→St→Hp→Prop) (ha:∀ R:V→Hp→Prop,(∀ c H1,Pv c 0 σ H1→R (.ref c) H1)→tl σ H R) (hl:∀ c i σ H,i≤xs.length→Pv c i σ H→SqL K H c xs)
  (hs:∀ c (i:Nat) x σ H,xs[i]?=some x→Pv c i σ H→g x σ H fun σ2 H2=>tb { D with nx:=Pv c (i+1),ct:=Pv c (i+1),bk:=D.nx } σ2 H2) (hd:∀ c σ H,Pv c xs.length σ H→D.nx σ H):Vn (Wq K tl) g tb D σ H:=by
 refine ha _ fun c H1 h0=>⟨c,rfl,⟨xs,hl c 0 σ H1 (Nat.zero_le _) h0⟩,?_⟩
 exact VV (Pv c) h0 (hl c) (hs c) (hd c)
end L2
namespace L2
open PySem PySem.Spec PyProof.Rows
section
variable {src:List (Option Nat)} {te:TE} {σ:St} {H:Hp} {Q:VK}
theorem YaS {ta:TA} {n:Nat} (ys:List V) (ha:∀ R:List V→Hp→Prop,R [.int n] H→ta σ H R) (hl:ys.length=n) (hlen:n≤100000)
  (step:∀ (i:Nat) y H',i<n→ys[i]?=some y→Yl H H'→∀ R:VK,(∀ H'',Yl H' H''→R y H'')→te (some (.int i)::Yy src σ) H' R)
  (fin:∀ D H',H D=none→Yl H H'→H' D=some (.lst ys)→Q (.ref D) H'):tLC (none::src) (V1 ta) (Yv 0) Wp te σ H Q:=by
 refine ha _ ⟨n,rfl,by omega,by omega,fun D hD=>?_⟩
 refine YbF (WR (lo:=0) (n:=n) (P:=fun _=>True)) ys (fun _ _=>trivial) hD (by simpa using hl) (by simpa using hlen) (fun i x y H' hx hy sm R r=>?_) fun H'=>fin D H' hD
 have hi:i<n:=by have:=(List.getElem?_eq_some_iff.mp hx).1;simpa using this
 rw [List.getElem?_map,List.getElem?_range hi] at hx
 have e:V.int (0+(i:Int))=x:=Option.some.inj hx
 rw [Int.zero_add] at e
 subst e
 exact step i y H' hi hy sm R r
end
end L2
namespace L2
open PySem PySem.Spec PyProof.Rows
section
variable {src:List (Option Nat)} {te:TE} {σ:St} {H:Hp} {Q:VK}
end
section
variable {X:Cx} {K:PySem.W.Frag}
theorem VX (h:X.K=K:=by rfl):IxR X (rIxL K):=by subst h;exact YM
theorem Yaf (h:X.K=K:=by rfl):IxR X (rIxT K):=by subst h;exact Xc
end
end L2
namespace L2
open PySem PySem.Spec PyProof.Rows
section
variable {tb:TS} {D:Ends} {σ:St} {H:Hp}
theorem YbI {K:PySem.W.Frag} {ta:TA} (i j:Nat) {xs ys:List V} (Pv:Addr→Addr→Nat→St→Hp→Prop) (ha:∀ R:List V→Hp→Prop,(∀ a b H1,Pv a b 0 σ H1→R [.ref a,.ref b] H1)→ta σ H R)
  (hl:∀ a b n σ H,n≤min xs.length ys.length→Pv a b n σ H→SqL K H a xs∧SqL K H b ys)
  (hs:∀ a b (n:Nat) x y σ H T,xs[n]?=some x→ys[n]?=some y→Pv a b n σ H→H T=none→tb { D with nx:=Pv a b (n+1),ct:=Pv a b (n+1),bk:=D.nx } ((σ.set i (some x)).set j (some y)) (upd H T (.tup [x,y])))
  (hd:∀ a b σ H,Pv a b (min xs.length ys.length) σ H→D.nx σ H):Vn (YcW K ta) (WQ K 2 (Xp (Yv i) (Xp (Yv j) WP))) tb D σ H:=by
 refine ha _ fun a b H1 h0=>?_
 obtain ⟨s1,s2⟩:=hl a b 0 σ H1 (Nat.zero_le _) h0
 refine ⟨a,b,xs,ys,rfl,s1,s2,?_⟩
 refine ⟨fun n m σ H=>m=min xs.length ys.length - n∧n≤min xs.length ys.length∧Pv a b n σ H,⟨min xs.length ys.length,by simp,Nat.zero_le _,h0⟩,?_⟩
 rintro n m σ H ⟨rfl,hn,p⟩
 obtain ⟨g1,g2⟩:=hl a b n σ H hn p
 by_cases hlt:n<min xs.length ys.length
 ·have hx:xs[n]?=some (xs[n]'(by omega)):=List.getElem?_eq_getElem _
  have hy:ys[n]?=some (ys[n]'(by omega)):=List.getElem?_eq_getElem _
  refine .inr ⟨⟨xs,ys,_,_,g1,g2,hx,hy⟩,Pv a b (n+1),fun σ' H' p'=>⟨min xs.length ys.length - (n+1),by omega,rfl,hlt,p'⟩,?_⟩
  rintro v H' ⟨T,rfl,hT,heq⟩
  have e:=heq xs ys _ _ g1 g2 hx hy
  subst e
  exact ⟨T,_,rfl,SqT.of Yc,rfl,_,_,rfl,_,_,rfl,rfl,hs a b n _ _ σ H T hx hy p hT⟩
 ·have e:n=min xs.length ys.length:=by omega
  subst e
  refine .inl ⟨⟨xs,ys,g1,g2,?_⟩,hd a b σ H p⟩
  omega
end
end L2
namespace L2
open PySem PySem.Spec PyProof.Rows
section
variable {X:Cx} {e st:Expr} {te ts:TE} {pos p2:Pos}
def tRev (K:PySem.W.Frag) (te ts:TE):TE:=fun σ H Q=>te σ H fun x H1=>ts σ H1 fun y H2=>y = .int (-1)∧∃ a xs,x = .ref a∧SqL K H2 a xs∧∀ p,H2 p=none→Q (.ref p) (upd H2 p (.lst xs.reverse))
end
end L2
namespace L2
open PySem PySem.Spec PyProof.Rows
section
variable {X:Cx} {pos:Pos}
def rBits:V→List V→Hp→VK→Prop:=fun x vs H Q=>∃ i,x = .int i∧vs=[]∧Q (.int (Builtin.Int.intBits i:Nat)) H
def rFind:V→List V→Hp→VK→Prop:=fun x vs H Q=>∃ (z y:Str),x = .str z∧vs=[.str y]∧Q (.int (Txt.find z y)) H
def Yd5:TE:=fun _ H Q=>∀ p,H p=none→Q (.ref p) (upd H p (.dK []))
end
section
variable {X:Cx} {g:Gx} {x:Str} {pos:Pos}
def tConT (K:PySem.W.Frag) (xs:List V):TE:=fun _ H Q=>∀ c,SqT K H c xs→Q (.ref c) H
end
end L2
namespace L2
open PySem PySem.Spec PyProof.Rows
theorem XT {c A B:Prop} [Decidable c] (h:¬ c) (hb:B):if c then A else B:=by rw [if_neg h];exact hb
theorem Vc {c A B:Prop} [Decidable c] (h:c) (ha:A):if c then A else B:=by rw [if_pos h];exact ha
section
variable {src:List (Option Nat)} {te:TE} {σ:St} {H:Hp} {Q:VK}
end
section
variable {X:Cx} {K:PySem.W.Frag} {o e:Expr} {es:List Expr} {to:TE} {t:TA} {name:Str} {apos cpos:Pos} {T id:String} {r:V→List V→Hp→VK→Prop}
end
section
variable {X:Cx}
def CMulC (i j:Int):Prop:=Qe i j∨CMul i j
theorem XG:OpR X (binaryOp .Mult) (rI CMulC fun i j => .int (i*j)):=opI fun _ _ _ _ _ _ _ hc q=>mul_int q (hc.elim (fun h=>h.ok) fun h=>h.ok)
end
end L2
namespace L2
open PySem PySem.Spec PyProof.Rows
section
variable {prog:Program} {w:World} {A:Around} {E:Value→Shared→Prop} {s:Shared} {z TI TO i1 i2 T:Addr} {S1 S2:Nat→Heap→Prop} {R1 R2:Heap→(Nat→Option Value)→Prop} {g1 g2:Nat→Option Value} {k:Nat} {a b:Value} {f:Bool} {oT:Obj}
end
section
variable {prog:Program} {w:World} {A:Around} {s:Shared} {R:Result→Shared→Prop} {z TI TO i1 i2 S p1 p2:Addr} {xs ys:List Value}
end
end L2
namespace L2
open PySem PySem.Calls PySem.Spec PyProof.Rows PyProof.V
section
variable {prog:Program} {w:World} {A:Around} {E:Value→Shared→Prop} {s:Shared} {z TI TO i1 i2 p1 p2:Addr} {xs ys:List Value}
end
end L2
namespace L2
open PySem PySem.Spec PyProof.Rows
section
variable {X:Cx} {pins:List (Addr×Obj)} {σ:St} {H H':Hp} {s:Shared} {h':Heap}
end
section
variable {X:Cx}
def tLZ (K:PySem.W.Frag) (ta:TA):TE:=fun σ H Q=>ta σ H fun vs H1=>∃ a b xs ys,vs=[.ref a,.ref b]∧SqT K H1 a xs∧SqT K H1 b ys∧xs.length=ys.length ∧
 ∀ (l:Addr) (as:List Addr) (H2:Hp),H1 l=none→Yl H1 H2→H2 l=some (.lst (as.map V.ref))→as.length=xs.length →
  (∀ (j:Nat) a x y,as[j]?=some a→xs[j]?=some x→ys[j]?=some y→H1 a=none∧H2 a=some (.tup [x,y]))→Q (.ref l) H2
end
end L2
namespace L2
open PySem PySem.Spec PyProof.Rows
section
variable {src:List (Option Nat)} {te:TE} {σ:St} {H:Hp} {Q:VK}
end
end L2
namespace L2
open PySem PySem.Spec PyProof.Rows
section
variable {X:Cx}
theorem Yco {i:Nat} {x:Str} {pos':Pos} {pins:List (Addr×Obj)} {σ:St} {D0:Ends} (hN:X.N.Nodup) (hix:X.N[i]?=some x) (hlx:Loc X.env.scope x) (hf:X.fn x=true∨X.env.scope.names.lookup x=some .local) (D C:Addr) (s6:Shared) (H5:Hp)
  (fi:∀ h',Heap.SameBut C s6.heap h'→Inv X pins σ H5 { s6 with heap:=h' }) (hn:∃ m,s6.heap.Ns C m) (hCn:H5 C=none) (hC:∀ {H':Hp},H' C=none→XJ X pins H' C) (qn:D0.nx (σ.set i (some (.ref D))) H5) :
  compPost (model X.prog X.w) X.A X.xe (some fun v=>assignAll v ((assignEach [.Name x pos'] X.env).map (·.2))) (fun _ s'=>wpAny (model X.prog X.w) X.A (pure PUnit.unit) (fun _ s'=>wpAny (model X.prog X.w) X.A (pure Flow.next) (SP X pins D0) X.xe s') X.xe s') (.ref D) C (.ok .next) s6:=by
 obtain ⟨m,oC,es,ep,hoC,rC⟩:=hn
 have IO:Inv X pins σ H5 s6:=fi s6.heap (Heap.SameBut.refl _ _)
 have IP:=IO.pinned (fp:=[C]) (fun b hb=>by rw [List.mem_singleton.mp hb];exact hC hCn) (fun b hb=>by rw [List.mem_singleton.mp hb];exact ⟨oC,hoC,fun v z=>by (rw [rC.1] at z;cases z)⟩)
 show wpAny _ _ (assign (.Name x pos') X.env (.ref D)) _ _ _
 refine thn (Yn hN hix hlx hf _ s6 σ H5 (.ref D) (.ref D) _ IP rfl qn) fun _ s7 ⟨σ7,H7,I7,q7⟩=>?_
 obtain ⟨g1,g2,_⟩:=I7.pin (C,oC) (List.mem_append_right _ (List.mem_append_right _ (XF (List.mem_singleton.mpr rfl) hoC)))
 refine ⟨m,⟨oC,es,ep,g1,rC⟩,fun h' sb=>wpAny_pure (wpAny_pure ⟨σ7,H7,?_,q7⟩)⟩
 exact I7.unpinned.turnedL (t':=s7.toks) (ch:=[C]) (fun b o hb e=>sb.extBut b o (fun z=>hb (by rw [z];exact List.mem_singleton.mpr rfl)) e) (fun b hb=>by rw [List.mem_singleton.mp hb];exact hC g2)
theorem VN {i:Nat} {x:Str} {pos' apos:Pos} {elt tg iter:Expr} {ifs:List Expr} {scope:Scope} {pos:Pos} {src:List (Option Nat)} {N':List Str} {wi:TI} {g:TG} {tt:TT} {te:TE} (hN:X.N.Nodup) (hix:X.N[i]?=some x) (hlx:Loc X.env.scope x) (hcap:Cap X scope src N') (hc:X.calm=true) (hi:PI X tg iter wi)
  (hg:∀ cl C s₀ H₀ fp pn,PG (cxC X scope N' cl C s₀ H₀ fp pn) tg g) (ht:∀ cl C s₀ H₀ fp pn,PTs (cxC X scope N' cl C s₀ H₀ fp pn) ifs tt) (he:∀ cl C s₀ H₀ fp pn,PE (cxC X scope N' cl C s₀ H₀ fp pn) elt te)
  (hfree:∀ x,(x,NameKind.free)∈scope.names→X.env.scope.names.lookup x=some NameKind.cell∨X.env.scope.names.lookup x=some NameKind.free)
  (hk:scope.kind = .function) (hcell:∀ y∈scope.names,y.2 ≠ .cell) (hnames:∀ y∈scope.names,y.2 = .local→scope.names.lookup y.1=some .local)
  (hs:∀ x,foldedSetIterable iter X.env x=pure x) (hsw:swapsWithSole [.Name x pos'] (.ListComp elt [⟨tg,iter,ifs,0⟩] scope pos) apos.line X.env=pure true) (hf:X.fn x=true∨X.env.scope.names.lookup x=some .local) :
  PS X (.Assign [.Name x pos'] (.ListComp elt [⟨tg,iter,ifs,0⟩] scope pos) apos) (Yav (tLC src wi g tt te) (Yv i)):=by
 intro pins s σ H D0 I h
 obtain ⟨cl,hcl,a,b⟩:=Va X.env scope fun x hx=>I.ok.has x (hfree x hx)
 rw [exec_Assign_arm]
 refine wpAny_bind (wpAny_standAt ?_)
 rw [hsw]
 refine wpAny_bind (wpAny_pure ?_)
 rw [if_pos rfl]
 refine wpAny_bind ?_
 rw [arm_evalThenUse_ListComp]
 refine wpAny_bind ?_
 refine wpAny_comprehension_free (use:=some _) rfl hs hcl hk hnames (thn (hi pins s σ H _ I h) fun v s1 h1=>thn h1 fun itv s2 h2=>?_)
 exact Qv (Po:=fun v C=>compPost (model X.prog X.w) X.A X.xe (some fun v=>assignAll v ((assignEach [.Name x pos'] X.env).map (·.2))) (fun _ s'=>wpAny (model X.prog X.w) X.A (pure PUnit.unit) (fun _ s'=>wpAny (model X.prog X.w) X.A (pure Flow.next) (SP X pins D0) X.xe s') X.xe s') v C) (Z:=fun _ _ _ _ _ _ _=>False) hcap hc (hg cl) (ht cl) (he cl) hk hcell a b h2 (Yco hN hix hlx hf) fun _ _ _ _ _ _ _ _ z=>z.elim
end
end L2
namespace L2
open PySem PySem.Spec PyProof.Rows
section
variable {P:Program} {w:World} {l:List Env} {H H':Hp} {h h' h'' B:Heap} {e:Addr} {cls:Value}
end
section
variable {X:Cx} {pins:List (Addr×Obj)} {σ:St} {H H':Hp} {s s':Shared} {h' B:Heap} {e:Addr} {cls:Value} {M:Model} {A:Around} {Q:Unit→Shared→Prop} {EE:Value→Shared→Prop}
end
section
variable {g:Gx} {N:List Str} {qual:Str} {st:Stmt} {f:Addr} {cdv:Value} {A:Around} {outer:List Env} {s:Shared} {H:Hp} {E:XK}
end
section
variable {g:Gx} {k:Nat} {x qual m:Str} {st:Stmt} {N ps:List Str} {sp:Sp} {C:Addr}
end
section
variable {g:Gx} {X:Cx} {k j:Nat} {x:Str} {ps:List Str} {sp:Sp} {E:XK} {e:Expr} {es:List Expr} {t:TA} {p pos cpos np:Pos}
def Yd6 (C:Addr) (E:XK) (t:TA):TS:=fun _ σ H=>t σ H fun vs H1=>vs.length≤sizeLine∧E (.ref C) none H1
end
section
variable {X:Cx} {pins:List (Addr×Obj)} {σ:St} {H H' H1:Hp} {s s1 s':Shared} {e:Value} {D:Ends} {ts:TS} {b₀:Stmt} {suite:List Stmt} {c:Str} {cv:Value} {cp hpos:Pos}
end
def tTry (K:PySem.W.Frag) (cv:Value) (sp:Sp) (t:TA) (i:Nat) (ts:TS):TS:=fun D σ H=>t σ H fun vs H1=>sp (vs++[]) H1 (fun v H2=>D.nx (σ.set i (some v)) H2) (fun cls _ H2=>PySem.W.exmOne K cls cv=some true∧ts D σ H2)
section
variable {g:Gx} {X:Cx} {k j i:Nat} {x f c:Str} {ps:List Str} {sp:Sp} {e:Expr} {es:List Expr} {t:TA} {ts:TS} {b₀:Stmt} {suite:List Stmt} {cv:Value} {fp px cp hpos apos cpos pos:Pos}
end
end L2
namespace L2
open PySem PySem.Spec PyProof.Rows
section
variable {prog:Program} {w:World} {A:Around} {E:Value→Shared→Prop} {s:Shared}
open AutoSeq1 (wpAny_loadPart') in
end
section
variable {X:Cx} {elts:List Expr} {kk:Nat} {tpos:Pos}
end
section
variable {g:TG} {tb:TS} {D:Ends} {σ:St} {H:Hp}
end
end L2
namespace L2
open PySem PySem.Spec PyProof.Rows
section
variable {prog:Program} {w:World} {A:Around} {E:Value→Shared→Prop} {s:Shared}
open AutoSeq1 (wpAny_loadPart') in
end
end L2
namespace L2
open PySem PySem.Spec PyProof.Rows
section
variable {X:Cx} {elts:List Expr} {kk:Nat} {tpos:Pos}
end
section
variable {g:TG} {tb:TS} {D:Ends} {σ:St} {H:Hp}
end
section
variable {X:Cx} {tg:Expr}
end
end L2
namespace L2
open PySem PySem.Spec PyProof.Rows
def ExcD (a:Addr) (cls:Value) (dc:Option Addr):HO := .ext fun h=>∃ o vs,h.get? a=some o∧o.cls=cls∧o.data = .fields vs∧o.dict=dc
section
variable {P:Program} {w:World} {l:List Env} {H H':Hp} {h h' h'' B:Heap} {a e:Addr} {cls:Value} {o:HO}
end
section
variable {X:Cx} {pins:List (Addr×Obj)} {σ:St} {H H' H1:Hp} {s s1 s':Shared}
end
def Ends.gone (D:Ends) (j:Nat):Ends:={ nx:=fun σ H=>D.nx (σ.set j none) H,rt:=D.rt,bk:=fun σ H=>D.bk (σ.set j none) H,ct:=fun σ H=>D.ct (σ.set j none) H }
section
variable {X:Cx} {pins:List (Addr×Obj)} {σ:St} {H H' H1:Hp} {s s1 s':Shared} {e:Value} {D:Ends} {ts:TS} {b₀:Stmt} {suite:List Stmt} {c n:Str} {cv:Value} {cp hpos:Pos} {j:Nat}
end
end L2
namespace L2
open PySem PySem.Spec PyProof.Rows
def Yd7 (K:PySem.W.Frag) (cv:Value) (sp:Sp) (t:TA) (i j:Nat) (ts:TS):TS:=fun D σ H=>t σ H fun vs H1=>sp (vs++[]) H1 (fun v H2=>D.nx (σ.set i (some v)) H2) (fun cls dc H2=>PySem.W.exmOne K cls cv=some true∧∀ a,H2 a=none→ts (D.gone j) (σ.set j (some (.ref a))) (upd H2 a (ExcD a cls dc)))
section
variable {g:Gx} {X:Cx} {k jj i j:Nat} {x f c n:Str} {ps:List Str} {sp:Sp} {e:Expr} {es:List Expr} {t:TA} {ts:TS} {b₀:Stmt} {suite:List Stmt} {cv:Value} {fp px cp hpos apos cpos pos:Pos}
end
section
variable {g:Gx} {k:Nat} {x qual:Str} {st:Stmt} {N ps:List Str} {sp:Sp}
end
section
variable {g:Gx} {X:Cx} {k j:Nat} {x:Str} {ps:List Str} {sp:Sp} {e:Expr} {es:List Expr} {t:TA} {p pos:Pos}
end
end L2
namespace PySem.W
open PySem PySem.Calls PyProof.Rows Builtin Builtin.ObjectAttr Builtin.Getset_descriptor
section
variable {prog:Program} {w:World} {A:Around} {E:Value→Shared→Prop} {K:Frag} {x C:Addr} {ox:Obj} {hh:Heap} {g:Array GenState} {d:Drawn} {t:Nat} {os:OsState}
end
end PySem.W
namespace L2
open PySem PySem.Spec PyProof.Rows
section
variable {X:Cx}
theorem Yd8 {g:Gx} {x:Str} {C:Addr} {pos:Pos} (h:g.mg x=some (.ref C)) (hX:X.gx=g:=by rfl) (hg:Gl X x:=by rfl) (hd:(x==("__debug__":Str))=false:=by decide):PE X (.Name x pos) (tC (.ref C)):=by
 subst hX
 exact Yc5 hg h rfl hd
end
end L2
namespace L2
open PySem PySem.Spec PyProof.Rows
theorem YN {K:PySem.W.Frag} {C:Addr} {f:Str} (h:PySem.W.findIn K (.ref C) f=some none):Ye K C f:=h
end L2
namespace L2
open PySem PySem.Spec PyProof.Rows
section
variable {src:List (Option Nat)} {te:TE} {σ:St} {H:Hp} {Q:VK}
end
end L2
namespace L2
open PySem PySem.Spec PyProof.Rows
section
variable {X:Cx}
end
end L2
namespace L2
open PySem PySem.Spec PyProof.Rows
section
variable {src:List (Option Nat)} {te:TE} {σ:St} {H:Hp} {Q:VK}
end
end L2
namespace L2
open PySem PySem.Spec PyProof.Rows
section
variable {X:Cx}
end
end L2
namespace L2
open PySem PySem.Spec PyProof.Rows
section
variable {X:Cx} {g:Gx} {k j i:Nat} {x:Str} {ps:List Str} {sp:Sp} {p pos:Pos} {e:Expr} {es:List Expr} {t:TA}
end
theorem XW (es:List Expr) (x:Nat) (p:Pos) (es':List Expr) (env:Env):starEach (.Tuple es x p::es') env=(false,eval (.Tuple es x p) env)::starEach es' env:=rfl
theorem Ycq (es:List Expr) (p:Pos) (es':List Expr) (env:Env):starEach (.List es p::es') env=(false,eval (.List es p) env)::starEach es' env:=rfl
end L2
namespace L2
open PySem PySem.Spec PyProof.Rows
section
variable {X:Cx} {pins:List (Addr×Obj)} {σ:St} {H:Hp} {s:Shared} {A:Around} {E Q:Value→Shared→Prop}
end
section
variable {X:Cx}
end
section
variable {src:List (Option Nat)} {te:TE} {σ:St} {Q:VK}
variable {X:Cx} {H:Hp}
end
end L2
namespace L2
open PySem PySem.Spec PyProof.Rows
section
open PySem.SeqAt
open PySem.AutoSeq1 (wpAny_loadPart')
open PySem.MeetsSeq PySem.MeetsSeq2 PySem.MeetsSeq3
variable {X:Cx}
end
end L2
namespace L2
open PySem PySem.Spec PyProof.Rows
section
open PySem.SeqAt
open PySem.AutoSeq1 (wpAny_loadPart')
open PySem.MeetsSeq PySem.MeetsSeq2 PySem.MeetsSeq3
variable {X:Cx}
variable {K:PySem.W.Frag}
end
end L2
namespace L2
open PySem
end L2
namespace L2
open PySem
section
variable {src:List (Option Nat)} {te:TE} {σ:St} {H:Hp} {Q:VK}
end
end L2
namespace L2
open PySem
mutual
inductive VL (H:Hp):V→PyData→List Addr→Prop
 | int (i:Int):VL H (.int i) (.int i) []
 | str (x:Str) (h:PyData.strOk x=true):VL H (.str x) (.str x) []
 | lst {a:Addr} {vs:List V} {ds:List PyData} {L:List Addr}:H a=some (.lst vs)→vs.length≤10000→VLs H vs ds L→VL H (.ref a) (.list ds) (a::L)
 | tup {a:Addr} {vs:List V} {ds:List PyData} {L:List Addr}:H a=some (.tup vs)→vs.length≤10000→VLs H vs ds L→VL H (.ref a) (.tuple ds) L
inductive VLs (H:Hp):List V→List PyData→List Addr→Prop
 | nil:VLs H [] [] []
 | cons {v:V} {d:PyData} {L:List Addr} {vs:List V} {ds:List PyData} {L':List Addr}:VL H v d L→VLs H vs ds L'→VLs H (v::vs) (d::ds) (L++L')
end
theorem Qw {K:PySem.W.Frag} {tl:TE} {g:TG} {tb:TS} {D:Ends} {σ:St} {H:Hp} {a:Addr} {xs:List V} (Pv:Nat→St→Hp→Prop) (ha:∀ R:V→Hp→Prop,R (.ref a) H→tl σ H R) (h0:Pv 0 σ H) (hl:∀ i σ H,i≤xs.length→Pv i σ H→SqT K H a xs)
  (hs:∀ i x σ H,xs[i]?=some x→Pv i σ H→g x σ H fun σ2 H2=>tb { D with nx:=Pv (i+1),ct:=Pv (i+1),bk:=D.nx } σ2 H2) (hd:∀ σ H,Pv xs.length σ H→D.nx σ H):Vn (iTup K tl) g tb D σ H:=by
 refine ha _ ⟨a,rfl,⟨xs,hl 0 σ H (Nat.zero_le _) h0⟩,?_⟩
 exact Yc7 Pv h0 hl hs hd
section
variable {src:List (Option Nat)} {te:TE} {σ:St} {H:Hp} {Q:VK}
end
end L2
namespace L2
open PySem PySem.Spec PyProof.Rows
section
variable {X:Cx} {pos:Pos}
end
end L2
namespace L2
open PySem
section
variable {src:List (Option Nat)} {te:TE} {σ:St} {H:Hp} {Q:VK}
theorem X2 {ta:TA} {n:Nat} (I:Addr→Nat→List V→Hp→Prop) (ha:∀ R:List V→Hp→Prop,R [.int n] H→ta σ H R) (hlen:n≤100000)
  (i0:∀ D,H D=none→I D 0 [] (upd H D (.lst []))) (dl:∀ D i zs H',I D i zs H'→zs.length=i∧H' D=some (.lst zs))
  (step:∀ D (i:Nat) zs H',H D=none→i<n→I D i zs H'→∀ R:VK,(∀ y H'',H'' D=some (.lst zs)→I D (i+1) (zs++[y]) (upd H'' D (.lst (zs++[y])))→R y H'')→te (some (.int i)::Yy src σ) H' R)
  (fin:∀ D zs H',H D=none→I D n zs H'→Q (.ref D) H'):tLC (none::src) (V1 ta) (Yv 0) Wp te σ H Q:=by
 refine ha _ ⟨n,rfl,by omega,by omega,fun D hD=>?_⟩
 have h6:100000<sizeLine:=by decide
 refine VJ (WR (lo:=0) (n:=n) (P:=fun _=>True)) (fun i zs σ' H'=>(∃ o,σ'=o::Yy src σ)∧i≤n∧I D i zs H') ⟨⟨none,rfl⟩,Nat.zero_le _,i0 D hD⟩ (fun i zs σ' H' q=>⟨trivial,(dl _ _ _ _ q.2.2).2⟩) (Wt 0) ?_ ?_
 ·rintro i zs σ' H' x hx ⟨⟨o,rfl⟩,_,hI⟩
  have hi:i<n:=by have:=(List.getElem?_eq_some_iff.mp hx).1;simpa using this
  rw [List.getElem?_map,List.getElem?_range hi] at hx
  have e:V.int (0+(i:Int))=x:=Option.some.inj hx
  rw [Int.zero_add] at e
  subst e
  have hl:=(dl _ _ _ _ hI).1
  show te (some (.int i)::Yy src σ) H' _
  exact step D i zs H' hD hi hI _ fun y H'' hd hI'=>⟨hd,by omega,⟨_,rfl⟩,hi,hI'⟩
 ·rintro zs σ' H' ⟨_,_,hI⟩
  exact fin D zs H' hD (by simpa using hI)
end
end L2
namespace L2
open PySem PySem.Spec PyProof.Rows
section
variable {g:Gx} {k:Nat} {x qual m:Str} {st:Stmt} {N ps:List Str} {sp:Sp} {C:Addr}
end
section
variable {g:Gx} {X:Cx} {k j:Nat} {x m:Str} {ps:List Str} {sp:Sp} {E:XK} {C:Addr} {e o:Expr} {es:List Expr} {t:TA} {ta:TE} {p pos apos:Pos}
end
section
variable {g:Gx} {X:Cx} {k jj j:Nat} {f c n:Str} {ps:List Str} {sp:Sp} {e:Expr} {es:List Expr} {t:TA} {ts:TS} {b₀:Stmt} {suite:List Stmt} {cv:Value} {fp cp hpos apos cpos pos:Pos}
end
end L2
namespace L2
open PySem PySem.Spec PyProof.Rows
def Ydq (l:List Str) (v:Str):List Str:=if l.any (·==v) then l else l++[v]
def met (val:Nat→Str) (i:Nat):List Str:=((List.range i).map val).foldl Ydq []
section
variable {prog:Program} {w:World} {A:Around} {R:Result→Shared→Prop} {I:Addr} {fp wr:List Addr} {G:Array GenState→Array GenState→Prop} {n:Nat} {P:Nat→Value→Prop} {St:Nat→Shared→Prop}
end
end L2
namespace L2
open PySem PySem.Spec PyProof.Rows
def sg (x:Str) (i:Nat):Str:=⟨#[x.cps.getD i 0]⟩
section
variable {prog:Program} {w:World} {A:Around} {E:Value→Shared→Prop} {s:Shared}
end
def SetO (a:Addr) (n:Nat):HO := .ext fun h=>∃ (o:Obj) (es:Array (Int×Value)) (ep:Nat) (t:SetTable),h.get? a=some o∧o.ExactSet∧o.data = .set es ep t∧t.fits es.size=true∧es.size=n∧n<scanBound
section
variable {X:Cx}
end
end L2
namespace L2
open PySem PySem.Spec PyProof.Rows
section
variable {X:Cx}
end
end L2
namespace L2
open PySem PySem.Spec PyProof.Rows
section
variable {X:Cx}
end
end L2
namespace L2
open PySem PySem.Spec PyProof.Rows
section
variable {X:Cx}
end
end L2
namespace L2
open PySem PySem.Spec PyProof.Rows
theorem UV {xs:List V} {its:List Value} (r:Ym xs its):∀ idx:List Nat,∃ ys,Ym ys (idx.filterMap (its.toArray[·]?))∧(∀ v∈ys,v∈xs)∧ys.length≤idx.length
 | []=>⟨[],.nil,(fun v h=>absurd h (by simp)),Nat.le_refl _⟩
 | i::idx=>by
  obtain ⟨ys,h1,h2,h3⟩:=UV r idx
  cases hx:xs[i]? with
  | none =>
   have hn:=r.none_of hx
   refine ⟨ys,?_,h2,by rw [List.length_cons];omega⟩
   rw [List.filterMap_cons,show its.toArray[i]?=none by simpa using hn]
   exact h1
  | some x =>
   obtain ⟨u,hu,ru⟩:=r.get hx
   refine ⟨x::ys,?_,?_,by rw [List.length_cons,List.length_cons];omega⟩
   ·rw [List.filterMap_cons,show its.toArray[i]?=some u by simpa using hu]
    exact .cons ru h1
   ·intro v hv
    rcases List.mem_cons.mp hv with rfl | hv
    ·exact List.mem_of_getElem? hx
    ·exact h2 v hv
section
variable {X:Cx} {e lo st:Expr} {te tl ts:TE} {pos p2:Pos}
def Yag (K:PySem.W.Frag) (te tl ts:TE):TE:=fun σ H Q=>te σ H fun x H1=>tl σ H1 fun y H2=>ts σ H2 fun z H3 =>
 ∃ (a:Addr) (xs:List V) (k n:Int),x = .ref a∧y = .int k∧z = .int n∧0≤k∧0<n∧SqL K H3 a xs∧∀ p ys,H3 p=none→(∀ v∈ys,v∈xs)→ys.length≤xs.length→Q (.ref p) (upd H3 p (.lst ys))
theorem YbJ (he:PE X e te) (hl:PE X lo tl) (hs:PE X st ts):PE X (.Subscript e (.Slice (some lo) none (some st) p2) pos) (Yag X.K te tl ts):=by
 intro pins s σ H Q I h
 refine Subscript_ (thn (he pins s σ H _ I h) fun v s1 ⟨x,H1,I1,r1,q1⟩=>?_)
 refine wpAny_Slice ?_
 rw [evalPart_some]
 refine thn (hl pins s1 σ H1 _ I1 q1) fun ul s2 ⟨y,H2,I2,r2,q2⟩=>?_
 rw [evalPart_none]
 refine wpAny_pure ?_
 rw [evalPart_some]
 refine thn (hs pins s2 σ H2 _ I2 q2) fun u s3 ⟨z,H3,I3,r3,q3⟩=>?_
 obtain ⟨a,xs,k,n,rfl,rfl,rfl,hk,hn,hx,q⟩:=q3
 obtain ⟨t1,rfl⟩:=r2
 obtain ⟨t2,rfl⟩:=r3
 cases r1
 have I4:Inv X pins σ H3 { s3 with heap:=s3.heap.push { cls := .type "slice",data := .fields #[.int k t1,.none,.int n t2] } }:=I3.kept (t':=s3.toks) fun b ob q=>Heap.get?_push_of_some _ q
 obtain ⟨its,r,ht,hz⟩:=I4.list hx
 have hlen:=r.length
 obtain ⟨ys,v1,v2,v3⟩:=UV r (sliceRange (sliceBounds (some k) none (some n) its.toArray.size).1 (sliceBounds (some k) none (some n) its.toArray.size).2.1 (sliceBounds (some k) none (some n) its.toArray.size).2.2)
 have hb:sliceBounds (some k) none (some n) its.toArray.size=(max 0 (min k its.length),(its.length:Int),n):=by
  simp only [sliceBounds,Option.getD_some,List.size_toArray]
  rw [if_neg (show ¬ k<0 by omega),if_pos (show n>0 by omega),if_pos (show n>0 by omega)]
 have hle:ys.length≤its.length:=by
  refine Nat.le_trans v3 ?_
  rw [hb]
  exact sliceRange_length_le _ _ _ _ (fun _=>⟨by dsimp only;omega,by dsimp only;omega⟩) (fun z=>absurd (show n>0 by omega) z)
 have hg:=wpAny_getItem_list_slice (prog:=X.prog) (w:=X.w) (A:=X.A) (E:=X.xe) (Q:=EP X pins σ Q) ht.isList (Heap.IsSliceOf.new ..) (.int k t1) .none (.int n t2) (by intro z;have:=Option.some.inj z;omega) (by
  refine ⟨.ref _,_,I4.laid (t':=_) (o := .lst ys) (fun b ob q=>Heap.get?_push_of_some _ q) (Nat.le_refl _) ?_,rfl,q _ _ (I4.hok.fresh (Nat.le_refl _)) v2 (by omega)⟩
  exact ⟨by omega,_,0,v1,Heap.get?_push_size _ rfl⟩) (by rw [List.size_toArray]<;>omega)
 exact tail_any (ops:=[.ref a,.ref s3.heap.objs.size]) ht.isList.typeIs slot_list_getitem.lookup hg (by with_unfolding_all rfl)
end
structure ClsFn (K:PySem.W.Frag) (B:Addr) (m:Str) (f:Addr):Prop where
 ga:PySem.W.specialIn K (.ref B) "__getattribute__"=some (some (.builtin "type.__getattribute__"))
 rd:PySem.W.readsIn K B (.type "type")=true
 at_:PySem.W.findCls K (.ref B) (.type "type") m=some (.val (.ref f))
 kp:PySem.W.keepIn K (.ref f)=true
def Gx.Cf (g:Gx) (k:Nat) (x m:Str) (ps:List Str) (sp:Sp):Prop:=∃ B f fd,FnOk g.P g.w g.K g.mg g.base CX0 k f fd ps sp∧Xt g.K fd ps []∧ClsFn g.K B m f∧g.mg x=some (.ref B)
def Gx.RawC (g:Gx) (x m qual:Str) (st:Stmt) (ps:List Str):Prop:=∃ B f fd,Fun g.K m qual st f fd∧Xt g.K fd ps []∧ClsFn g.K B m f∧g.mg x=some (.ref B)
theorem Gx.Cf.mono {g:Gx} {j k:Nat} {x m:Str} {ps:List Str} {sp:Sp} (F:g.Cf j x m ps sp) (h:j≤k):g.Cf k x m ps sp:=by
 obtain ⟨B,f,fd,F,r⟩:=F
 exact ⟨B,f,fd,F.mono h,r⟩
section
variable {g:Gx} {X:Cx} {k j:Nat} {x m:Str} {ps:List Str} {sp:Sp} {e:Expr} {es:List Expr} {t:TA} {p pos apos:Pos}
theorem Qf {pl:Sem Bool} (F:g.Cf j x m ps sp) (hr:Room k X.A) (ha:PA X (e::es) t) (hj:j≤k) (hX:X.gx=g) (hg:Gl X x) (hdb:(x==("__debug__":Str))=false)
  (hst:starEach (e::es) X.env=(false,eval e X.env)::starEach es X.env) (hpl:(backTo pos (starEach es X.env)).any (·.1)=false)
  (ht:eval (.Call (.Attribute (.Name x p) m apos) (e::es) [] pos) X.env=(do
   let ov ← eval (.Name x p) X.env
   standAt apos.atName
   let (f,first) ← holding [ov] (getMethod ov m pl)
   callWith pos f first (backTo pos (starEach (e::es) X.env)) (backToKw pos (keywordEach [] X.env)))):PE X (.Call (.Attribute (.Name x p) m apos) (e::es) [] pos) (V5 sp [] E0 t):=by
 subst hX
 obtain ⟨B,f,fd,F,b,c,hm⟩:=F
 intro pins s σ H Q I h
 refine PySem.W.methodCall_KW (pl:=pl) (thn (Yd8 (g:=X.gx) (pos:=p) hm rfl hg hdb pins s σ H (fun v H1=>v = .ref B∧H1=H) I ⟨rfl,rfl⟩) fun u s1 ⟨v,H1,I1,rv,e1,e2⟩=>?_) ht
 subst e1 e2
 obtain rfl:u=Value.ref B:=rv
 refine PySem.W.method_cls I1.kIn c.ga (PySem.W.cls_value I1.kIn c.rd c.at_ rfl ?_)
 have I2:=I1.tok (s1.toks+1)
 refine PySem.W.callWith_K (h₀:=X.base) I.ok.mod.kin c.kp (thn (ha pos pins _ σ H1 _ I2 h) fun us s2 ⟨vs,H2,I3,r,q2⟩=>⟨I3.kIn,?_⟩) hst hpl
 exact Qm (dvs:=[]) (ds:=[]) F (hr.mono hj) b .nil V8 I3 r q2
end
end L2
namespace L2
open PySem PySem.Spec PyProof.Rows
def Ydr:R2:=fun y x H Q=>∃ a o,x = .ref a∧Qt H a y o∧Q (.bl (!o.isSome)) H
def rInD:R2:=fun y x H Q=>∃ a o,x = .ref a∧Qt H a y o∧Q (.bl o.isSome) H
section
variable {X:Cx}
end
section
variable {K:PySem.W.Frag} {h:Heap} {mg:Str→Option Value} {P:Program} {w:World} {base:Heap} {f B:Addr} {x qual m:Str} {st:Stmt} {ps N:List Str} {oc kV dc pm cd ct:Value} {od an:Option Addr} {sl:Array (Option Value)} {g:Gx} {k:Nat} {sp:Sp}
theorem Gx.RawC.cf (R:g.RawC x m qual st ps) (S:FnScope N ps (Yj st)) (len:∀ vs H Q E,sp vs H Q E→vs.length=ps.length) (b:VW g k N qual st sp):g.Cf (k+1) x m ps sp:=by
 obtain ⟨B,f,fd,F,bd,c,hm⟩:=R
 exact ⟨B,f,fd,F.ok S len fun cdv A outer s H vs Q E hr h=>b f cdv A outer s H vs Q E hr h,bd,c,hm⟩
theorem Yds (X:K.In h) (G:h.Ns mainGlobals mg) (ps:List Str) (aB:PySem.W.nsIn K mainGlobals x=some (some (.ref B))) (ga:PySem.W.specialIn K (.ref B) "__getattribute__"=some (some (.builtin "type.__getattribute__")))
  (rd:PySem.W.readsIn K B (.type "type")=true) (a:PySem.W.findCls K (.ref B) (.type "type") m=some (.val (.ref f)))
  (l:K.lookup f=some ⟨oc,od,.func (PySem.W.fnOf m qual (Xi st) (Y6 st) (Yj st) .none kV dc pm an cd ct),sl⟩) (c:PySem.W.codeIn K cd qual=true) (k:PySem.W.keepIn K (.ref f)=true)
  (b:∀ (kV doc pm:Value) (an:Option Addr) (cdv ct:Value) (us:List Value),us.length=ps.length→bindArgs (PySem.W.fnOf m qual (Xi st) (Y6 st) (Yj st) .none kV doc pm an cdv ct) ⟨us,[]⟩=pure (ps.zip us)) :
  ∀ P w base,(Gx.mk P w K mg base).RawC x m qual st ps:=fun P w base =>
 have F:=Vu (st:=st) l c k
 ⟨B,f,_,F,F.binds b,⟨ga,rd,a,k⟩,PySem.W.mg_of X G aB⟩
end
end L2
namespace L2
def Yah (a b:TE):TE:=fun σ H Q=>a σ H Q∨b σ H Q
theorem YO {X:Cx} {e:PySem.Expr} {a b:TE} (ha:PE X e a) (hb:PE X e b):PE X e (Yah a b):=fun pins s σ H Q I h=>h.elim (fun z=>ha pins s σ H Q I z) (fun z=>hb pins s σ H Q I z)
end L2
namespace L2
open PySem PySem.Spec PyProof.Rows
section
variable {g:TG} {tb:TS} {D:Ends} {σ:St} {H:Hp}
end
end L2
namespace L2
open PySem
end L2
namespace L2
open PySem
end L2
namespace L2
open PySem PySem.Spec PyProof.Rows
section
variable {X:Cx} {elts:List Expr} {kk:Nat} {tpos:Pos}
end
section
variable {tb:TS} {D:Ends} {σ:St} {H:Hp}
end
end L2
namespace L2
open PySem
end L2
namespace L2
open PySem PySem.Spec PyProof.Rows
section
variable {P:Program} {w:World} {H H':Hp} {h h':Heap}
end
def on (H' H:Hp) (cs:List Addr):Hp:=fun b=>if b∈cs then H b else H' b
section
variable {H H':Hp} {cs:List Addr} {b:Addr} {o:HO}
end
abbrev YaT:=List (Str×Addr×V)
section
variable {l:YaT} {H:Hp}
end
section
variable {P:Program} {w:World} {K:PySem.W.Frag} {mg:Str→Option Value} {base:Heap} {N ps:List Str} {qual name:Str} {scope:Scope} {f c:Addr} {A:Around} {outer:List Env} {s:Shared} {H:Hp} {us:List Value} {vs:List V} {l:YaT} {cd:Value}
end
end L2
namespace L2
open PySem PySem.Spec PyProof.Rows
section
variable {X:Cx} {pins:List (Addr×Obj)} {σ:St} {H:Hp} {s:Shared}
end
section
variable {X:Cx} {c P:Addr} {name qual:Str} {params:Arguments} {body:List Stmt} {eb:Expr} {scope:Scope} {clos:List (Str×Addr)} {pos:Pos} {ln:Nat}
end
section
variable {X:Cx} {st:Stmt} {Xv:List Stmt} {t:TS} {u:(St→V→Hp→Prop)→St→Hp→Prop} {e:Expr} {te:TE} {pos:Pos}
end
end L2
namespace L2
open PySem PySem.Spec PyProof.Rows
section
variable {X:Cx} {g:Gx} {k j i:Nat} {x:Str} {p pos:Pos} {e:Expr} {es:List Expr} {t:TA}
end
end L2
namespace HT
open PySem PySem.Spec PyProof.Rows
variable {prog:Program} {w:World} {A:Around} {E:Value→Shared→Prop} {s:Shared}
end HT
namespace L2
open PySem PySem.Spec PyProof.Rows
end L2
namespace L2
open PySem PySem.Spec PyProof.Rows
section
variable {tb:TS} {D:Ends} {σ:St} {H:Hp}
end
section
variable {src:List (Option Nat)} {te:TE} {tt:TT} {σ:St} {H:Hp} {Q:VK}
end
end L2
namespace L2
open PySem PySem.Spec PyProof.Rows
end L2
namespace L2
open PySem PySem.Spec PyProof.Rows
section
variable {g:Gx} {x qual:Str} {st:Stmt} {N ps:List Str} {dvs:List V} {sp:Sp} {j k:Nat}
variable {X:Cx} {p pos:Pos} {e:Expr} {es:List Expr} {t:TA}
end
section
variable {X:Cx}
end
section
variable {src:List (Option Nat)} {te:TE} {σ:St} {H:Hp} {Q:VK}
theorem YbK {K:PySem.W.Frag} {tl:TE} {xs:List V} {b:Addr} (I:Addr→Nat→List V→Hp→Prop) (ha:∀ R:V→Hp→Prop,R (.ref b) H→tl σ H R) (hS:SqL K H b xs) (hlen:xs.length≤100000)
  (i0:∀ D,H D=none→I D 0 [] (upd H D (.lst []))) (dl:∀ D i zs H',H D=none→I D i zs H'→zs.length=i∧H' D=some (.lst zs)∧SqL K H' b xs)
  (step:∀ D (i:Nat) x zs H',H D=none→xs[i]?=some x→I D i zs H'→∀ R:VK,(∀ y H'',H'' D=some (.lst zs)→I D (i+1) (zs++[y]) (upd H'' D (.lst (zs++[y])))→R y H'')→te (some x::Yy src σ) H' R)
  (fin:∀ D zs H',H D=none→I D xs.length zs H'→Q (.ref D) H'):tLC (none::src) (Wq K tl) (Yv 0) Wp te σ H Q:=by
 refine ha _ ⟨b,rfl,⟨xs,hS⟩,fun D hD=>?_⟩
 have h6:100000<sizeLine:=by decide
 refine VJ Ws (fun i zs σ' H'=>(∃ o,σ'=o::Yy src σ)∧i≤xs.length∧I D i zs H') ⟨⟨none,rfl⟩,Nat.zero_le _,i0 D hD⟩ (fun i zs σ' H' q=>⟨(dl _ _ _ _ hD q.2.2).2.2,(dl _ _ _ _ hD q.2.2).2.1⟩) (Wt 0) ?_ ?_
 ·rintro i zs σ' H' x hx ⟨⟨o,rfl⟩,_,hI⟩
  have hi:i<xs.length:=(List.getElem?_eq_some_iff.mp hx).1
  have hl:=(dl _ _ _ _ hD hI).1
  show te (some x::Yy src σ) H' _
  exact step D i x zs H' hD hx hI _ fun y H'' hd hI'=>⟨hd,by omega,⟨_,rfl⟩,hi,hI'⟩
 ·rintro zs σ' H' ⟨_,_,hI⟩
  exact fin D zs H' hD hI
theorem Ug {ta:TA} {n:Nat} (f:Nat→V) (ha:∀ R:List V→Hp→Prop,(∀ H1,Yl H H1→R [.int n] H1)→ta σ H R) (hlen:n≤100000)
  (step:∀ (i:Nat) H',i<n→Yl H H'→∀ R:VK,(∀ H'',Yl H' H''→R (f i) H'')→te (some (.int i)::Yy src σ) H' R)
  (fin:∀ D H',H D=none→Yl H H'→H' D=some (.lst ((List.range n).map f))→Q (.ref D) H'):tLC (none::src) (V1 ta) (Yv 0) Wp te σ H Q:=by
 refine ha _ fun H1 s1=>⟨n,rfl,by omega,by omega,fun D hD=>?_⟩
 refine YbF (WR (lo:=0) (n:=n) (P:=fun _=>True)) ((List.range n).map f) (fun _ _=>trivial) hD (by simp) (by simpa using hlen) (fun i x y H' hx hy sm R r=>?_) fun H' sm hd=>fin D H' (s1.free hD) (s1.trans sm) hd
 have hi:i<n:=by have:=(List.getElem?_eq_some_iff.mp hx).1;simpa using this
 rw [List.getElem?_map,List.getElem?_range hi] at hx hy
 have e:V.int (0+(i:Int))=x:=Option.some.inj hx
 rw [Int.zero_add] at e
 have e2:f i=y:=Option.some.inj hy
 subst e e2
 exact step i H' hi (s1.trans sm) R r
end
end L2
namespace L2
open PySem PySem.Spec PyProof.Rows
mutual
inductive RK (h:Heap):Value→PyData→Prop
 | int (i:Int) (t:Tok):RK h (.int i t) (.int i)
 | str (x:Str) (t:Tok) (hx:PyData.strOk x=true):RK h (.str x t) (.str x)
 | tup {a:Addr} {o:Obj} {vs:Array Value} {n:Nat} {ds:List PyData}:h.get? a=some o→o.cls = .type "tuple"→o.data = .seq vs n→RKs h vs.toList ds→RK h (.ref a) (.tuple ds)
inductive RKs (h:Heap):List Value→List PyData→Prop
 | nil:RKs h [] []
 | cons {v:Value} {d:PyData} {vs:List Value} {ds:List PyData}:RK h v d→RKs h vs ds→RKs h (v::vs) (d::ds)
end
mutual
inductive KO:PyData→Prop
 | int (i:Int):KO (.int i)
 | str (x:Str):KO (.str x)
 | tup {ds:List PyData}:KOs ds→KO (.tuple ds)
inductive KOs:List PyData→Prop
 | nil:KOs []
 | cons {d:PyData} {ds:List PyData}:KO d→KOs ds→KOs (d::ds)
end
mutual
theorem RK.ko {h:Heap}:∀ {v:Value} {d:PyData},RK h v d→KO d
 | _,_,.int i t => .int i
 | _,_,.str x t _ => .str x
 | _,_,.tup _ _ _ hs => .tup hs.ko
theorem RKs.ko {h:Heap}:∀ {vs:List Value} {ds:List PyData},RKs h vs ds→KOs ds
 | _,_,.nil => .nil
 | _,_,.cons a b => .cons a.ko b.ko
end
mutual
theorem RK.reads {h:Heap}:∀ {v:Value} {d:PyData},RK h v d→(∃ as,Reads h v d as)∧d.canLay0=true
 | _,_,.int i t=>⟨⟨_,.int i t⟩,rfl⟩
 | _,_,.str x t hx=>⟨⟨_,.str x t⟩,by simpa [PyData.canLay0] using hx⟩
 | _,_,.tup h1 h2 h3 hs=>by
  obtain ⟨⟨as,r⟩,l⟩:=hs.reads
  exact ⟨⟨_,.tuple h1 h2 h3 r⟩,by rw [PyData.canLay0];exact l⟩
theorem RKs.reads {h:Heap}:∀ {vs:List Value} {ds:List PyData},RKs h vs ds→(∃ as,ReadsAll h vs ds as)∧PyData.canLayAll0 ds=true
 | _,_,.nil=>⟨⟨_,.nil⟩,rfl⟩
 | _,_,.cons a b=>by
  obtain ⟨⟨as,r⟩,l⟩:=a.reads
  obtain ⟨⟨bs,r'⟩,l'⟩:=b.reads
  exact ⟨⟨_,.cons r r'⟩,by rw [PyData.canLayAll0,l,l'];rfl⟩
end
theorem RK.of {h:Heap} {d:PyData} {v:Value} {as:List Addr} (k:KO d) (r:Reads h v d as) (l:d.canLay0=true):RK h v d:=by
 induction k using KO.rec (motive_2:=fun ds _=>∀ {vs:List Value} {as:List Addr},ReadsAll h vs ds as→PyData.canLayAll0 ds=true→RKs h vs ds) generalizing v as with
 | int i=>cases r with | int _ t=>exact .int i t
 | str x=>cases r with | str _ t=>exact .str x t (by simpa [PyData.canLay0] using l)
 | tup _ ih=>cases r with | tuple h1 h2 h3 hs=>exact .tup h1 h2 h3 (ih hs (by rw [PyData.canLay0] at l;exact l))
 | nil=>rename_i r l;cases r;exact .nil
 | cons _ _ ih ihs =>
  rename_i r l
  rw [PyData.canLayAll0,Bool.and_eq_true] at l
  cases r with | cons r rs=>exact .cons (ih r l.1) (ihs rs l.2)
theorem RK.inj {h:Heap} {d:PyData} {v:Value} {e:PyData} (a:RK h v d) (b:RK h v e):d=e:=by
 obtain ⟨⟨_,r⟩,l⟩:=a.reads
 obtain ⟨⟨_,r'⟩,_⟩:=b.reads
 exact (r.unique _ _ r').1
mutual
theorem RK.keeps {h h':Heap} {x:Addr} {o:Obj} {es:Array DictEntry} {ep:Nat} (ho:h.get? x=some o) (hd:o.data = .dict es ep) (hs:Heap.SameBut x h h'):∀ {v:Value} {d:PyData},RK h v d→RK h' v d
 | _,_,.int i t => .int i t
 | _,_,.str y t hy => .str y t hy
 | _,_,.tup (a:=a) h1 h2 h3 ks=>by
  have hne:a≠x:=by
   rintro rfl
   rw [ho] at h1
   cases h1
   rw [hd] at h3
   exact nomatch h3
  exact .tup ((hs.2 a hne).trans h1) h2 h3 (RKs.keeps ho hd hs ks)
theorem RKs.keeps {h h':Heap} {x:Addr} {o:Obj} {es:Array DictEntry} {ep:Nat} (ho:h.get? x=some o) (hd:o.data = .dict es ep) (hs:Heap.SameBut x h h'):∀ {vs:List Value} {ds:List PyData},RKs h vs ds→RKs h' vs ds
 | _,_,.nil => .nil
 | _,_,.cons a b => .cons (RK.keeps ho hd hs a) (RKs.keeps ho hd hs b)
end
noncomputable instance decPy:DecidableEq PyData:=fun a b=>Classical.propDecidable (a=b)
mutual
theorem KO.eqv:∀ {d e:PyData},KO d→KO e→d.eqv e=decide (d=e)
 | .int a,.int b,_,_=>by
  by_cases h:a=b
  ·subst h;simp [PyData.eqv]
  ·simp [PyData.eqv,h]
 | .str a,.str b,_,_=>by
  by_cases h:a=b
  ·subst h;simp [PyData.eqv]
  ·simp [PyData.eqv,h]
 | .int a,.str b,_,_=>by simp [PyData.eqv]
 | .str a,.int b,_,_=>by simp [PyData.eqv]
 | .int a,.tuple b,_,_=>by simp [PyData.eqv]
 | .str a,.tuple b,_,_=>by simp [PyData.eqv]
 | .tuple a,.int b,_,_=>by simp [PyData.eqv]
 | .tuple a,.str b,_,_=>by simp [PyData.eqv]
 | .tuple a,.tuple b,.tup x,.tup y=>by
  rw [PyData.eqv,KOs.eqv x y]
  by_cases h:a=b
  ·subst h;simp
  ·simp [h]
theorem KOs.eqv:∀ {ds es:List PyData},KOs ds→KOs es→PyData.eqvAll ds es=decide (ds=es)
 | [],[],_,_=>by simp [PyData.eqvAll]
 | [],_::_,_,_=>by simp [PyData.eqvAll]
 | _::_,[],_,_=>by simp [PyData.eqvAll]
 | d::ds,e::es,.cons x xs,.cons y ys=>by
  rw [PyData.eqvAll,KO.eqv x y,KOs.eqv xs ys]
  by_cases h:d=e
  ·subst h
   by_cases h2:ds=es
   ·subst h2;simp
   ·simp [h2]
  ·simp [h]
end
section
variable {P:Program} {w:World}
mutual
def kh (P:Program) (w:World):PyData→Int
 | .int i=>(YY P w).hash (.inl i)
 | .str x=>(YY P w).hash (.inr x)
 | .tuple ds=>reduceHash (Builtin.Tuple.tupleHashOf (khs P w ds))
 | _=>0
def khs (P:Program) (w:World):List PyData→List Int
 | []=>[]
 | d::ds=>kh P w d::khs P w ds
end
mutual
def kdr:PyData→Nat
 | .int _=>1
 | .str _=>1
 | .tuple ds=>Wa ds+1
 | _=>0
def Wa:List PyData→Nat
 | []=>0
 | d::ds=>kdr d+Wa ds
end
theorem Ydt (a b:List PyData):khs P w (a++b)=khs P w a++khs P w b:=by
 induction a with
 | nil=>simp [khs]
 | cons x a ih=>simp [khs,ih]
theorem Ycr (a b:List PyData):Wa (a++b)=Wa a+Wa b:=by
 induction a with
 | nil=>simp [Wa]
 | cons x a ih=>simp [Wa,ih,Nat.add_assoc]
theorem Ycs (a b:List PyData):PyData.depthAll (a++b)=max (PyData.depthAll a) (PyData.depthAll b):=by
 induction a with
 | nil=>simp [PyData.depthAll]
 | cons x a ih=>simp [PyData.depthAll,ih,Nat.max_assoc]
theorem Uh {s:Shared} {a:Addr} {o:Obj} (h1:s.heap.get? a=some o) (h2:o.cls = .type "tuple"):s.TypeIs (.ref a) "tuple":=⟨o,h1,h2⟩
theorem Yai:∀ (n:Nat) {A:Around} {E:Value→Shared→Prop} {s:Shared} {v:Value} {d:PyData} {Q:Int→Shared→Prop},RK s.heap v d→d.depth≤n→A.units+n<cLine→Q (kh P w d) { s with toks:=s.toks+kdr d }→wpAny (model P w) A (pyHash v) Q E s
 | n,A,E,s,_,_,Q,.int i t,_,_,h=>(YY P w).pyHash (V9 (k := .inl i) (show Yr (.int i) (.int i t) from ⟨t,rfl⟩)) (by simpa [kh,kdr] using h)
 | n,A,E,s,_,_,Q,.str x t _,_,_,h=>(YY P w).pyHash (V9 (k := .inr x) (show Yr (.str x) (.str x t) from ⟨t,rfl⟩)) (by simpa [kh,kdr] using h)
 | 0,A,E,s,_,_,Q,.tup _ _ _ _,hd,_,h=>by simp [PyData.depth] at hd
 | n+1,A,E,s,_,_,Q,.tup (a:=a) (ds:=ds) h1 h2 h3 ks,hd,hu,h=>by
  have hT:=Uh h1 h2
  unfold pyHash
  first | unfold pyHashByItsType | skip
  first | refine wpAny_bind (wpAny_cRoomFor_or (.inr (by omega)) ?_) | skip
  refine wpAny_bind (wpAny_specialOf hT F.slot_tuple_hash.lookup ?_)
  show wpAny _ _ (if (some (Value.builtin "tuple.__hash__")==some Value.none)=true then _ else _) Q E s
  rw [if_neg (by rw [beq_builtin_none];exact Bool.false_ne_true)]
  refine wpAny_bind (wpAny_specialOf hT F.slot_tuple_hash.lookup ?_)
  refine wpAny_bind (wpAny_callSpecialIfBoundUnlessNone?_slot hT F.slot_tuple_hash (wpAny_call_entry F.slot_tuple_hash hT F.entry_tuple_hash ?_ (F.args_tuple_hash_1 _)))
  show wpAny _ _ (Builtin.Tuple.tupleItemsOf (.ref a) >>= _) _ _ s
  refine wpAny_bind (wpAny_tupleItemsOf h1 h3 ?_)
  refine wpAny_bind ?_
  rw [← Array.forIn_toList]
  have hdd:PyData.depthAll ds≤n:=by simp only [PyData.depth] at hd;omega
  refine wpAny_forIn_list _ (fun Xv (b:Array Int) s'=>∃ done left,ds=done++left∧RKs s.heap Xv left∧b.toList=khs P w done∧s'={ s with toks:=s.toks+Wa done }) _ ?_ ?_ _ _ ⟨[],ds,rfl,ks,by simp [khs],by simp [Wa]⟩
  ·rintro x Xv b s' ⟨done,left,e,hl,hb,rfl⟩
   cases hl with
   | @cons _ d _ ds' hk hl' =>
    have hdk:d.depth≤n:=by
     rw [e,Ycs] at hdd
     simp only [PyData.depthAll] at hdd
     omega
    have hin:A.in1.units+n<cLine:=by
     have:A.in1.units=A.units+1:=rfl
     omega
    refine wpAny_bind (Yai n (s:={ s with toks:=s.toks+Wa done }) hk hdk hin ?_)
    have fin:∃ done' left',ds=done'++left'∧RKs s.heap Xv left'∧(b.push (kh P w d)).toList=khs P w done'∧({ s with toks:=s.toks+Wa done+kdr d }:Shared)={ s with toks:=s.toks+Wa done' } :=
     ⟨done++[d],ds',by rw [e];simp,hl',by rw [Ydt,Array.toList_push,hb];simp [khs],by rw [Ycr];simp [Wa,Nat.add_assoc]⟩
    first
     | exact wpAny_pure fin
     | exact wpAny_bind (wpAny_pure (wpAny_pure fin))
  ·rintro b s' ⟨done,left,e,hl,hb,rfl⟩
   cases hl
   rw [List.append_nil] at e
   subst e
   show wpAny _ _ (retInt (Builtin.Tuple.tupleHashOf b.toList)) _ _ _
   rw [hb]
   refine wpAny_ret_mkInt ?_
   simp only [kh,kdr] at h
   unfold reduceHash at h
   show wpAny _ _ (if (decide (-(2:Int)^63≤Builtin.Tuple.tupleHashOf (khs P w ds))&&decide (Builtin.Tuple.tupleHashOf (khs P w ds)<2^63))=true then _ else _) Q E _
   by_cases hr:(decide (-(2:Int)^63≤Builtin.Tuple.tupleHashOf (khs P w ds))&&decide (Builtin.Tuple.tupleHashOf (khs P w ds)<2^63))=true
   ·rw [if_pos hr]
    rw [if_pos hr] at h
    exact wpAny_pure (by simpa [Nat.add_assoc] using h)
   ·rw [if_neg hr]
    rw [if_neg hr] at h
    exact wpAny_bind (wpAny_rule (wpAny_pure (by simpa [Nat.add_assoc] using h)))
theorem Qx:∀ (n:Nat) {A:Around} {E:Value→Shared→Prop} {s:Shared} {v:Value} {d:PyData} {Q:Bool→Shared→Prop},RK s.heap v d→d.depth≤n→Q true s→wpAny (model P w) A (eqIsQuiet n v) Q E s
 | n,A,E,s,_,_,Q,.int i t,_,h=>by rw [eqIsQuiet_byValue _ (by rfl)];exact wpAny_pure h
 | n,A,E,s,_,_,Q,.str x t _,_,h=>by rw [eqIsQuiet_byValue _ (by rfl)];exact wpAny_pure h
 | 0,A,E,s,_,_,Q,.tup _ _ _ _,hd,h=>by simp [PyData.depth] at hd
 | n+1,A,E,s,_,_,Q,.tup (a:=a) (ds:=ds) h1 h2 h3 ks,hd,h=>by
  have hT:=Uh h1 h2
  have hdd:PyData.depthAll ds≤n:=by simp only [PyData.depth] at hd;omega
  unfold eqIsQuiet
  refine wpAny_bind (wpAny_specialOf hT F.slot_tuple_eq.lookup ?_)
  refine wpAny_bind (wpAny_isInstance hT isSubtype_tuple_tuple ?_)
  simp only [Bool.not_true,Bool.false_eq_true,if_false]
  refine wpAny_bind (wpAny_seqItems h1 h3 ?_)
  refine wpAny_bind ?_
  rw [Option.getD_some,← Array.forIn_toList]
  refine wpAny_forIn_list _ (fun Xv r s'=>r.1=none∧s'=s∧∃ left,RKs s.heap Xv left∧PyData.depthAll left≤n) _ ?_ ?_ _ _ ⟨rfl,rfl,ds,ks,hdd⟩
  ·rintro v Xv r s' ⟨hr,rfl,left,hl,hdl⟩
   cases hl with
   | @cons _ d _ ds' hk hl' =>
    simp only [PyData.depthAll] at hdl
    refine wpAny_bind (Qx n hk (by omega) ?_)
    simp only [Bool.not_true,Bool.false_eq_true,if_false]
    exact wpAny_pure ⟨rfl,rfl,ds',hl',by omega⟩
  ·rintro ⟨r1,r2⟩ s' ⟨hr,rfl,_⟩
   simp only at hr
   subst hr
   exact wpAny_pure h
noncomputable def deepKind (P:Program) (w:World):HeapKind P w PyData where
 is:=fun h d a=>RK h (.ref a) d∧d.depth≤8
 hash:=kh P w
 draws:=kdr
 room:=fun A=>A.units+8<cLine
 inj:=fun hx hy=>hx.1.inj hy.1
 keeps:=fun x ho hd hs=>⟨x.1.keeps ho hd hs,x.2⟩
 pyHash:=fun hu hk h=>Yai 8 hk.1 hk.2 hu h
 eqBool:=fun {A E s x y a b Q} hu hx hy h=>by
  obtain ⟨⟨as,r1⟩,l1⟩:=hx.1.reads
  obtain ⟨⟨bs,r2⟩,l2⟩:=hy.1.reads
  have hm:min x.depth y.depth≤8:=Nat.le_trans (Nat.min_le_left _ _) hx.2
  exact SeqAt.eqAt_reads x y A s _ _ _ _ r1 r2 l1 l2 (by omega) P w E Q (by rw [KO.eqv hx.1.ko hy.1.ko];exact h)
 quiet:=fun hk h=>Qx 8 hk.1 hk.2 h
end
abbrev Dx:=List (PyData×Addr×Addr)
def XA (x:PyData×Addr×Addr):PyData×Addr×Value:=(x.1,x.2.1,.ref x.2.2)
noncomputable def DDi (P:Program) (w:World) (a:Addr) (xs:Dx):HO := .ext fun h=>(a==sysModules)=false∧∃ o es ep,h.get? a=some o∧o.ExactDict∧o.data = .dict es ep∧es.toList=(xs.map XA).map (entryOfKey (deepKind P w))
theorem Qy {P:Program} {w:World} {H:Hp} {h:Heap} {a:Addr} {xs:Dx} (hd:(a==sysModules)=false) (e:∃ o es ep,h.get? a=some o∧o.ExactDict∧o.data = .dict es ep∧es.toList=(xs.map XA).map (entryOfKey (deepKind P w))):YG P w H h a (DDi P w a xs):=by
 refine ⟨⟨hd,e⟩,?_,fun h1 h2 p k=>?_⟩
 ·obtain ⟨o,es,ep,h1,_⟩:=e
  exact ⟨o,h1⟩
 ·obtain ⟨q,o,es,ep,g1,g2⟩:=p
  exact ⟨q,o,es,ep,k _ g1,g2⟩
structure DK (K:PySem.W.Frag) (H:Hp) (b:Addr) (d:PyData):Prop where
 den:Den K H (.ref b) d
 ko:KO d
 dp:d.depth≤8
theorem DK.keep {K:PySem.W.Frag} {H H':Hp} {b:Addr} {d:PyData} (h:DK K H b d) (s:Yl H H'):DK K H' b d:=⟨h.den.keep s,h.ko,h.dp⟩
noncomputable def lookD (xs:Dx) (d:PyData):Option Addr:=(xs.find? fun x=>decide (x.1=d)).map (·.2.2)
structure DictD (P:Program) (w:World) (K:PySem.W.Frag) (H:Hp) (a:Addr) (xs:Dx):Prop where
 at_:H a=some (DDi P w a xs)
 nd:(xs.map (·.1)).Nodup
 len:xs.length≤1000
 keys:∀ x∈xs,DK K H x.2.1 x.1
section
variable {X:Cx} {pins:List (Addr×Obj)} {σ:St} {H:Hp} {s:Shared} {a b:Addr} {d:PyData} {xs:Dx} {u r:Value} {A:Around} {E:Value→Shared→Prop}
theorem Ui (I:Inv X pins σ H s) (h:DK X.K H b d):(deepKind X.prog X.w).is s.heap d b:=by
 obtain ⟨as,r⟩:=h.den.reads I (show Yr (.ref b) (.ref b) from rfl)
 exact ⟨RK.of h.ko r h.den.lay,h.dp⟩
theorem Uj (I:Inv X pins σ H s) (h:DictD X.prog X.w X.K H a xs):(a==sysModules)=false∧s.heap.DictOfH (deepKind X.prog X.w) a (xs.map XA):=by
 obtain ⟨⟨hd,o,es,ep,h1,h2,h3,h4⟩,_⟩:=(show YG X.prog X.w H s.heap a (DDi X.prog X.w a xs) from I.hok a _ h.at_)
 refine ⟨hd,o,es,ep,h1,h2,h3,h4,fun x hx=>?_,?_⟩
 ·obtain ⟨y,hy,rfl⟩:=List.mem_map.mp hx
  exact Ui I (h.keys y hy)
 ·have:(xs.map XA).map (·.1)=xs.map (·.1):=by rw [List.map_map];rfl
  rw [this];exact h.nd
theorem Wj (xs:Dx) (d:PyData):(atKey (xs.map XA) d).map (·.2)=(lookD xs d).map Value.ref:=by
 induction xs with
 | nil=>rfl
 | cons x xs ih =>
  by_cases h:x.1=d
  ·simp [atKey,lookD,List.find?_cons,XA,h]
  ·simp only [atKey,lookD,List.map_cons,List.find?_cons,XA,h] at ih ⊢
   simpa using ih
theorem YaU {p:Addr} {Q:Value→Shared→Prop} (hu:A.units+9<cLine) (I:Inv X pins σ H s) (g:DictD X.prog X.w X.K H a xs) (k:DK X.K H b d) (l:lookD xs d=some p) (h:∀ s',Inv X pins σ H s'→Q (.ref p) s') :
  wpAny (model X.prog X.w) A (getItem (.ref a) (.ref b)) Q E s:=by
 obtain ⟨hd,dd⟩:=Uj I g
 have e:=Wj xs d
 rw [l] at e
 obtain ⟨q,hq,hq2⟩:=Option.map_eq_some_iff.mp e
 refine wpAny_getItem_heap (show A.in1.units+8<cLine from by have:A.in1.units=A.units+1:=rfl;omega) (Ui I k) dd hq ?_
 rw [hq2]
 exact h _ (I.tok _)
theorem Yct {Q:Value→Shared→Prop} (hu:A.units+9<cLine) (I:Inv X pins σ H s) (g:DictD X.prog X.w X.K H a xs) (k:DK X.K H b d) (h:∀ s',Inv X pins σ H s'→Q (.bool (!(lookD xs d).isSome)) s') :
  wpAny (model X.prog X.w) A (compareOp .NotIn (.ref b) (.ref a)) Q E s:=by
 obtain ⟨hd,dd⟩:=Uj I g
 refine wpAny_notIn_heap (show A.in1.units+8<cLine from by have:A.in1.units=A.units+1:=rfl;omega) (Ui I k) hd dd ?_
 have e:=congrArg Option.isSome (Wj xs d)
 rw [Option.isSome_map,Option.isSome_map] at e
 rw [e]
 exact h _ (I.tok _)
theorem Uk {p:Addr} {Q:Unit→Shared→Prop} (hu:A.units+9<cLine) (I:Inv X pins σ H s) (g:DictD X.prog X.w X.K H a xs) (k:DK X.K H b d) (l:lookD xs d=none) (hl:xs.length<1000) (h:∀ s',Inv X pins σ (upd H a (DDi X.prog X.w a (xs++[(d,b,p)]))) s'→Q () s') :
  wpAny (model X.prog X.w) A (setItem (.ref a) (.ref b) (.ref p)) Q E s:=by
 obtain ⟨hd,dd⟩:=Uj I g
 have hz:(xs.map XA).length≤sizeLine:=by rw [List.length_map];exact Nat.le_trans (Nat.le_of_lt hl) (by decide)
 refine wpAny_setItem_heap (hsz:=hz) (show A.in1.units+8<cLine from by have:A.in1.units=A.units+1:=rfl;omega) (Ui I k) dd fun h' dd' hs=>h _ ?_
 have e:atKey (xs.map XA) d=none:=by
  have e:=Wj xs d
  rw [l] at e
  cases q:atKey (xs.map XA) d with
  | none=>rfl
  | some z=>rw [q] at e;cases e
 rw [storedH_new e] at dd'
 obtain ⟨q,es,ep,hq,h2,h3,h4,_,h5⟩:=dd'
 refine VI I (by rw [g.at_];exact True.intro) hs ⟨q,hq⟩ (Qy hd ⟨q,es,ep,hq,h2,h3,?_⟩)
 rw [h4,List.map_append (f:=XA)]
 rfl
end
def Ul (P:Program) (w:World) (K:PySem.W.Frag) (td ty:TE):TE:=fun σ H Q=>td σ H fun x H1=>ty σ H1 fun y H2=>∃ a b xs d p,x = .ref a∧y = .ref b∧DictD P w K H2 a xs∧DK K H2 b d∧lookD xs d=some p∧Q (.ref p) H2
def YbL (P:Program) (w:World) (K:PySem.W.Frag) (td ty tv:TE):TS:=fun D σ H=>tv σ H fun v H1=>td σ H1 fun x H2=>ty σ H2 fun y H3=>∃ a b xs d p,v = .ref p∧x = .ref a∧y = .ref b∧DictD P w K H3 a xs∧DK K H3 b d∧lookD xs d=none∧xs.length<1000∧D.nx σ (upd H3 a (DDi P w a (xs++[(d,b,p)])))
def Yd9 (P:Program) (w:World):TE:=fun _ H Q=>∀ p,H p=none→Q (.ref p) (upd H p (DDi P w p []))
section
variable {X:Cx} {o i e value:Expr} {pos pos' tpos:Pos} {td ty tv:TE} {k:Nat}
theorem Vw {A:Around} {k:Nat} (hr:Room k A):A.units+9<cLine:=Nat.lt_of_le_of_lt (Nat.add_le_add_left (by decide:9≤64) _) hr.units
theorem Ycu (hr:Room k X.A) (ho:PE X o td) (hi:PE X i ty) (hs:NoSl i):PE X (.Subscript o i pos) (Ul X.prog X.w X.K td ty):=by
 intro pins s σ H Q I h
 refine Yac PySem.F.slot_dict_getitem.lookup hs (thn (ho pins s σ H _ I h) fun u s1 ⟨x,H1,I1,rx,q1⟩=>thn (hi pins s1 σ H1 _ I1 q1) fun iv s2 ⟨y,H2,I2,ry,a,b,xs,d,p,ex,ey,g,kk,l,q2⟩=>?_)
 subst ex ey
 obtain rfl:u=Value.ref a:=rx
 obtain rfl:iv=Value.ref b:=ry
 exact ⟨(Uj I2 g).2.typeIs,YaU (Vw hr) I2 g kk l fun s3 I3=>⟨.ref p,H2,I3,rfl,q2⟩⟩
theorem Ycv (hr:Room k X.A) (ho:PE X o td) (hi:PE X i ty) (hv:PE X value tv) (hs:swapsWith value (some (.Subscript o i pos')) pos.line X.env=pure false) :
  PS X (.Assign [.Subscript o i pos'] value pos) (YbL X.prog X.w X.K td ty tv):=by
 intro pins s σ H D I h
 refine wpAny_Assign_Subscript (thn (hv pins s σ H _ I h) fun r s1 ⟨v,H1,I1,rv,q1⟩=>thn (ho pins s1 σ H1 _ I1 q1) fun u s2 ⟨x,H2,I2,rx,q2⟩=>thn (hi pins s2 σ H2 _ I2 q2) fun iv s3 ⟨y,H3,I3,ry,a,b,xs,d,p,ev,ex,ey,g,kk,l,hl,q3⟩=>?_) hs
 subst ex ey ev
 obtain rfl:u=Value.ref a:=rx
 obtain rfl:iv=Value.ref b:=ry
 obtain rfl:r=Value.ref p:=rv
 exact Uk (Vw hr) I3 g kk l hl fun s4 I4=>⟨σ,_,I4,q3⟩
theorem Ycw:PE X (.Dict [] [] pos) (Yd9 X.prog X.w):=fun pins s σ H Q I h =>
 wpAny_Dict_empty ⟨.ref s.heap.objs.size,_,I.laid (a:=s.heap.objs.size) (o:=DDi X.prog X.w s.heap.objs.size []) (t':=s.toks) (fun _ _ q=>Heap.get?_push_of_some _ q) (Nat.le_refl _) (Qy (beq_eq_false_iff_ne.mpr (Ne.symm (Nat.ne_of_lt I.big))) ⟨_,#[],0,Heap.get?_push_size _ rfl,⟨rfl,rfl,rfl⟩,rfl,rfl⟩),rfl,h _ (I.hok.fresh (Nat.le_refl _))⟩
end
def XC (H H':Hp):Prop:=∀ b xs,Rd H b (.tup xs)→Rd H' b (.tup xs)
theorem XC.sq {K:PySem.W.Frag} {H H':Hp} (t:XC H H') {b:Addr} {xs:List V} (h:SqT K H b xs):SqT K H' b xs:=by
 rcases h with h | h
 ·exact .inl (t _ _ h)
 ·exact .inr h
theorem YK {H H':Hp} (s:Yl H H'):XC H H':=fun b xs h=>by
 rcases h with h | ⟨o,h⟩
 ·exact .inl (s _ _ h)
 ·exact .inr ⟨o,s _ _ h⟩
theorem Xx {H H':Hp} {P:Addr} {u:HO} (hk:∀ b o,b≠P→H b=some o→H' b=some o) (hP:H P=some u) (h1:∀ xs,u ≠ .tup xs) (h2:∀ o v,u ≠ .frz o v):XC H H':=fun b xs h=>by
 rcases h with h | ⟨o,h⟩
 ·exact .inl (hk _ _ (Y3 h hP (fun z=>h1 _ z.symm)) h)
 ·exact .inr ⟨o,hk _ _ (Y3 h hP (fun z=>h2 _ _ z.symm)) h⟩
theorem Vd {K:PySem.W.Frag} {H H':Hp} (t:XC H H') {d:PyData} {v:V} (k:KO d) (r:Den K H v d):Den K H' v d:=by
 induction k using KO.rec (motive_2:=fun ds _=>∀ {vs:List V},Dens K H vs ds→Dens K H' vs ds) generalizing v with
 | int i=>cases r with | int _=>exact .int i
 | str x=>cases r with | str _ h=>exact .str x h
 | tup _ ih=>cases r with | tup h hs=>exact .tup (t.sq h) (ih hs)
 | nil=>rename_i r;cases r;exact .nil
 | cons _ _ ih ihs=>rename_i r;cases r with | cons a b=>exact .cons (ih a) (ihs b)
theorem DK.tupk {K:PySem.W.Frag} {H H':Hp} {b:Addr} {d:PyData} (h:DK K H b d) (t:XC H H'):DK K H' b d:=⟨Vd t h.ko h.den,h.ko,h.dp⟩
theorem DictD.keep {P:Program} {w:World} {K:PySem.W.Frag} {H H':Hp} {a:Addr} {xs:Dx} (h:DictD P w K H a xs) (t:XC H H') (e:H' a=some (DDi P w a xs)):DictD P w K H' a xs:=⟨e,h.nd,h.len,fun x hx=>(h.keys x hx).tupk t⟩
theorem YaV {xs:Dx} {d:PyData} (h:lookD xs d=none):d∉xs.map (·.1):=by
 intro hm
 obtain ⟨x,hx,rfl⟩:=List.mem_map.mp hm
 unfold lookD at h
 rw [Option.map_eq_none_iff,List.find?_eq_none] at h
 exact h x hx (by simp)
theorem Wu (xs:Dx) (d e:PyData) (b p:Addr) (h:lookD xs d=none):lookD (xs++[(d,b,p)]) e=if e=d then some p else lookD xs e:=by
 unfold lookD
 rw [List.find?_append]
 by_cases c:e=d
 ·subst c
  have h':xs.find? (fun x=>decide (x.1=e))=none:=by
   unfold lookD at h
   rwa [Option.map_eq_none_iff] at h
  rw [h',if_pos rfl]
  simp
 ·rw [if_neg c]
  have:([(d,b,p)]:Dx).find? (fun x=>decide (x.1=e))=none:=by simp [Ne.symm c]
  rw [this]
  simp
theorem DictD.put {P:Program} {w:World} {K:PySem.W.Frag} {H:Hp} {a b p:Addr} {d:PyData} {xs:Dx} (h:DictD P w K H a xs) (k:DK K H b d) (l:lookD xs d=none) (hl:xs.length<1000):DictD P w K (upd H a (DDi P w a (xs++[(d,b,p)]))) a (xs++[(d,b,p)]):=by
 have t:XC H (upd H a (DDi P w a (xs++[(d,b,p)]))):=Xx (fun b o hb e=>by rw [Yb hb];exact e) h.at_ (by intro xs z;cases z) (by intro o v z;cases z)
 refine ⟨Yc,?_,by rw [List.length_append,List.length_singleton];omega,fun x hx=>?_⟩
 ·rw [List.map_append]
  refine List.nodup_append.mpr ⟨h.nd,by simp,fun x hx y hy e=>?_⟩
  subst e
  have:x=d:=by simpa using hy
  subst this
  exact YaV l hx
 ·rcases List.mem_append.mp hx with hx | hx
  ·exact (h.keys x hx).tupk t
  ·have:x=(d,b,p):=by simpa using hx
   subst this
   exact k.tupk t
theorem YbM {P:Program} {w:World} {K:PySem.W.Frag} {H:Hp} {a:Addr} (h:H a=some (DDi P w a [])):DictD P w K H a []:=⟨h,by simp,by simp,fun x hx=>by cases hx⟩
section
variable {X:Cx} {k:Nat}
theorem YaW (hr:Room k X.A):OpR X (compareOp .NotIn) (fun y x H Q=>∃ a b xs d,x = .ref a∧y = .ref b∧DictD X.prog X.w X.K H a xs∧DK X.K H b d∧Q (.bl (!(lookD xs d).isSome)) H):=by
 intro pins s σ H y x u v Q I ry rx h
 obtain ⟨a,b,xs,d,rfl,rfl,g,kk,q⟩:=h
 cases (show u=Value.ref b from ry)
 cases (show v=Value.ref a from rx)
 exact Yct (Vw hr) I g kk fun s' I'=>⟨.bl (!(lookD xs d).isSome),H,I',rfl,q⟩
end
section
variable {X:Cx} {e:Expr} {f:Str} {pos:Pos} {ta:TE}
end
end L2
namespace L2
open PySem PySem.Spec PyProof.Rows
end L2
namespace L2
open PySem PySem.Spec PyProof.Rows
theorem Yea {X:Cx} {g:Gx} {j k:Nat} {x:Str} {C:Addr} {ps:List Str} {sp:Sp} {p pos:Pos} (F:g.Ma j x C ps sp) (hr:Room k X.A) (hj:j+1≤k) (hX:X.gx=g) (hg:Gl X x) (hdb:(x==("__debug__":Str))=false) :
  PE X (.Call (.Name x p) [] [] pos) (V6 C sp [] E0 Uz):=by
 subst hX
 obtain ⟨f,fd,F,b,M,hm⟩:=F
 exact Ycc M F (hr.mono hj) hg hm b .nil V8 hdb
end L2
namespace L2
open PySem PySem.Spec PyProof.Rows
section
variable {M:Model} {A:Around} {E:Value→Shared→Prop} {s:Shared}
theorem QY {scope:Scope} {globals:Addr} {cl:List (Str×Addr)} {qual:Str} {outer:Env} {Q:Env→Shared→Prop} {y:Str} (hcf:∀ n acc,cellsFrom n scope.names acc=(y,n)::acc)
  (h:∀ h',(∀ b o,s.heap.get? b=some o→h'.get? b=some o)→h'.Ns s.heap.objs.size (fun _=>none)→h'.IsCell (s.heap.objs.size+1) none→Q (newEnv scope s.heap.objs.size globals ((y,s.heap.objs.size+1)::cl) qual none .none (some outer) builtinsNs) { s with heap:=h' }) :
  wpAny M A (newFunctionEnv scope globals cl [] qual none .none (some outer)) Q E s:=by
 obtain ⟨hh,g,d,t,os⟩:=s
 unfold newFunctionEnv
 refine wpAny_bind (wpAny_alloc' ?_)
 refine wpAny_bind (wpAny_forIn_list _ (fun Xv b s'=>(cellsFrom s'.heap.objs.size Xv b=(y,hh.objs.size+1)::cl∧(∀ a o,(hh.push { cls := .type (if (some outer).isSome=true then "dict" else "frame"),data := .dict #[] }).get? a=some o→s'.heap.get? a=some o)∧(∃ own:List (Str×Addr),b=own++cl∧∀ p∈own,s'.heap.IsCell p.2 none)∧s'={ heap:=s'.heap,gens:=g,drawn:=d,toks:=t,os:=os })) _ ?_ ?_ _ _ ⟨?_,fun _ _ e=>e,⟨[],rfl,fun p hp=>(by cases hp)⟩,rfl⟩)
 ·rintro ⟨nm,kd⟩ Xv b s' ⟨h1,h2,⟨own,rfl,h3⟩,h4⟩
  rw [cellsFrom] at h1
  dsimp only
  by_cases c:(kd==NameKind.cell)=true
  ·rw [if_pos c] at h1 ⊢
   rw [h4]
   refine wpAny_bind (wpAny_alloc' (wpAny_pure ⟨?_,fun a o e=>Heap.get?_push_of_some _ (h2 a o e),⟨(nm,s'.heap.objs.size)::own,rfl,fun p hp=>?_⟩,rfl⟩))
   ·show cellsFrom (s'.heap.push _).objs.size Xv _=_
    rw [Heap.size_push]
    exact h1
   ·rcases List.mem_cons.mp hp with rfl | hp
    ·exact ⟨_,Heap.get?_push_at rfl rfl,rfl⟩
    ·obtain ⟨o,e1,e2⟩:=h3 p hp
     exact ⟨o,Heap.get?_push_of_some _ e1,e2⟩
  ·rw [if_neg c] at h1 ⊢
   exact wpAny_pure ⟨h1,h2,⟨own,rfl,h3⟩,h4⟩
 ·rintro b s' ⟨h1,h2,⟨own,rfl,h3⟩,h4⟩
  have h1:own++cl=(y,hh.objs.size+1)::cl:=by
   have:cellsFrom s'.heap.objs.size [] (own++cl)=own++cl:=by rw [cellsFrom]
   rw [← this];exact h1
  have eo:own=[(y,hh.objs.size+1)]:=List.append_cancel_right (bs:=cl) (by simpa using h1)
  subst eo
  rw [h4]
  exact wpAny_bind (wpAny_pure (wpAny_pure (h s'.heap (fun b o e=>h2 b o (Heap.get?_push_of_some _ e)) ((Heap.Ns.new hh _).keeps h2) (h3 _ (.head _)))))
 ·show cellsFrom (hh.push _).objs.size _ _=_
  rw [Heap.size_push]
  exact hcf _ _
end
def cxD (X:Cx) (scope:Scope) (N':List Str) (y:Str) (cl:List (Str×Addr)) (C:Addr) (s₀:Shared) (H₀:Hp) (fp:List Addr) (pn:List (Addr×Obj)):Cx :=
 { X with N:=N',s₀:=s₀,H₀:=H₀,env:=compEnvC scope ((y,C+1)::cl) C X.env,outer:=X.stack,ex:=fp,fn:=fun z=>z==y,pn:=pn,xe:=fun _ _=>False }
section
variable {X:Cx}
theorem YbN {y:Str} {scope:Scope} {N':List Str} {src:List (Option Nat)} {cl:List (Str×Addr)} {pins:List (Addr×Obj)} {σ:St} {H:Hp} {s s':Shared} {h':Heap} {tk:Nat} {fp:List Addr} {m:Str→Option Value}
  (hk:scope.kind = .function) (hyc:scope.names.lookup y=some .cell) (hone:∀ z∈scope.names,z.2 = .cell→z.1=y) (hcap:Cap X scope src N')
  (a:∀ x c,cl.lookup x=some c→X.env.cells.lookup x=some c) (b:∀ x,(x,NameKind.free)∈scope.names→∃ c,cl.lookup x=some c)
  (I:Inv X pins σ H s) (hf:∀ b∈fp,XJ X pins H b) (hfl:∀ b∈fp,b<s.heap.objs.size) (es':s'={ s with heap:=h',toks:=tk })
  (keep:∀ b o,s.heap.get? b=some o→h'.get? b=some o) (hn:h'.Ns s.heap.objs.size m) (hce:h'.IsCell (s.heap.objs.size+1) none) :
  Inv (cxD X scope N' y cl s.heap.objs.size s H fp (X.pn++pins)) [] (Yy src σ) H s':=by
 subst es'
 have kindOf:∀ x,(compEnvC scope ((y,s.heap.objs.size+1)::cl) s.heap.objs.size X.env).kindOf x=(scope.names.lookup x).map fun k=>if (k==NameKind.free&&X.env.scope.kind == .function&&X.env.kindOf x==some .cell) then NameKind.cell else k:=fun x=>X8 X.env x
 have freeOf:∀ x,((compEnvC scope ((y,s.heap.objs.size+1)::cl) s.heap.objs.size X.env).kindOf x=some .cell∨(compEnvC scope ((y,s.heap.objs.size+1)::cl) s.heap.objs.size X.env).kindOf x=some .free)→scope.names.lookup x=some .free∨x=y:=fun x h=>by
  rw [kindOf] at h
  cases q:scope.names.lookup x with
  | none=>rw [q] at h;simp at h
  | some k =>
   rw [q] at h
   by_cases hkf:k=NameKind.free
   ·rw [hkf];exact .inl rfl
   ·have hkf':(k==NameKind.free)=false:=by simpa using hkf
    simp only [Option.map_some,hkf',Bool.false_and,Bool.false_eq_true,if_false] at h
    rcases h with h | h
    ·exact .inr (hone _ (PySem.mem_of_lookup q) (Option.some.inj h))
    ·exact absurd (Option.some.inj h) hkf
 have split:∀ {x:Str} {c:Addr},List.lookup x ((y,s.heap.objs.size+1)::cl)=some c→(x=y∧c=s.heap.objs.size+1)∨(x≠y∧cl.lookup x=some c):=fun {x c} h=>by
  rw [List.lookup_cons] at h
  by_cases e:(x==y)=true
  ·rw [e] at h
   exact .inl ⟨by simpa using e,(Option.some.inj h).symm⟩
  ·rw [Bool.eq_false_iff.mpr e] at h
   exact .inr ⟨by simpa using e,h⟩
 have old:∀ {x:Str} {c:Addr},cl.lookup x=some c→c<s.heap.objs.size:=fun {x c} h=>by
  obtain ⟨v,o,ho,_⟩:=I.cell x c (a x c h)
  exact Heap.lt_size ho
 have ny:∀ {x:Str},scope.names.lookup x=some .free→x≠y:=fun h z=>by rw [z,hyc] at h;cases h
 have intoc:∀ {x:Str} {c:Addr},x≠y→cl.lookup x=some c→List.lookup x ((y,s.heap.objs.size+1)::cl)=some c:=fun {x c} n h=>by
  rw [List.lookup_cons,show (x==y)=false by simpa using n]
  exact h
 refine ⟨⟨I.ok.mod,hk,I.ok.glob,I.ok.blt,Nat.le_refl _,fun x z c h1 h2=>?_,fun x hx=>?_,fun x c z h=>?_,I.ok.hd,I.ok.frames,.inl rfl,fun b' hb=>?_,I.bs,Nat.le_trans I.ok.bsz I.sz,fun b' o e hb=>?_,fun b' hb z=>?_,I.stack,I.stkFree⟩,
  rfl,I.bare,Un.kept keep,⟨m,hn,fun j x v h1 h2 h3=>?_⟩,fun x c h=>?_,I.hok.fresh (Nat.le_refl _),fun x c h=>?_,fun p hp=>?_,I.hok.kept keep,?_⟩
 ·rcases split h1 with ⟨e1,e2⟩ | ⟨e1,e2⟩
  ·rcases split h2 with ⟨e3,_⟩ | ⟨_,e4⟩
   ·rw [e1,e3]
   ·have hlt:=old e4
    rw [e2] at hlt
    exact absurd hlt (Nat.not_lt.mpr (Nat.le_succ _))
  ·rcases split h2 with ⟨_,e4⟩ | ⟨_,e4⟩
   ·have hlt:=old e2
    rw [e4] at hlt
    exact absurd hlt (Nat.not_lt.mpr (Nat.le_succ _))
   ·exact I.ok.inj x z c (a x c e2) (a z c e4)
 ·rcases freeOf x hx with h | h
  ·obtain ⟨c,hc⟩:=b x (XI h)
   exact ⟨c,intoc (ny h) hc⟩
  ·subst h
   exact ⟨_,List.lookup_cons_self⟩
 ·rcases split h with ⟨_,e⟩ | ⟨e,_⟩
  ·rw [e]
   exact Nat.le_succ _
  ·exact absurd (by simpa [cxD] using z) e
 ·obtain ⟨f0,f1,f2,f3,f4,f5⟩:=hf b' hb
  refine ⟨Nat.ne_of_lt (hfl b' hb),fun x c h=>?_⟩
  rcases split h with ⟨_,e⟩ | ⟨_,e⟩
  ·have hlt:=hfl b' hb
   rw [e]
   exact fun z=>absurd (z▸hlt) (Nat.not_lt.mpr (Nat.le_succ _))
  ·exact f4 x c (a x c e)
 ·obtain ⟨f0,f1,f2,f3,f4,f5⟩:=hf b' hb
  rcases f3 with z | z
  ·exact I.ok.noex b' o e z
  ·exact absurd (Nat.lt_of_lt_of_le (Heap.lt_size e) (Nat.le_trans I.ok.bsz z)) (Nat.lt_irrefl _)
 ·obtain ⟨f0,f1,f2,f3,f4,f5⟩:=hf b' hb
  rcases List.mem_cons.mp (I.stkSub b' z) with e | e
  ·exact f1 e
  ·exact f2 e
 ·obtain ⟨i,e1,e2,e3,e4⟩:=hcap.get j x v h1 h2
  obtain ⟨m0,hn0,hl⟩:=I.loc
  obtain ⟨u,r,l⟩:=hl i x v e1 e2 (by rcases e4 with e4 | e4;exact .inr (.inl e4);exact .inr (.inr e4))
  refine ⟨u,r,?_⟩
  rcases l with ⟨l,_⟩ | ⟨k,c,e,z⟩
  ·have l':X.env.scope.names.lookup x=some NameKind.local:=l
   rcases e4 with e4 | e4<;>(rw [e4] at l';cases l')
  ·refine .inr ⟨?_,?_⟩
   ·show (compEnvC scope ((y,s.heap.objs.size+1)::cl) s.heap.objs.size X.env).kindOf x=some .cell∨(compEnvC scope ((y,s.heap.objs.size+1)::cl) s.heap.objs.size X.env).kindOf x=some .free
    rw [kindOf,e3]
    simp only [Option.map_some]
    split
    ·exact .inl rfl
    ·exact .inr rfl
   ·obtain ⟨c',hc'⟩:=b x (XI e3)
    have:=a x c' hc'
    rw [e] at this
    cases this
    obtain ⟨o,ho,hd⟩:=z
    exact ⟨c,intoc (ny e3) hc',o,keep _ _ ho,hd⟩
 ·rcases split h with ⟨_,e⟩ | ⟨_,e⟩
  ·rw [e];exact ⟨none,hce⟩
  ·obtain ⟨v,o,ho,hd⟩:=I.cell x c (a x c e)
   exact ⟨v,o,keep _ _ ho,hd⟩
 ·rcases split h with ⟨_,e⟩ | ⟨_,e⟩
  ·rw [e];exact I.hok.fresh (Nat.le_succ _)
  ·exact I.freeC x c (a x c e)
 ·have hp':p∈X.pn++pins:=by simpa [cxD] using hp
  obtain ⟨e,n,ne,nf,d⟩:=I.pin p hp'
  refine ⟨keep _ _ e,n,Nat.ne_of_lt (Heap.lt_size e),fun z=>?_,d⟩
  rcases List.mem_cons.mp (I.stkSub p.1 z) with q | q
  ·exact ne q
  ·exact nf q
 ·show (Yy src σ).length=N'.length
  rw [← hcap.length]
  simp [Yy]
end
section
variable {prog:Program} {w:World} {A:Around} {R:Result→Shared→Prop} {s:Shared}
theorem YbO {elt tg iter:Expr} {ifs:List Expr} {scope:Scope} {pos:Pos} {it acc:Value} {env:Env} (J:Nat→Shared→Prop)
  (turn:∀ n s,J n s→wpAny (model prog w) A (pyNext it) (fun r s₁=>match r with
    | none=>R (.ok .next) s₁
    | some v=>wpAny (model prog w) A (letOwnedTupleGo tg it v) (fun _ z₁=>wpAny (model prog w) A (assign tg env v) (fun _ s₂ =>
      wpAny (model prog w) A (forIn ifs true fun c r=>if r=true then do let ok ← isTrue c env (eval c env);pure (ForInStep.yield ok) else pure (ForInStep.yield r))
       (fun ok s₃=>if ok=true then wpAny (model prog w) A (eval elt env) (fun x s₄=>wpAny (model prog w) A (call (.builtin "list.append") [acc,x]) (fun _ s₅=>∃ m,m<n∧J m s₅) (fun _ _=>False) s₄) (fun _ _=>False) s₃
        else ∃ m,m<n∧J m s₃) (fun _ _=>False) s₂) (fun _ _=>False) z₁) (fun _ _=>False) s₁) (fun _ _=>False) s)
  (n:Nat) (h:J n s):codeAny (model prog w) A (.compLoop (.ListComp elt [⟨tg,iter,ifs,0⟩] scope pos) 0 it acc env) R s:=by
 refine codeAny_loop rfl J (fun n s hJ=>?_) n h
 show wpAny _ A (Sem.onRaise (compTurn (.ListComp elt [⟨tg,iter,ifs,0⟩] scope pos) 0 it acc env) (fun x=>do noteFrame x env;theTreesLotGoes x)) _ _ s
 refine wpAny_noted ?_
 rw [compTurn_list]
 have no:∀ {E:Value→Shared→Prop},∀ (e:Value) (s':Shared),False→E e s':=fun _ _ f=>f.elim
 refine wpAny_bind (wpAny_standAt (wpAny_bind (wpAny_mono (turn n s hJ) (fun r s₁ h₁=>?_) no)))
 cases r with
 | none=>exact wpAny_pure h₁
 | some v =>
  refine wpAny_bind (wpAny_mono h₁ (fun _ z₁ hz=>?_) no)
  refine wpAny_bind (wpAny_mono hz (fun _ s₂ h₂=>wpAny_bind (wpAny_mono h₂ (fun ok s₃ h₃=>?_) no)) no)
  cases ok with
  | false=>exact wpAny_pure ⟨rfl,h₃⟩
  | true =>
   exact wpAny_bind (wpAny_bind (wpAny_mono h₃ (fun x s₄ h₄=>wpAny_bind (wpAny_mono h₄ (fun _ s₅ h₅=>wpAny_pure (wpAny_pure ⟨rfl,h₅⟩)) no)) no))
end
section
variable {X:Cx}
theorem Yeb {yc:Str} {elt tg iter:Expr} {ifs:List Expr} {scope:Scope} {pos:Pos} {src:List (Option Nat)} {N':List Str} {wi:TI} {g:TG} {tt:TT} {te:TE} (hcap:Cap X scope src N') (hc:X.calm=true) (hi:PI X tg iter wi)
  (hg:∀ cl C s₀ H₀ fp pn,PG (cxD X scope N' yc cl C s₀ H₀ fp pn) tg g) (ht:∀ cl C s₀ H₀ fp pn,PTs (cxD X scope N' yc cl C s₀ H₀ fp pn) ifs tt) (he:∀ cl C s₀ H₀ fp pn,PE (cxD X scope N' yc cl C s₀ H₀ fp pn) elt te)
  (hfree:∀ x,(x,NameKind.free)∈scope.names→X.env.scope.names.lookup x=some NameKind.cell∨X.env.scope.names.lookup x=some NameKind.free)
  (hk:scope.kind = .function) (hcf:∀ n acc,cellsFrom n scope.names acc=(yc,n)::acc) (hyc:scope.names.lookup yc=some .cell) (hone:∀ z∈scope.names,z.2 = .cell→z.1=yc) (hnames:∀ y∈scope.names,y.2 = .local→scope.names.lookup y.1=some .local)
  (hs:∀ x,foldedSetIterable iter X.env x=pure x):PE X (.ListComp elt [⟨tg,iter,ifs,0⟩] scope pos) (tLC src wi g tt te):=by
 intro pins s σ H Q I h
 have no:∀ {E:Value→Shared→Prop},∀ (e:Value) (s':Shared),False→E e s':=fun _ _ f=>f.elim
 obtain ⟨cl,hcl,a,b⟩:=Va X.env scope fun x hx=>I.ok.has x (hfree x hx)
 rw [eval_ListComp]
 refine wpAny_comprehension_free (use:=none) rfl hs hcl hk hnames (thn (hi pins s σ H _ I h) fun v s1 h1=>thn h1 fun itv s2 h2=>?_)
 obtain ⟨it,fp,tn,J,H2,e,I2,T,st2,f2,q⟩:=h2
 subst e
 have hD:H2 s2.heap.objs.size=none:=I2.hok.fresh (Nat.le_refl _)
 obtain ⟨W,⟨m0,w0⟩,turn⟩:=q s2.heap.objs.size hD
 have I3:=I2.lnew (t':=s2.toks) (ys:=[]) (its:=[]) .nil (Nat.zero_le _)
 have fl2:∀ b∈fp,b<s2.heap.objs.size:=fun b hb=>by
  obtain ⟨o,e,_⟩:=T.obj _ _ st2 b hb
  exact Heap.lt_size e
 refine wpAny_newObj_type ?_
 generalize es3:({ s2 with heap:=s2.heap.push { cls := .type "list",dict:=none,data := .seq ([]:List Value).toArray } }:Shared)=s3
 have I3':Inv X pins σ (upd H2 s2.heap.objs.size (.lst [])) s3:=es3▸I3
 have keep3:∀ b o,s2.heap.get? b=some o→s3.heap.get? b=some o:=fun b o e=>by rw [← es3];exact Heap.get?_push_of_some _ e
 have st3:tn 0 s3.heap:=T.keep _ _ _ st2 fun b _ o e=>keep3 b o e
 have fl3:∀ b∈fp,b<s3.heap.objs.size:=fun b hb=>by
  obtain ⟨o,e,_⟩:=T.obj _ _ st3 b hb
  exact Heap.lt_size e
 have f3:∀ b∈fp,XJ X pins (upd H2 s2.heap.objs.size (.lst [])) b:=fun b hb=>⟨by rw [Yb (Nat.ne_of_lt (fl2 b hb))];exact (f2 b hb).1,(f2 b hb).2⟩
 generalize eD:s2.heap.objs.size=D at *
 generalize eH3:upd H2 D (.lst [])=H3 at *
 refine QY hcf fun h₁ keep4 hns₁ hce₁=>?_
 have I4:=YbN (N':=N') (src:=src) (tk:=s3.toks) hk hyc hone hcap a b I3' f3 fl3 rfl keep4 hns₁ hce₁
 -- the iterator's objects,through the block
 have stat:∀ {H':Hp},(∀ b∈fp,H' b=none)→∀ b∈fp,XJ (cxD X scope N' yc cl s3.heap.objs.size s3 H3 fp (X.pn++pins)) [] H' b:=fun hn b' hb=>by
  obtain ⟨f0,f1,fs,fe,f4,f5⟩:=f3 b' hb
  refine ⟨hn b' hb,Nat.ne_of_lt (fl3 b' hb),fun z=>?_,.inl hb,fun x c h=>?_,fun p hp=>f5 p (by simpa [cxD] using hp)⟩
  rotate_left
  ·have h:List.lookup x ((yc,s3.heap.objs.size+1)::cl)=some c:=h
   rw [List.lookup_cons] at h
   by_cases e:(x==yc)=true
   ·rw [e] at h
    have h:=Option.some.inj h
    have hlt:=fl3 b' hb
    rw [← h]
    exact fun z=>absurd (z▸hlt) (Nat.not_lt.mpr (Nat.le_succ _))
   ·rw [Bool.eq_false_iff.mpr e] at h
    exact f4 x c (a x c h)
  rcases List.mem_cons.mp (I3'.stkSub b' z) with e | e
  ·exact f1 e
  ·exact fs e
 -- behind the block
 have fin:∀ {H':Hp} {s':Shared} {σ':St} {pins':List (Addr×Obj)},Inv (cxD X scope N' yc cl s3.heap.objs.size s3 H3 fp (X.pn++pins)) pins' σ' H' s'→∀ h',Heap.SameBut s3.heap.objs.size s'.heap h'→Inv X pins σ H' { s' with heap:=h' }:=fun {H' s' σ' pins'} J' h' sb=>by
  have same:∀ b o,b≠s3.heap.objs.size→s'.heap.get? b=some o→h'.get? b=some o:=fun b o hb e=>sb.extBut b o hb e
  have u:Un (frs X.stack) fp H3 H' s3.heap s'.heap:=J'.base
  refine I3'.call' (s':={ s' with heap:=h' }) (ch:=fp) J'.os ⟨fun b o e n hb hx=>?_,fun b o e n hb hx=>?_,u.free,fun b o e hx=>?_,u.tups,u.frzs,u.tbls⟩ (fun b o e=>?_) J'.bare fun b hb=>?_
  ·exact same b o (Nat.ne_of_lt (Heap.lt_size e)) (u.keep b o e n hb hx)
  ·obtain ⟨sl,z⟩:=u.slot b o e n hb hx
   exact ⟨sl,same b _ (Nat.ne_of_lt (Heap.lt_size e)) z⟩
  ·obtain ⟨o',z⟩:=u.there b o e hx
   exact ⟨o',same b o' (Nat.ne_of_lt (Heap.lt_size e)) z⟩
  ·have nC:∀ c v,H' c=some v→c≠s3.heap.objs.size:=fun c v z q=>by
    have:=J'.free
    rw [show (cxD X scope N' yc cl s3.heap.objs.size s3 H3 fp (X.pn++pins)).env.locals=s3.heap.objs.size from rfl,← q,z] at this
    cases this
   refine (J'.hok b o e).stay (fun c v hc q=>same c v ?_ q) (fun _ q=>q) fun _ _ q=>q
   rcases hc with z | z
   ·rw [z];exact nC b o e
   ·exact nC c _ z
  ·obtain ⟨f0,f1,fs,fe,f4,f5⟩:=f3 b hb
   exact ⟨fe,f1,f4,f5⟩
 have loop:codeAny (model X.prog X.w) X.A (.compLoop (.ListComp elt [⟨tg,iter,ifs,0⟩] scope pos) 0 (.ref it) (.ref D) (compEnvC scope ((yc,s3.heap.objs.size+1)::cl) s3.heap.objs.size X.env))
   (compPost (model X.prog X.w) X.A X.xe none (EP X pins σ Q) (.ref D) s3.heap.objs.size) { s3 with heap:=h₁ }:=by
  refine YbO (fun n s'=>∃ i ys σ' H',Inv (cxD X scope N' yc cl s3.heap.objs.size s3 H3 fp (X.pn++pins)) [] σ' H' s'∧tn i s'.heap∧(∀ b∈fp,H' b=none)∧W i n ys σ' H') ?_ m0 ⟨0,[],Yy src σ,H3,I4,T.keep _ _ _ st3 fun b _ o e=>keep4 b o e,fun b hb=>(f3 b hb).1,w0⟩
  rintro n s5 ⟨i,ys,σ5,H5,I5,st5,fr5,w5⟩
  obtain ⟨hDs,stop | go⟩:=turn i n ys σ5 H5 w5
  ·obtain ⟨stop,qn⟩:=stop
   refine thn (T.done (cxD X scope N' yc cl s3.heap.objs.size s3 H3 fp (X.pn++pins)) rfl rfl rfl hc i [] s5 σ5 H5 _ I5 (stat fr5) st5 stop) fun r s6 ⟨hr,I6⟩=>?_
   subst hr
   obtain ⟨m,hn,_⟩:=id I6.loc
   exact ⟨m,hn,fun h' sb=>⟨.ref D,H5,fin I6 h' sb,rfl,qn⟩⟩
  ·obtain ⟨go,N,hN,step⟩:=go
   refine thn (T.item (cxD X scope N' yc cl s3.heap.objs.size s3 H3 fp (X.pn++pins)) rfl rfl rfl hc i [] s5 σ5 H5 _ I5 (stat fr5) st5 go) fun r s6 ⟨u,hr,h6⟩=>?_
   subst hr
   refine thn h6 fun _ s7 ⟨x,H7,I7,r7,y7,st7,fr7⟩=>?_
   have I7':=I7.pinned (stat fr7) (T.obj _ _ st7)
   have again:∀ {s8:Shared} {σ8:St} {H8:Hp} {ys':List V},Inv (cxD X scope N' yc cl s3.heap.objs.size s3 H3 fp (X.pn++pins)) ([]++WV fp s7.heap) σ8 H8 s8→(∃ m',m'<n∧W (i+1) m' ys' σ8 H8) →
     ∃ m,m<n∧∃ i ys σ' H',Inv (cxD X scope N' yc cl s3.heap.objs.size s3 H3 fp (X.pn++pins)) [] σ' H' s8∧tn i s8.heap∧(∀ b∈fp,H' b=none)∧W i m ys σ' H':=fun {s8 σ8 H8 ys'} I8 ⟨m',hm,w8⟩=>by
    refine ⟨m',hm,i+1,ys',σ8,H8,I8.unpinned,T.keep _ _ _ st7 fun b hb o e=>(I8.pin (b,o) (List.mem_append_right _ (List.mem_append_right _ (XF hb e)))).1,fun b hb=>?_,w8⟩
    obtain ⟨o,e,d⟩:=T.obj _ _ st7 b hb
    exact (I8.pin (b,o) (List.mem_append_right _ (List.mem_append_right _ (XF hb e)))).2.1
   refine thn (hg cl _ s3 H3 fp _ _ s7 σ5 H7 x u _ I7' r7 (step x H7 y7)) fun _ s8 ⟨σ8,H8,I8,q8⟩=>?_
   refine thn (ht cl _ s3 H3 fp _ _ s8 σ8 H8 _ I8 q8) fun ok s9 ⟨H9,I9,q9⟩=>?_
   cases ok with
   | false=>exact again I9 (hN _ _ _ q9)
   | true =>
    rw [if_pos rfl]
    refine thn (he cl _ s3 H3 fp _ _ s9 σ8 H9 _ I9 q9) fun y s10 ⟨yv,H10,I10,r10,q10⟩=>?_
    obtain ⟨hDy,hlen,w10⟩:=q10
    refine thn (Y0 (X:=cxD X scope N' yc cl s3.heap.objs.size s3 H3 fp (X.pn++pins)) _ s10 σ8 H10 (.ref D) [yv] (.ref D) [y] (fun _ H'=>H'=upd H10 D (.lst (ys++[yv]))) I10 rfl (.cons r10 .nil) ⟨D,ys,yv,rfl,rfl,hDy,hlen,rfl⟩) fun _ s11 ⟨_,H11,I11,_,e11⟩=>?_
    subst e11
    exact again I11 (hN _ _ _ w10)
 exact codeAny_compStart_list loop (T.self _ 0 _ _ _ (T.keep _ _ _ st3 fun b _ o e=>keep4 b o e) loop)
end
theorem UB {X:Cx} {K:PySem.W.Frag} (hc:X.calm=true) (h:X.K=K:=by rfl):XQ X (.builtin "sum") (fun xs H Q=>∃ (p:Addr) (ns:List Int),xs=[.ref p]∧SqL K H p (ns.map V.int)∧Q (.int ns.sum) H):=by subst h;exact Vk hc
end L2
namespace L2
open PySem PySem.Spec PyProof.Rows
section
variable {M:Model} {A:Around} {E:Value→Shared→Prop} {s:Shared} {B:Heap} {env:Env} {outer l:List Env} {e L:Addr} {cls a0:Value} {Q:Unit→Shared→Prop}
end
section
variable {X:Cx} {pins:List (Addr×Obj)} {σ:St} {H H':Hp} {s s1 s':Shared} {B:Heap} {e C:Addr} {cls a0:Value} {M:Model} {A:Around} {Q:Unit→Shared→Prop} {EE:Value→Shared→Prop}
end
section
variable {X:Cx}
end
end L2
namespace L2
open PySem PySem.Spec PyProof.Rows
section
variable {prog:Program} {w:World} {A:Around} {E:Value→Shared→Prop} {s:Shared}
end
section
variable {X:Cx}
end
end L2
namespace L2
open PySem PySem.Spec PyProof.Rows
open Sem (wp)
section
variable {prog:Program} {w:World} {A:Around} {R:Result→Shared→Prop} {I:Addr} {fp wr:List Addr} {n:Nat} {P:Nat→Value→Prop} {St:Nat→Heap→Prop}
end
section
variable {prog:Program} {w:World} {A:Around} {E:Value→Shared→Prop} {s:Shared} {l:Addr} {xs:Array (Int×Tok)}
end
section
variable {X:Cx}
end
section
variable {X:Cx}
end
end L2
namespace L2
open PySem PySem.Spec PyProof.Rows PySem.Builtin.Str
section
variable {X:Cx}
end
end L2
namespace L2
open PySem PySem.Spec PyProof.Rows
section
variable {X:Cx}
end
end L2
namespace PySem.W
open PySem PyProof.Rows
open Builtin Builtin.ObjectAttr
section
variable {prog:Program} {w:World} {A:Around} {E:Value→Shared→Prop} {hh:Heap} {g:Array GenState} {d:Drawn} {t:Nat} {os:OsState} {K:Frag} {x C D:Addr} {ox:Obj} {mA:Str→Option Value} {f:Str} {v:Value}
end
section
variable {prog:Program} {w:World} {A:Around} {E:Value→Shared→Prop} {s:Shared} {K:Frag} {x C C' D:Addr} {ox:Obj} {od:Option Obj} {mA:Str→Option Value} {name:Str} {v:Value} {R:Result→Shared→Prop}
end
section
variable {prog:Program} {w:World} {A:Around} {E:Value→Shared→Prop} {s:Shared} {K:Frag} {x C C' D:Addr} {ox:Obj} {od:Option Obj} {mA:Str→Option Value} {name:Str} {v:Value} {vs:Array Value} {Q:Unit→Shared→Prop}
end
end PySem.W
namespace PySem.W
open PySem PyProof.Rows
abbrev excFs (a0:Value):Array Value:=#[a0,.none,.none,.none,.bool false,.none]
section
variable {prog:Program} {w:World} {A:Around} {E:Value→Shared→Prop} {h:Heap} {g:Array GenState} {d:Drawn} {t:Nat} {os:OsState}
variable {nm q:Str} {C N:Addr} {bs bm bmB:List Value} {hdct:Bool} {sn:List Str} {sub:List Value} {ab:Bool} {col:Option Bool} {dd:Option Addr} {k0 k1 k2 k3 k5:Option Value} {B newId initId:String}
end
section
variable {M:Model} {A:Around} {E:Value→Shared→Prop} {env:Env}
variable {nm q:Str} {C N:Addr} {bs bm bmB:List Value} {hdct:Bool} {sn:List Str} {sub:List Value} {ab:Bool} {col:Option Bool} {dd:Option Addr} {k0 k1 k2 k3 k5:Option Value} {B newId initId:String}
end
section
variable {prog:Program} {w:World} {A:Around} {E:Value→Shared→Prop} {s:Shared} {env:Env}
variable {nm q:Str} {C N:Addr} {bs bm bmB:List Value} {hdct:Bool} {sn:List Str} {sub:List Value} {ab:Bool} {col:Option Bool} {dd:Option Addr} {k0 k1 k2 k3 k5:Option Value} {B newId initId:String}
end
end PySem.W
namespace L2
open PySem PySem.Spec PyProof.Rows
open PySem.W (excFs)
def del (H:Hp) (a:Addr):Hp:=fun b=>if b=a then none else H b
section
variable {P:Program} {w:World} {H:Hp} {h:Heap} {a t0:Addr} {cls:Value} {dc:Option Addr} {sl:Array (Option Value)}
end
section
variable {X:Cx} {pins:List (Addr×Obj)} {σ:St} {H:Hp} {s:Shared} {e:Addr} {cls:Value} {M:Model} {A:Around} {Q:Unit→Shared→Prop} {EE:Value→Shared→Prop} {dc:Option Addr}
end
section
variable {g:Gx} {N:List Str} {qual:Str} {st:Stmt} {f:Addr} {cdv:Value} {A:Around} {outer:List Env} {s:Shared} {H:Hp} {E:XK}
end
section
variable {X:Cx} {pins:List (Addr×Obj)} {σ:St} {H:Hp} {s:Shared} {C f:Addr} {k:Nat} {fd:FuncData} {ps:List Str} {sp:Sp} {ds:List Value} {dvs:List V} {E:XK} {CX:CXT}
end
section
variable {P:Program} {w:World} {H:Hp} {h:Heap} {a:Addr} {fs:List (Str×V)} {mA:Str→Option Value}
end
section
variable {X:Cx} {pins:List (Addr×Obj)} {σ:St} {H:Hp} {s:Shared} {C C' a d:Addr} {f:Str} {y:V} {u:Value} {Q:Unit→Shared→Prop} {A:Around} {E:Value→Shared→Prop} {fs:List (Str×V)}
end
section
variable {g:Gx} {X:Cx} {k j:Nat} {x m f:Str} {ps:List Str} {sp:Sp} {e o value:Expr} {es:List Expr} {t:TA} {ta tv:TE} {p pos apos pos' np cpos:Pos} {C C' B:Addr} {E:XK} {fs:List Str}
end
end L2
namespace L2
open PySem PySem.Spec PyProof.Rows
section
variable {X:Cx} {k:Nat}
end
end L2
namespace L2
open PySem PySem.Spec PyProof.Rows
section
variable {P:Program} {w:World} {H Hz H':Hp} {h h' B:Heap} {cs fs:List Addr}
end
section
variable {X:Cx} {pins:List (Addr×Obj)} {σ:St} {H:Hp} {s:Shared}
end
section
variable {X:Cx} {CX:CXT} {k:Nat} {f:Addr} {fd:FuncData} {ps:List Str} {sp:Sp} {E:XK} {pins:List (Addr×Obj)} {σ:St} {H:Hp} {s:Shared} {Q:VK} {us:List Value} {vs:List V} {l:YaT}
end
section
variable {P:Program} {w:World} {K:PySem.W.Frag} {mg:Str→Option Value} {base:Heap} {N ps:List Str} {qual:Str} {scope:Scope} {f c:Addr} {A:Around} {outer:List Env} {s:Shared} {H:Hp} {l:YaT} {cd:Value}
end
end L2
namespace L2
open PySem
section
variable {src:List (Option Nat)} {te:TE} {σ:St} {H:Hp} {Q:VK}
end
end L2
namespace PySem
section
variable {prog:Program} {w:World} {A:Around} {E:Value→Shared→Prop} {s:Shared} {l:Addr} {xs:Array (Int×Tok)}
end
end PySem
namespace HT
open PySem PySem.Spec PyProof.Rows
variable {prog:Program} {w:World} {A:Around} {E:Value→Shared→Prop} {s:Shared}
end HT
namespace L2
open PySem PySem.Spec PyProof.Rows
section
variable {X:Cx} {e st:Expr} {te ts:TE} {pos p2:Pos} {K:PySem.W.Frag}
end
end L2
namespace L2
open PySem
noncomputable def sm (a b:PyData):Bool:=@decide (a=b) (Classical.propDecidable _)
abbrev Say:=Except Str PyData
def take (mk:Str) (s:Say) (f:PyData→Option α):Except Str α:=match s with
 | .error m => .error m
 | .ok d=>match f d with
  | some a => .ok a
  | none => .error mk
structure IB (n:Nat) (i:Int):Prop where
 h:i.natAbs<2^(200*2^n)
mutual
def hb:PyData→Prop
 | .list xs=>xs.length≤64∧hbs xs
 | .tuple xs=>xs.length≤64∧hbs xs
 | .str x=>x.length≤64
 | .int i=>IB 0 i
 | .none=>True
 | .bool _=>True
 | .dict _=>False
def hbs:List PyData→Prop
 | []=>True
 | d::ds=>hb d∧hbs ds
end
end L2
namespace L2
open PySem PySem.Spec PyProof.Rows
section
variable {X:Cx} {k:Nat}
end
mutual
def cnt:PyData→Nat
 | .list xs=>Yt xs+1
 | .tuple xs=>Yt xs
 | .dict _=>0
 | .none=>0
 | .bool _=>0
 | .int _=>0
 | .str _=>0
def Yt:List PyData→Nat
 | []=>0
 | d::ds=>cnt d+Yt ds
end
def sb:Nat→Nat
 | 0=>60
 | n+1=>4*sb n+11
end L2
namespace L2
open PySem PySem.Spec PyProof.Rows
section
variable {M:Model} {A:Around} {E:Value→Shared→Prop} {s:Shared} {Q:Value→Shared→Prop}
end
section
variable {X:Cx}
end
section
variable {g:Gx} {X:Cx} {k j:Nat} {f c:Str} {ps:List Str} {sp:Sp} {e:Expr} {es:List Expr} {t:TA} {ts:TS} {b₀:Stmt} {suite:List Stmt} {cv:Value} {kk:Nat} {fp cp hpos apos cpos bpos mpos pos:Pos}
end
end L2
set_option maxHeartbeats 4000000
namespace PySem.W
open PySem PySem.Calls PyProof.Rows
section sort
variable {f:Nat→Nat→Bool} {n:Nat}
structure KOrd (f:Nat→Nat→Bool) (n:Nat):Prop where
 asy:∀ i j,i<n→j<n→f i j=true→f j i=false
 tr:∀ i j k,i<n→j<n→k<n→f j i=false→f k j=false→f k i=false
variable (O:KOrd f n) (h0:0<n)
include O h0
end sort
end PySem.W
set_option maxHeartbeats 4000000
namespace L2
open PySem PySem.Spec PyProof.Rows PySem.W
section
variable {prog:Program} {w:World} {A:Around} {E:Value→Shared→Prop} {s:Shared} {f:Nat→Nat→Bool} {κ:SortKind} {vs:List Value}
end
section
variable {X:Cx}
end
end L2
set_option maxHeartbeats 4000000
namespace L2
open PySem PySem.Spec PyProof.Rows
section
variable {X:Cx}
end
section
variable {src:List (Option Nat)} {te:TE} {σ:St} {Q:VK}
end
end L2
set_option maxHeartbeats 4000000
namespace L2
open PySem PySem.Spec PyProof.Rows
section
open PySem.SeqAt
open PySem.AutoSeq1 (wpAny_loadPart')
open PySem.MeetsSeq PySem.MeetsSeq2 PySem.MeetsSeq3
end
end L2
set_option maxHeartbeats 4000000
namespace L2
open PySem PySem.Spec PyProof.Rows
section
open PySem.SeqAt
open PySem.MeetsSeq PySem.MeetsSeq2 PySem.MeetsSeq3
variable {X:Cx}
end
end L2
set_option maxHeartbeats 4000000
namespace L2
open PySem PySem.Spec PyProof.Rows PySem.W
section
variable {prog:Program} {w:World} {A:Around} {E:Value→Shared→Prop} {s:Shared} {F:Nat→Nat→Bool} {κ:SortKind} {vs ks:List Value} {f:Value} {J:Shared→Prop} {a kS:Addr}
end
end L2
set_option maxHeartbeats 4000000
namespace L2
open PySem PySem.Spec PyProof.Rows PySem.W
open PySem.SeqAt
section
variable {prog:Program} {w:World} {A:Around} {s:Shared}
end
end L2
set_option maxHeartbeats 4000000
namespace L2
open PySem PySem.Spec PyProof.Rows PySem.W
abbrev gr (q:Int×List PyData):PyData := .tuple (.int q.1::q.2)
section
variable {X:Cx} {g:Gx}
end
end L2
namespace L2
open PySem
end L2
namespace L2
open PySem PySem.Spec PyProof.Rows
section
variable {g:Gx} {x qual:Str} {st:Stmt} {N ps:List Str} {dvs:List V} {sp:Sp} {j k:Nat}
end
section
variable {g:Gx} {X:Cx} {k jj i j:Nat} {x f c n:Str} {ps:List Str} {dvs:List V} {sp:Sp} {e:Expr} {es:List Expr} {t:TA} {ts:TS} {b₀:Stmt} {suite body:List Stmt} {cv:Value} {fp px cp hpos apos cpos pos:Pos}
end
end L2
namespace L2
open PySem PySem.Spec PyProof.Rows
open PySem.Builtin PySem.Builtin.Str
section
variable {prog:Program} {w:World} {A:Around} {E:Value→Shared→Prop} {s:Shared} {x y z:Str} {t u v k:Tok} {Q:Value→Shared→Prop}
end
section
variable {X:Cx}
end
section
variable {X:Cx} {K:PySem.W.Frag}
end
end L2
set_option maxHeartbeats 4000000
namespace L2
open PySem PySem.Spec PyProof.Rows PySem.W
section
variable {prog:Program} {w:World} {A:Around} {E:Value→Shared→Prop} {s:Shared}
end
section
variable {prog:Program} {w:World} {A:Around} {R:Result→Shared→Prop} {I:Addr} {fp wr:List Addr} {G:Array GenState→Array GenState→Prop} {n:Nat} {P:Nat→Value→Prop} {St:Nat→Shared→Prop} {bt:Bool}
end
section
variable {prog:Program} {w:World} {A:Around} {E:Value→Shared→Prop} {s:Shared}
end
section
variable {prog:Program} {w:World} {A:Around} {E:Value→Shared→Prop} {s:Shared} {I a:Addr} {fst:Value} {i ep:Nat} {o:Obj} {es:Array (Int×Value)} {t:SetTable}
end
section
variable {prog:Program} {w:World} {A:Around} {E:Value→Shared→Prop} {s:Shared}
end
section
variable {prog:Program} {w:World} {A:Around} {E:Value→Shared→Prop} {s:Shared}
end
section
variable {X:Cx}
end
end L2
set_option maxHeartbeats 4000000
namespace L2
open PySem PySem.Spec PyProof.Rows PySem.W
section
variable {prog:Program} {w:World} {A:Around} {E:Value→Shared→Prop} {s:Shared}
end
section
variable {X:Cx} {pos:Pos}
end
end L2
namespace L2
open PySem PySem.Spec PyProof.Rows PySem.W
section
variable {X:Cx}
end
end L2
namespace L2
open PySem PySem.Spec PyProof.Rows PySem.W
section
variable {X:Cx}
end
section
variable {X:Cx} {st:Stmt} {Xv:List Stmt} {t:TS} {u:(St→V→Hp→Prop)→St→Hp→Prop}
end
end L2
namespace L2
open PySem PySem.Spec PyProof.Rows
section
variable {g:Gx} {X:Cx} {k jj i j:Nat} {x f c n:Str} {ps:List Str} {dvs:List V} {sp:Sp} {e:Expr} {es:List Expr} {t:TA} {fp px cp apos cpos pos:Pos}
end
end L2
namespace L2
open PySem PySem.Spec PyProof.Rows
noncomputable def ovD (xs:Dx) (d:PyData) (p:Addr):Dx:=xs.map fun x=>if x.1=d then (x.1,x.2.1,p) else x
noncomputable def putX (xs:Dx) (d:PyData) (b p:Addr):Dx:=match lookD xs d with
 | none=>xs++[(d,b,p)]
 | some _=>ovD xs d p
theorem Ydu (xs:Dx) (d:PyData) (p:Addr):(ovD xs d p).map (·.1)=xs.map (·.1):=by
 unfold ovD
 rw [List.map_map]
 refine List.map_congr_left fun x _=>?_
 show (if x.1=d then (x.1,x.2.1,p) else x).1=x.1
 split<;>rfl
theorem Ydv (xs:Dx) (d e:PyData) (p q:Addr) (h:lookD xs d=some q):lookD (ovD xs d p) e=if e=d then some p else lookD xs e:=by
 induction xs with
 | nil=>cases h
 | cons x xs ih =>
  unfold lookD ovD at *
  simp only [List.map_cons,List.find?_cons] at *
  by_cases c:x.1=d
  ·rw [if_pos c]
   by_cases c2:e=d
   ·subst c2;simp [c]
   ·have c3:¬ x.1=e:=fun z=>c2 (z.symm.trans c)
    have c3:¬ d=e:=fun z=>c2 z.symm
    simp only [c,c3,decide_false,if_neg c2]
    clear ih h
    induction xs with
    | nil=>rfl
    | cons y ys ih2 =>
     simp only [List.map_cons,List.find?_cons]
     by_cases c4:y.1=d
     ·simp only [c4,if_pos,c3,decide_false];exact ih2
     ·rw [if_neg c4]
      by_cases c5:y.1=e
      ·simp [c5]
      ·simp only [c5,decide_false];exact ih2
  ·rw [if_neg c]
   simp only [c,decide_false] at h
   by_cases c2:e=d
   ·subst c2
    simp only [c,decide_false]
    rw [ih h,if_pos rfl,if_pos trivial]
   ·rw [if_neg c2]
    by_cases c5:x.1=e
    ·simp [c5]
    ·simp only [c5,decide_false]
     have:=ih h
     rw [if_neg c2] at this
     exact this
theorem UW (xs:Dx) (d e:PyData) (b p:Addr):lookD (putX xs d b p) e=if e=d then some p else lookD xs e:=by
 unfold putX
 split
 ·rename_i h;exact Wu _ _ _ _ _ h
 ·rename_i h;exact Ydv _ _ _ _ _ h
theorem Ycx (xs:Dx) (d:PyData) (b p:Addr):(putX xs d b p).length≤xs.length+1:=by
 unfold putX
 split
 ·rw [List.length_append];exact Nat.le_refl _
 ·unfold ovD;rw [List.length_map];omega
theorem Ycy {xs:Dx} {d:PyData} {b p:Addr} {x:PyData×Addr×Addr} (h:x∈putX xs d b p):x∈xs∨(x.1=d∧x.2.2=p):=by
 unfold putX at h
 split at h
 ·rcases List.mem_append.mp h with h | h
  ·exact .inl h
  ·rw [List.mem_singleton.mp h];exact .inr ⟨rfl,rfl⟩
 ·unfold ovD at h
  obtain ⟨y,hy,rfl⟩:=List.mem_map.mp h
  split
  ·rename_i c;exact .inr ⟨c,rfl⟩
  ·exact .inl hy
section
variable {X:Cx} {pins:List (Addr×Obj)} {σ:St} {H:Hp} {s:Shared} {a b:Addr} {d:PyData} {xs:Dx} {A:Around} {E:Value→Shared→Prop}
theorem YbP {p q:Addr} {Q:Unit→Shared→Prop} (hu:A.units+9<cLine) (I:Inv X pins σ H s) (g:DictD X.prog X.w X.K H a xs) (k:DK X.K H b d) (l:lookD xs d=some q) (h:∀ s',Inv X pins σ (upd H a (DDi X.prog X.w a (ovD xs d p))) s'→Q () s') :
  wpAny (model X.prog X.w) A (setItem (.ref a) (.ref b) (.ref p)) Q E s:=by
 obtain ⟨hd,dd⟩:=Uj I g
 have hz:(xs.map XA).length≤sizeLine:=by rw [List.length_map];exact Nat.le_trans g.len (by decide)
 refine wpAny_setItem_heap (hsz:=hz) (show A.in1.units+8<cLine from by have:A.in1.units=A.units+1:=rfl;omega) (Ui I k) dd fun h' dd' hs=>h _ ?_
 have e:=Wj xs d
 rw [l] at e
 obtain ⟨z,hz,_⟩:=Option.map_eq_some_iff.mp e
 rw [storedH_old hz] at dd'
 obtain ⟨q,es,ep,hq,h2,h3,h4,_,h5⟩:=dd'
 refine VI I (by rw [g.at_];exact True.intro) hs ⟨q,hq⟩ (Qy hd ⟨q,es,ep,hq,h2,h3,?_⟩)
 rw [h4]
 congr 1
 rw [List.map_map,ovD,List.map_map]
 refine List.map_congr_left fun x _=>?_
 show putAt d (.ref p) (XA x)=XA (if x.1=d then (x.1,x.2.1,p) else x)
 by_cases c:x.1=d
 ·rw [if_pos c];simp [putAt,XA,c]
 ·rw [if_neg c];simp [putAt,XA,c]
end
theorem DictD.putX {P:Program} {w:World} {K:PySem.W.Frag} {H:Hp} {a b p:Addr} {d:PyData} {xs:Dx} (h:DictD P w K H a xs) (k:DK K H b d) (hl:xs.length<1000):DictD P w K (upd H a (DDi P w a (L2.putX xs d b p))) a (L2.putX xs d b p):=by
 cases e:lookD xs d with
 | none =>
  have e2:L2.putX xs d b p=xs++[(d,b,p)]:=by unfold L2.putX;rw [e]
  rw [e2];exact h.put k e hl
 | some q =>
  have e2:L2.putX xs d b p=ovD xs d p:=by unfold L2.putX;rw [e]
  rw [e2]
  have t:XC H (upd H a (DDi P w a (ovD xs d p))):=Xx (fun b o hb e=>by rw [Yb hb];exact e) h.at_ (by intro xs z;cases z) (by intro o v z;cases z)
  refine ⟨Yc,by rw [Ydu];exact h.nd,by unfold ovD;rw [List.length_map];exact h.len,fun x hx=>?_⟩
  unfold ovD at hx
  obtain ⟨y,hy,rfl⟩:=List.mem_map.mp hx
  have:=(h.keys y hy).tupk t
  split<;>exact this
def YbQ (P:Program) (w:World) (K:PySem.W.Frag) (td ty tv:TE):TS:=fun D σ H=>tv σ H fun v H1=>td σ H1 fun x H2=>ty σ H2 fun y H3=>∃ a b xs d p,v = .ref p∧x = .ref a∧y = .ref b∧DictD P w K H3 a xs∧DK K H3 b d∧xs.length<1000∧D.nx σ (upd H3 a (DDi P w a (putX xs d b p)))
section
variable {X:Cx} {o i e value:Expr} {pos pos' tpos:Pos} {td ty tv:TE} {k:Nat}
theorem Ycz (hr:Room k X.A) (ho:PE X o td) (hi:PE X i ty) (hv:PE X value tv) (hs:swapsWith value (some (.Subscript o i pos')) pos.line X.env=pure false) :
  PS X (.Assign [.Subscript o i pos'] value pos) (YbQ X.prog X.w X.K td ty tv):=by
 intro pins s σ H D I h
 refine wpAny_Assign_Subscript (thn (hv pins s σ H _ I h) fun r s1 ⟨v,H1,I1,rv,q1⟩=>thn (ho pins s1 σ H1 _ I1 q1) fun u s2 ⟨x,H2,I2,rx,q2⟩=>thn (hi pins s2 σ H2 _ I2 q2) fun iv s3 ⟨y,H3,I3,ry,a,b,xs,d,p,ev,ex,ey,g,kk,hl,q3⟩=>?_) hs
 subst ex ey ev
 obtain rfl:u=Value.ref a:=rx
 obtain rfl:iv=Value.ref b:=ry
 obtain rfl:r=Value.ref p:=rv
 cases el:lookD xs d with
 | none =>
  have e2:putX xs d b p=xs++[(d,b,p)]:=by unfold putX;rw [el]
  rw [e2] at q3
  exact Uk (Vw hr) I3 g kk el hl fun s4 I4=>⟨σ,_,I4,q3⟩
 | some q =>
  have e2:putX xs d b p=ovD xs d p:=by unfold putX;rw [el]
  rw [e2] at q3
  exact YbP (Vw hr) I3 g kk el fun s4 I4=>⟨σ,_,I4,q3⟩
end
end L2
set_option maxHeartbeats 8000000
namespace KW
open PySem L2
def top (i:Nat):Stmt:=PySem.Challenge.pw_countgen_k32_picks_and_uses_counted.main.body.getD i (.Pass ⟨0,0,0,0⟩)
abbrev Z1T:Stmt:=top 6
theorem Z2Z:FnScope ["shape","kind"] ["shape"] (Yj Z1T):=⟨rfl,rfl,rfl,by decide +kernel,rfl,by decide +kernel,by decide +kernel⟩
abbrev Z1U:Stmt:=top 8
theorem Z30:FnScope ["book","name","pair"] ["book","name"] (Yj Z1U):=⟨rfl,rfl,rfl,by decide +kernel,rfl,by decide +kernel,by decide +kernel⟩
abbrev Z2u:Stmt:=top 13
theorem YaX:FnScope ["blocks"] ["blocks"] (Yj Z2u):=⟨rfl,rfl,rfl,by decide +kernel,rfl,by decide +kernel,by decide +kernel⟩
abbrev Z0F:Stmt:=top 18
theorem Z2O:FnScope ["size"] ["size"] (Yj Z0F):=⟨rfl,rfl,rfl,by decide +kernel,rfl,by decide +kernel,by decide +kernel⟩
abbrev Z1v:Stmt:=top 29
theorem Qz:FnScope ["book","shape"] ["book","shape"] (Yj Z1v):=⟨rfl,rfl,rfl,by decide +kernel,rfl,by decide +kernel,by decide +kernel⟩
abbrev Z2v:Stmt:=top 31
theorem YaY:FnScope ["book","shape","size"] ["book","shape","size"] (Yj Z2v):=⟨rfl,rfl,rfl,by decide +kernel,rfl,by decide +kernel,by decide +kernel⟩
abbrev Z1w:Stmt:=top 32
theorem Z2w:FnScope ["book","shape","size","maker"] ["book","shape","size"] (Yj Z1w):=⟨rfl,rfl,rfl,by decide +kernel,rfl,by decide +kernel,by decide +kernel⟩
abbrev Z1x:Stmt:=top 34
theorem QA:FnScope ["_law_found"] ["_law_found"] (Yj Z1x):=⟨rfl,rfl,rfl,by decide +kernel,rfl,by decide +kernel,by decide +kernel⟩
abbrev Z2x:Stmt:=top 35
theorem Z1h:FnScope ["_law_script","_law_k","_law_step","_law_found","_law_cell"] ["_law_script","_law_k","_law_step"] (Yj Z2x):=⟨rfl,rfl,rfl,by decide +kernel,rfl,by decide +kernel,by decide +kernel⟩
abbrev Z1V:Stmt:=top 36
theorem QZ:FnScope ["_law_script","_law_many"] ["_law_script","_law_many"] (Yj Z1V):=⟨rfl,rfl,rfl,by decide +kernel,rfl,by decide +kernel,by decide +kernel⟩
abbrev Z1W:Stmt:=top 37
theorem Q0:FnScope ["_law_feed_here"] ["_law_feed_here"] (Yj Z1W):=⟨rfl,rfl,rfl,by decide +kernel,rfl,by decide +kernel,by decide +kernel⟩
abbrev Z0u:Stmt:=top 38
theorem ZC:FnScope ["_law_feed_here","_law_cell","_law_low","_law_span"] ["_law_feed_here"] (Yj Z0u):=⟨rfl,rfl,rfl,by decide +kernel,rfl,by decide +kernel,by decide +kernel⟩
abbrev Z1y:Stmt:=top 39
theorem ZD:FnScope ["_law_cell","_law_many","_law_letters","_law_size","_law_at","_law_base","_law_found","_law_k","_law_word","_law_j"] ["_law_cell","_law_many"] (Yj Z1y):=⟨rfl,rfl,rfl,by decide +kernel,rfl,by decide +kernel,by decide +kernel⟩
abbrev Z1m:Stmt:=top 40
theorem Z1d:FnScope ["_law_found","_law_due_here","_law_one","_law_other"] ["_law_found","_law_due_here"] (Yj Z1m):=⟨rfl,rfl,rfl,by decide +kernel,rfl,by decide +kernel,by decide +kernel⟩
abbrev Z16:Stmt:=top 41
theorem ZI:FnScope ["_law_feed_here","_law_names","_law_cell","_law_marks","_law_found","_law_mark","_law_way","_law_uses"] ["_law_feed_here","_law_names"] (Yj Z16):=⟨rfl,rfl,rfl,by decide +kernel,rfl,by decide +kernel,by decide +kernel⟩
abbrev Z0v:Stmt:=top 42
theorem ZW:FnScope ["_law_span","_law_size","_law_power","_law_k"] ["_law_span","_law_size"] (Yj Z0v):=⟨rfl,rfl,rfl,by decide +kernel,rfl,by decide +kernel,by decide +kernel⟩
abbrev Z0Q:Stmt:=top 43
theorem ZU:FnScope ["_law_parts","_law_uses","_law_size","_law_ways","_law_part","_law_some"] ["_law_parts","_law_uses","_law_size"] (Yj Z0Q):=⟨rfl,rfl,rfl,by decide +kernel,rfl,by decide +kernel,by decide +kernel⟩
abbrev Z2y:Stmt:=top 44
theorem Zy:FnScope ["_law_book","_law_size","_law_shapes","_law_uses","_law_name","_law_shape","_law_k","_law_total","_law_mark","_law_part"] ["_law_book","_law_size"] (Yj Z2y):=⟨rfl,rfl,rfl,by decide +kernel,rfl,by decide +kernel,by decide +kernel⟩
abbrev Qg:Stmt:=top 45
theorem XD:FnScope ["_law_script","_law_feed_here","_law_cell","_law_size","_law_names","_law_book","_law_shapes","_law_uses","_law_due_here","_law_handed","_law_name","_law_shape"] ["_law_script"] (Yj Qg):=⟨rfl,rfl,rfl,by decide +kernel,rfl,by decide +kernel,by decide +kernel⟩
abbrev Z0w:Stmt:=YF (top 28) 0
theorem Z2z:FnScope ["self","book"] ["self","book"] (Yj Z0w):=⟨rfl,rfl,rfl,by decide +kernel,rfl,by decide +kernel,by decide +kernel⟩
abbrev Z0x:Stmt:=YF (top 28) 1
theorem Z2A:FnScope ["self","shape"] ["self","shape"] (Yj Z0x):=⟨rfl,rfl,rfl,by decide +kernel,rfl,by decide +kernel,by decide +kernel⟩
abbrev Z0G:Stmt:=YF (top 28) 2
theorem Z1e:FnScope ["self","shape","maker"] ["self","shape"] (Yj Z0G):=⟨rfl,rfl,rfl,by decide +kernel,rfl,by decide +kernel,by decide +kernel⟩
abbrev Z0r:Stmt:=YF (top 28) 3
theorem Z0d:FnScope ["self","shape","kind","parts"] ["self","shape"] (Yj Z0r):=⟨rfl,rfl,rfl,by decide +kernel,rfl,by decide +kernel,by decide +kernel⟩
abbrev ZY:Stmt:=YF (top 19) 0
theorem Z1z:FnScope ["self","low","high"] ["self","low","high"] (Yj ZY):=⟨rfl,rfl,rfl,by decide +kernel,rfl,by decide +kernel,by decide +kernel⟩
abbrev ZZ:Stmt:=YF (top 19) 1
theorem Z0B:FnScope ["self","size","greatest"] ["self","size"] (Yj ZZ):=⟨rfl,rfl,rfl,by decide +kernel,rfl,by decide +kernel,by decide +kernel⟩
abbrev Z0e:Stmt:=YF (top 14) 0
theorem Z1X:FnScope ["self","parts"] ["self","parts"] (Yj Z0e):=⟨rfl,rfl,rfl,by decide +kernel,rfl,by decide +kernel,by decide +kernel⟩
abbrev Z0s:Stmt:=YF (top 14) 1
theorem Z2j:FnScope ["self","place","left"] ["self","place","left"] (Yj Z0s):=⟨rfl,rfl,rfl,by decide +kernel,rfl,by decide +kernel,by decide +kernel⟩
abbrev Z0f:Stmt:=YF (top 14) 2
theorem Z0R:FnScope ["self","size","place"] ["self","size"] (Yj Z0f):=⟨rfl,rfl,rfl,by decide +kernel,rfl,by decide +kernel,by decide +kernel⟩
abbrev Z04:Stmt:=YF (top 14) 3
theorem Z0K:FnScope ["self","place","left","part"] ["self","place","left"] (Yj Z04):=⟨rfl,rfl,rfl,by decide +kernel,rfl,by decide +kernel,by decide +kernel⟩
abbrev Z0g:Stmt:=YF (top 21) 0
theorem Z1Y:FnScope ["self","parts"] ["self","parts"] (Yj Z0g):=⟨rfl,rfl,rfl,by decide +kernel,rfl,by decide +kernel,by decide +kernel⟩
abbrev Z0h:Stmt:=YF (top 21) 1
theorem Z1Z:FnScope ["self","size"] ["self","size"] (Yj Z0h):=⟨rfl,rfl,rfl,by decide +kernel,rfl,by decide +kernel,by decide +kernel⟩
abbrev Z05:Stmt:=YF (top 25) 0
theorem Z1J:FnScope ["self","marks","parts"] ["self","marks","parts"] (Yj Z05):=⟨rfl,rfl,rfl,by decide +kernel,rfl,by decide +kernel,by decide +kernel⟩
abbrev Z00:Stmt:=YF (top 25) 1
theorem Z1A:FnScope ["self","size"] ["self","size"] (Yj Z00):=⟨rfl,rfl,rfl,by decide +kernel,rfl,by decide +kernel,by decide +kernel⟩
abbrev Z06:Stmt:=YF (top 25) 2
theorem Z1K:FnScope ["self","size"] ["self","size"] (Yj Z06):=⟨rfl,rfl,rfl,by decide +kernel,rfl,by decide +kernel,by decide +kernel⟩
abbrev Z0i:Stmt:=YF (top 26) 0
theorem Z20:FnScope ["self"] ["self"] (Yj Z0i):=⟨rfl,rfl,rfl,by decide +kernel,rfl,by decide +kernel,by decide +kernel⟩
abbrev Z0j:Stmt:=YF (top 26) 1
theorem Z21:FnScope ["self","size"] ["self","size"] (Yj Z0j):=⟨rfl,rfl,rfl,by decide +kernel,rfl,by decide +kernel,by decide +kernel⟩
abbrev Z0H:Stmt:=YF (top 17) 0
theorem Z2P:FnScope ["self"] ["self"] (Yj Z0H):=⟨rfl,rfl,rfl,by decide +kernel,rfl,by decide +kernel,by decide +kernel⟩
abbrev Z01:Stmt:=YF (top 17) 1
theorem Z1B:FnScope ["self","size"] ["self","size"] (Yj Z01):=⟨rfl,rfl,rfl,by decide +kernel,rfl,by decide +kernel,by decide +kernel⟩
abbrev Z0k:Stmt:=YF (top 17) 1
theorem Z22:FnScope ["self","size"] ["self","size"] (Yj Z0k):=⟨rfl,rfl,rfl,by decide +kernel,rfl,by decide +kernel,by decide +kernel⟩
abbrev Z07:Stmt:=YF (top 17) 1
theorem Z1L:FnScope ["self","size"] ["self","size"] (Yj Z07):=⟨rfl,rfl,rfl,by decide +kernel,rfl,by decide +kernel,by decide +kernel⟩
abbrev Z0l:Stmt:=YF (top 17) 1
theorem Z23:FnScope ["self","size"] ["self","size"] (Yj Z0l):=⟨rfl,rfl,rfl,by decide +kernel,rfl,by decide +kernel,by decide +kernel⟩
variable {g:Gx}
local macro_rules | `(tactic| walk_at "rd")=>`(tactic| simp (config:={ failIfUnchanged:=false,maxSteps:=10000000 }) only [L2.Wg,Yd3,nox_K,List.map_cons,List.map_nil,List.length_cons,List.length_nil,List.cons_append,List.nil_append,List.replicate_succ,List.replicate_zero,Nat.zero_add,Nat.reduceAdd,Nat.reduceSub,Nat.sub_self,XH,tIfS,YcP,tOp,tC,Uy,rI0,rI,rU,tUn,tRet,tRetN,YcN,YcM,YdS,tCont,Yav,Yv,WP,Xp,Qb,Uz,tCB,V5,tTry,Yd7,Yd6,sFld,tFld,V6,Qd,Ends.gone,tB,tAnd,tOr,tNot,YcK,tOrV,YcL,tIf,YdV,Yaa,YcQ,tSl,Ybj,tAug,rIxL,rIxT,rSlL,tLst,tTup,WQ,tRev,tLZ,tConT,Yd5,Yd2,YcT,YcU,Ydr,rInD,Yah,Yag,rBits,rFind,rIn,tBM,tBM0,Yab,Ycg,rEq,rNe,Ydn,Y1,rCat,rSetL,gSub,ipI,Yy,List.getD_cons_zero,List.getD_cons_succ,decide_true,not_true_eq_false,not_false_eq_true,
 exists_eq_left',exists_eq_left,exists_eq',exists_eq,exists_and_left,and_assoc,Option.some.injEq,V.int.injEq,V.bl.injEq,V.ref.injEq,V.str.injEq,List.getElem?_cons_zero,List.getElem?_cons_succ,List.set_cons_zero,List.set_cons_succ,List.cons.injEq,and_true,true_and,List.append_nil,decide_eq_true_eq,Bool.not_eq_true',decide_eq_false_iff_not,Bool.not_not,Bool.not_true,Bool.not_false,Bool.true_eq_false,Bool.false_eq_true,if_true,if_false,ite_true,ite_false])
theorem cm {i j:Int} {m n:Nat} (h1:i.natAbs<2^m) (h2:j.natAbs<2^n) (h:m+n≤100000000:=by decide):Qe i j:=⟨m,n,h1,h2,h⟩
theorem QB {i j:Int} (h:0≤j∧j≤1000000∧i.natAbs<2^64:=by decide):CPow i j:=h
theorem few {n:Nat} (h:n≤100000):n≤sizeLine:=Nat.le_trans h (by decide)
theorem UC (x:Int) {j:Int} (h:0<j):∃ r:Nat,x%j=r∧(r:Int)<j:=⟨(x%j).toNat,by have:=Int.emod_nonneg x (Int.ne_of_gt h);omega,by have:=Int.emod_lt_of_pos x h;have:=Int.emod_nonneg x (Int.ne_of_gt h);omega⟩
def SameBut (p:Addr) (H H':Hp):Prop:=∀ q o,q≠p→H q=some o→H' q=some o
theorem SameBut.refl (p:Addr) (H:Hp):SameBut p H H:=fun _ _ _ h=>h
theorem SameBut.trans {p:Addr} {H H1 H2:Hp} (a:SameBut p H H1) (b:SameBut p H1 H2):SameBut p H H2:=fun q o n h=>b q o n (a q o n h)
inductive Sh | w (lo:Int) (span:Nat) | row (ps:List Sh) | pick (mk:List (List Nat)) (ps:List Sh) | use (x:List Nat)
def wc (span:Int) (k:Nat):Int:=if (if (1*2^k - 1:Int)<span then (1*2^k - 1:Int) else span) - 1*2^k / 2^1+1>0 then (if (1*2^k - 1:Int)<span then (1*2^k - 1:Int) else span) - 1*2^k / 2^1+1 else 0
mutual
def dep:Sh→Nat
 | .row ps=>YH ps+1
 | .pick _ ps=>YH ps+1
 | _=>0
def YH:List Sh→Nat
 | []=>0
 | p::ps=>max (dep p) (YH ps)
end
theorem WZ {p:Sh}:∀ {ps:List Sh},p∈ps→dep p≤YH ps
 | q::ps,h=>by
  rw [YH]
  rcases List.mem_cons.mp h with rfl | h
  ·omega
  ·have:=WZ h
   omega
mutual
def cnt (bk:List Nat→Sh):Sh→Nat→Int
 | .w _ span,s=>wc span s
 | .row ps,s=>YI bk ps s
 | .pick _ ps,s=>Qh bk ps s
 | .use x,s=>if h:s=0 then 0 else cnt bk (bk x) (s - 1)
termination_by sh s=>(s,sizeOf sh)
decreasing_by
 ·simp only [Prod.lex_def];right;simp
 ·simp only [Prod.lex_def];right;simp;omega
 ·simp only [Prod.lex_def];left;omega
def YI (bk:List Nat→Sh):List Sh→Nat→Int
 | [],s=>if s=0 then 1 else 0
 | p::ps,s=>((List.range (s+1)).attach.map fun ⟨f,hf⟩=>cnt bk p f*YI bk ps (s - f)).sum
termination_by ps s=>(s,sizeOf ps)
decreasing_by
 ·have:=List.mem_range.mp hf
  simp only [Prod.lex_def]
  by_cases c:f<s
  ·left;exact c
  ·right;exact ⟨by omega,by simp;omega⟩
 ·simp only [Prod.lex_def]
  by_cases c:s - f<s
  ·left;exact c
  ·right;exact ⟨by omega,by simp;omega⟩
def Qh (bk:List Nat→Sh):List Sh→Nat→Int
 | [],_=>0
 | p::ps,s=>cnt bk p s+Qh bk ps s
termination_by ps s=>(s,sizeOf ps)
decreasing_by
 ·simp only [Prod.lex_def];right;exact ⟨trivial,by simp;omega⟩
 ·simp only [Prod.lex_def];right;exact ⟨trivial,by simp;omega⟩
end
theorem Um (bk:List Nat→Sh) (lo:Int) (span s:Nat):cnt bk (.w lo span) s=wc span s:=by rw [cnt]
theorem Wx (bk:List Nat→Sh) (ps:List Sh) (s:Nat):cnt bk (.row ps) s=YI bk ps s:=by rw [cnt]
theorem WH (bk:List Nat→Sh) (mk:List (List Nat)) (ps:List Sh) (s:Nat):cnt bk (.pick mk ps) s=(ps.map fun p=>cnt bk p s).sum:=by
 rw [cnt]
 induction ps with
 | nil=>rw [Qh];rfl
 | cons p ps ih=>rw [Qh,ih];rfl
theorem Wb (bk:List Nat→Sh) (x:List Nat):cnt bk (.use x) 0=0:=by rw [cnt,dif_pos rfl]
theorem Wy (bk:List Nat→Sh) (x:List Nat) (s:Nat):cnt bk (.use x) (s+1)=cnt bk (bk x) s:=by rw [cnt,dif_neg (by omega)];rfl
theorem WJ (bk:List Nat→Sh) (s:Nat):YI bk [] s=if s=0 then 1 else 0:=by rw [YI]
theorem Wl (bk:List Nat→Sh) (p:Sh) (ps:List Sh) (s:Nat):YI bk (p::ps) s=((List.range (s+1)).map fun f=>cnt bk p f*YI bk ps (s - f)).sum:=by
 rw [YI]
 congr 1
 exact List.attach_map_val (f:=fun f=>cnt bk p f*YI bk ps (s - f))
mutual
def kd:Sh→PyData
 | .w lo span => .tuple [.str "whole",.int lo,.int (lo+span)]
 | .row ps => .tuple [.str "row",.tuple (kds ps)]
 | .pick mk ps => .tuple [.str "pick",.tuple (kdp mk ps)]
 | .use x => .tuple [.str "use",.str (S x)]
def kds:List Sh→List PyData
 | []=>[]
 | p::ps=>kd p::kds ps
def kdp:List (List Nat)→List Sh→List PyData
 | m::mk,p::ps => .tuple [.str (S m),kd p]::kdp mk ps
 | _,_=>[]
end
variable {m:Nat}
variable {src:List (Option Nat)} {te:TE} {σ:St} {H:Hp} {Q:VK}
variable {P0:Program} {w0:World} {K:PySem.W.Frag} {C:Cs} {CL:Addr} {prs:Prs} {w:Wo} {U O:Addr→Prop} {H H':Hp} {ls dx d B:Addr} {xs:Dx}
variable {P0:Program} {w0:World} {K:PySem.W.Frag} {C:Cs} {CL:Addr} {prs:Prs} {w w1:Wo} {U U1 O:Addr→Prop} {H H1 H3:Hp} {ls dx d B:Addr} {xs xs1:Dx}
variable {P0:Program} {w0:World} {K:PySem.W.Frag} {C:Cs} {CL:Addr} {prs:Prs} {w:Wo} {U O O':Addr→Prop} {H H':Hp} {ls dx d B:Addr} {xs:Dx}
variable {f u:Bool→Nat→Int} {nb:Bool→List Nat} {H0 H' H2:Hp} {Sd Ud:Addr} {A L:Bool→Addr} {a l:Bool→Nat}
variable {nb:Bool→List Nat} {mk:Bool→List (List Nat)} {ps:Bool→List Sh}
def Yt (f:Nat→Int) (n:Nat):List V:=(List.range n).map fun k=>V.int (f k)
theorem Ys (f:Nat→Int) (n:Nat):(Yt f n).length=n:=by simp [Yt]
theorem Y2 (f:Nat→Int) (n:Nat):Yt f (n+1)=Yt f n++[.int (f n)]:=by simp [Yt,List.range_succ]
theorem Xk (f:Nat→Int) {n i:Nat} (h:i<n):atI (Yt f n) (i:Int)=some (.int (f i)):=Yq (by simp [Yt,h])
theorem dle (x k:Nat):decide ((x:Int)≤(k:Int))=decide (x≤k):=decide_eq_decide.mpr (by omega)
structure Cs where
 (w row tab pick use:Addr)
structure Wo where
 bk:List Nat→Sh
 reg:Addr→Option Sh
 D:Addr→Option (Addr×Nat)
 M:Nat
structure Sw where
 ns:Addr→Nat
 ms:Addr→Nat→Nat
 U:Addr→Prop
def VY (C:Cs):Sh→Addr
 | .w _ _=>C.w
 | .row _=>C.row
 | .pick _ _=>C.pick
 | .use _=>C.use
def WK (reg:Addr→Option Sh) (as:List Addr) (ps:List Sh):Prop:=as.length=ps.length∧∀ (i:Nat) a p,as[i]?=some a→ps[i]?=some p→reg a=some p
def sm (x:Int):Prop:=∃ n:Nat,n≤10000000∧x.natAbs<2^n
def Un (w:Wo) (t:Sw) (b:Addr):Prop:=w.D b=none∧t.U b
def fW (lo:Int) (span:Nat):List (Str×V):=[("low",.int lo),("span",.int span)]
def fR (P T:Addr):List (Str×V):=[("parts",.ref P),("table",.ref T)]
def WT (P L:Addr):List (Str×V):=[("parts",.ref P),("ways",.ref L)]
def fP (M P:Addr):List (Str×V):=[("marks",.ref M),("parts",.ref P)]
def fU (a:V):List (Str×V):=[("named",a)]
def mf (c:Addr) (fs:List (Str×V)):List (Str×V):=("counts",.ref c)::fs
def Sub (C:Cs) (w:Wo) (t:Sw) (H:Hp) (p:Addr):Sh→List (Str×V)→Prop
 | .w lo span,fs=>fs=fW lo span
 | .row ps,fs=>∃ (P T dt L:Addr) (as ws:List Addr),fs=fR P T∧Un w t P∧Un w t T∧Un w t L∧H P=some (.lst (as.map V.ref))∧WK w.reg as ps∧ps.length≤100 ∧
   H T=some (.ins C.tab dt (WT P L))∧H L=some (.lst (ws.map V.ref))∧ws.length=ps.length+1 ∧
   (∀ (i:Nat) x,ws[i]?=some x→w.D x=some (p,i+1)∧t.ns p≤t.ms p i∧t.ms p i≤60∧H x=some (.lst (Yt (YI w.bk (ps.drop i)) (t.ms p i))))∧∀ i s,s≤45→sm (YI w.bk (ps.drop i) s)
 | .pick mk ps,fs=>∃ (M P:Addr) (as:List Addr),fs=fP M P∧Un w t M∧Un w t P∧H M=some (.lst (mk.map fun m=>V.str (S m)))∧H P=some (.lst (as.map V.ref))∧WK w.reg as ps∧ps.length≤100
 | .use x,fs=>∃ a,fs=fU (.ref a)∧w.reg a=some (w.bk x)
def X3 (C:Cs) (w:Wo) (t:Sw) (H:Hp) (p:Addr) (sh:Sh):Prop:=∃ (dx c:Addr) (fs:List (Str×V)),Un w t p∧dep sh≤w.M∧(∀ s,s≤45→sm (cnt w.bk sh s))∧t.ns p≤60∧H p=some (.ins (VY C sh) dx (mf c fs))∧w.D c=some (p,0)∧H c=some (.lst (Yt (cnt w.bk sh) (t.ns p)))∧Sub C w t H p sh fs
structure WI (C:Cs) (w:Wo) (t:Sw) (H:Hp):Prop where
 at_:∀ p sh,w.reg p=some sh→X3 C w t H p sh
 al:∀ b,t.U b→H b≠none
 ow:∀ b x,w.D b=some x→t.U b
 inj:∀ b b' x,w.D b=some x→w.D b'=some x→b=b'
theorem Sub.keep {C:Cs} {w:Wo} {t:Sw} {H H':Hp} {p:Addr} (ow:∀ b x,w.D b=some x→t.U b) (hk:∀ b o,t.U b→H b=some o→H' b=some o):∀ {sh:Sh} {fs:List (Str×V)},Sub C w t H p sh fs→Sub C w t H' p sh fs
 | .w lo span,fs,h=>h
 | .row ps,fs,h=>by
  obtain ⟨P,T,dt,L,as,ws,h1,h2,h3,h4,h5,h6,h7,h8,h9,h10,h11,h12⟩:=h
  exact ⟨P,T,dt,L,as,ws,h1,h2,h3,h4,hk _ _ h2.2 h5,h6,h7,hk _ _ h3.2 h8,hk _ _ h4.2 h9,h10,fun i x hx=>⟨(h11 i x hx).1,(h11 i x hx).2.1,(h11 i x hx).2.2.1,hk _ _ (ow _ _ (h11 i x hx).1) (h11 i x hx).2.2.2⟩,h12⟩
 | .pick mk ps,fs,h=>by
  obtain ⟨M,P,as,h1,h2,h3,h4,h5,h6,h7⟩:=h
  exact ⟨M,P,as,h1,h2,h3,hk _ _ h2.2 h4,hk _ _ h3.2 h5,h6,h7⟩
 | .use x,fs,h=>h
theorem WI.keep {C:Cs} {w:Wo} {t:Sw} {H H':Hp} (h:WI C w t H) (hk:∀ b o,t.U b→H b=some o→H' b=some o):WI C w t H':=by
 refine ⟨fun p sh hr=>?_,fun b hb=>?_,h.ow,h.inj⟩
 ·obtain ⟨dx,c,fs,h1,h2,h3,h4,h5,h6,h7,h8⟩:=h.at_ p sh hr
  exact ⟨dx,c,fs,h1,h2,h3,h4,hk _ _ h1.2 h5,h6,hk _ _ (h.ow _ _ h6) h7,h8.keep h.ow hk⟩
 ·have:=h.al b hb
  cases e:H b with
  | none=>exact absurd e this
  | some o=>rw [hk b o hb e];intro z;cases z
theorem WI.same {C:Cs} {w:Wo} {t:Sw} {H H':Hp} (h:WI C w t H) (s:Yl H H'):WI C w t H':=h.keep fun b o _ e=>s _ _ e
theorem WI.new {C:Cs} {w:Wo} {t:Sw} {H:Hp} (h:WI C w t H) {a:Addr} (ha:H a=none):w.D a=none∧¬ t.U a:=by
 have n:¬ t.U a:=fun z=>h.al a z ha
 refine ⟨?_,n⟩
 cases e:w.D a with
 | none=>rfl
 | some x=>exact absurd (h.ow a x e) n
theorem WI.loc {C:Cs} {w:Wo} {t:Sw} {H:Hp} (h:WI C w t H) {a:Addr} (ha:¬ t.U a) (o:HO):WI C w t (upd H a o):=h.keep fun b u hb e=>by rw [Yb fun z=>ha (by rw [← z];exact hb)];exact e
def Sw.setn (t:Sw) (p:Addr) (n:Nat):Sw:={ t with ns:=fun q=>if q=p then n else t.ns q }
def Sw.setm (t:Sw) (p:Addr) (i n:Nat):Sw:={ t with ms:=fun q j=>if q=p∧i≤j then n else t.ms q j }
theorem Sub.setn {C:Cs} {w:Wo} {t:Sw} {H:Hp} {p q c:Addr} {n:Nat} {o:HO} (hc:w.D c=some (q,0)):∀ {sh:Sh} {fs:List (Str×V)},(p=q→∀ ps,sh = .row ps→∀ i,n≤t.ms p i)→Sub C w t H p sh fs→Sub C w (t.setn q n) (upd H c o) p sh fs
 | .w lo span,fs,_,h=>h
 | .row ps,fs,hful,h=>by
  obtain ⟨P,T,dt,L,as,ws,h1,h2,h3,h4,h5,h6,h7,h8,h9,h10,h11,h12⟩:=h
  have ne:∀ {b:Addr},w.D b=none→b≠c:=fun e z=>by rw [z,hc] at e;cases e
  refine ⟨P,T,dt,L,as,ws,h1,h2,h3,h4,(Yb (ne h2.1)).trans h5,h6,h7,(Yb (ne h3.1)).trans h8,(Yb (ne h4.1)).trans h9,h10,fun i x hx=>⟨(h11 i x hx).1,?_,(h11 i x hx).2.2.1,?_⟩,h12⟩
  ·show (if p=q then n else t.ns p)≤t.ms p i
   by_cases e:p=q
   ·rw [if_pos e];exact hful e ps rfl i
   ·rw [if_neg e];exact (h11 i x hx).2.1
  ·rw [Yb fun z=>by have:=(h11 i x hx).1;rw [z,hc] at this;injection this with this;injection this with _ this;omega]
   exact (h11 i x hx).2.2.2
 | .pick mk ps,fs,_,h=>by
  obtain ⟨M,P,as,h1,h2,h3,h4,h5,h6,h7⟩:=h
  have ne:∀ {b:Addr},w.D b=none→b≠c:=fun e z=>by rw [z,hc] at e;cases e
  exact ⟨M,P,as,h1,h2,h3,(Yb (ne h2.1)).trans h4,(Yb (ne h3.1)).trans h5,h6,h7⟩
 | .use x,fs,_,h=>h
theorem WI.count {C:Cs} {w:Wo} {t:Sw} {H:Hp} (h:WI C w t H) {p c:Addr} {sh:Sh} (hr:w.reg p=some sh) (hc:w.D c=some (p,0)) (hn:t.ns p<60) (hful:∀ ps,sh = .row ps→∀ i,t.ns p+1≤t.ms p i):WI C w (t.setn p (t.ns p+1)) (upd H c (.lst (Yt (cnt w.bk sh) (t.ns p+1)))):=by
 refine ⟨fun q sh' hr'=>?_,fun b hb=>?_,h.ow,h.inj⟩
 ·obtain ⟨dx,c',fs,h1,h2,h3,h4,h5,h6,h7,h8⟩:=h.at_ q sh' hr'
  have n1:q≠c:=fun z=>by have:=h1.1;rw [z,hc] at this;cases this
  refine ⟨dx,c',fs,h1,h2,h3,?_,(Yb n1).trans h5,h6,?_,h8.setn hc fun e ps e2=>?_⟩
  ·show (if q=p then _ else t.ns q)≤60
   split<;>omega
  ·show _=some (HO.lst (Yt _ (if q=p then _ else t.ns q)))
   by_cases e:q=p
   ·subst e
    rw [hr] at hr'
    have:=Option.some.inj hr'
    subst this
    rw [if_pos rfl]
    rw [h.inj _ _ _ h6 hc,Yc]
   ·rw [if_neg e,Yb fun z=>e (by rw [z,hc] at h6;injection h6 with h6;injection h6 with h6 _;exact h6.symm)]
    exact h7
  ·subst e
   rw [hr] at hr'
   exact hful ps ((Option.some.inj hr').trans e2)
 ·by_cases e:b=c
  ·rw [e,Yc];intro z;cases z
  ·rw [Yb e];exact h.al b hb
theorem Sub.setm {C:Cs} {w:Wo} {t:Sw} {H:Hp} (inj:∀ b b' x,w.D b=some x→w.D b'=some x→b=b') {p q y:Addr} {i:Nat} {qs:List Sh} {f:Nat→Int} (hq:w.reg q=some (.row qs)) (hc:w.D y=some (q,i+1)) (hf:f=YI w.bk (qs.drop i)) (hm:t.ms q i<60) (hj:∀ j,i<j→j≤qs.length→t.ms q j=t.ms q i+1):∀ {sh:Sh} {fs:List (Str×V)},w.reg p=some sh→Sub C w t H p sh fs→Sub C w (t.setm q i (t.ms q i+1)) (upd H y (.lst (Yt f (t.ms q i+1)))) p sh fs
 | .w lo span,fs,_,h=>h
 | .row ps,fs,hp,h=>by
  obtain ⟨P,T,dt,L,as,ws,h1,h2,h3,h4,h5,h6,h7,h8,h9,h10,h11,h12⟩:=h
  have ne:∀ {b:Addr},w.D b=none→b≠y:=fun e z=>by rw [z,hc] at e;cases e
  refine ⟨P,T,dt,L,as,ws,h1,h2,h3,h4,(Yb (ne h2.1)).trans h5,h6,h7,(Yb (ne h3.1)).trans h8,(Yb (ne h4.1)).trans h9,h10,fun j x hx=>⟨(h11 j x hx).1,?_,?_,?_⟩,h12⟩
  ·show t.ns p≤(if p=q∧i≤j then _ else t.ms p j)
   have:=(h11 j x hx).2.1
   split
   ·rename_i e
    obtain ⟨rfl,hij⟩:=e
    rw [hq] at hp
    have:=Sh.row.inj (Option.some.inj hp)
    subst this
    have hl:=(List.getElem?_eq_some_iff.mp hx).1
    by_cases e2:j=i
    ·subst e2;omega
    ·rw [← hj j (by omega) (by omega)];exact (h11 j x hx).2.1
   ·exact this
  ·show (if p=q∧i≤j then _ else t.ms p j)≤60
   have:=(h11 j x hx).2.2.1
   split<;>omega
  ·show _=some (HO.lst (Yt _ (if p=q∧i≤j then _ else t.ms p j)))
   by_cases e:p=q∧i≤j
   ·obtain ⟨rfl,hij⟩:=e
    rw [hq] at hp
    have:=Sh.row.inj (Option.some.inj hp)
    subst this
    rw [if_pos ⟨rfl,hij⟩]
    by_cases e2:j=i
    ·subst e2
     rw [inj _ _ _ (h11 j x hx).1 hc,Yc,hf]
    ·have hl:=(List.getElem?_eq_some_iff.mp hx).1
     rw [Yb fun z=>e2 ?_,← hj j (by omega) (by omega)]
     ·exact (h11 j x hx).2.2.2
     ·have:=(h11 j x hx).1
      rw [z,hc] at this
      injection this with this
      injection this with t1 t2
      omega
   ·rw [if_neg e,Yb fun z=>e ?_]
    ·exact (h11 j x hx).2.2.2
    ·have:=(h11 j x hx).1
     rw [z,hc] at this
     injection this with this
     injection this with t1 t2
     exact ⟨t1.symm,by omega⟩
 | .pick mk ps,fs,_,h=>by
  obtain ⟨M,P,as,h1,h2,h3,h4,h5,h6,h7⟩:=h
  have ne:∀ {b:Addr},w.D b=none→b≠y:=fun e z=>by rw [z,hc] at e;cases e
  exact ⟨M,P,as,h1,h2,h3,(Yb (ne h2.1)).trans h4,(Yb (ne h3.1)).trans h5,h6,h7⟩
 | .use x,fs,_,h=>h
theorem WI.way {C:Cs} {w:Wo} {t:Sw} {H:Hp} (h:WI C w t H) {q y:Addr} {i:Nat} {qs:List Sh} (hq:w.reg q=some (.row qs)) (hc:w.D y=some (q,i+1)) (hm:t.ms q i<60) (hj:∀ j,i<j→j≤qs.length→t.ms q j=t.ms q i+1):WI C w (t.setm q i (t.ms q i+1)) (upd H y (.lst (Yt (YI w.bk (qs.drop i)) (t.ms q i+1)))):=by
 refine ⟨fun p sh hp=>?_,fun b hb=>?_,h.ow,h.inj⟩
 ·obtain ⟨dx,c,fs,h1,h2,h3,h4,h5,h6,h7,h8⟩:=h.at_ p sh hp
  have n1:p≠y:=fun z=>by have:=h1.1;rw [z,hc] at this;cases this
  have n2:c≠y:=fun z=>by rw [z,hc] at h6;injection h6 with h6;injection h6 with _ h6;omega
  exact ⟨dx,c,fs,h1,h2,h3,h4,(Yb n1).trans h5,h6,(Yb n2).trans h7,h8.setm h.inj hq hc rfl hm hj hp⟩
 ·by_cases e:b=y
  ·rw [e,Yc];intro z;cases z
  ·rw [Yb e];exact h.al b hb
def bnd (s d:Nat) (sh:Sh):Nat:=if dep sh<d then s+1 else s
def Uni (t:Sw) (p:Addr):Prop:=∀ i,t.ms p i=t.ms p 0
structure Gr1 (t t':Sw) (p:Addr) (b:Nat):Prop where
 up:t.ns p≤t'.ns p
 le:t'.ns p≤max (t.ns p) b
 no:b≤t.ns p→t'.ms p=t.ms p
 un:Uni t p→Uni t' p
theorem Gr1.refl (t:Sw) (p:Addr) (b:Nat):Gr1 t t p b:=⟨Nat.le_refl _,Nat.le_max_left _ _,fun _=>rfl,fun h=>h⟩
theorem Gr1.trans {t t1 t2:Sw} {p:Addr} {b:Nat} (a:Gr1 t t1 p b) (c:Gr1 t1 t2 p b):Gr1 t t2 p b:=by
 have h1:=a.up
 have h2:=c.up
 have h3:=a.le
 have h4:=c.le
 exact ⟨by omega,by omega,fun h=>by rw [c.no (by omega),a.no h],fun h=>c.un (a.un h)⟩
theorem Gr1.mono {t t1:Sw} {p:Addr} {b b':Nat} (a:Gr1 t t1 p b) (h:b≤b'):Gr1 t t1 p b':=⟨a.up,by have:=a.le;omega,fun z=>a.no (by omega),a.un⟩
theorem QC {s d s' d':Nat} (h:s'<s∨(s'=s∧d'≤d)) (sh:Sh):bnd s' d' sh≤bnd s d sh:=by
 unfold bnd
 split<;>split<;>omega
def Fr (w:Wo) (H H':Hp):Prop:=∀ b o,w.D b=none→H b=some o→H' b=some o
structure Tr (C:Cs) (w:Wo) (t:Sw) (H:Hp) (t':Sw) (H':Hp) (s d:Nat):Prop where
 wi:WI C w t' H'
 fr:Fr w H H'
 gr:∀ p sh,w.reg p=some sh→Gr1 t t' p (bnd s d sh)
 u1:∀ b,t.U b→t'.U b
 u2:∀ b,t'.U b→t.U b∨H b=none
def Xa (w:Wo) (t:Sw) (s d:Nat):Prop:=∀ p sh,w.reg p=some sh→t.ns p<bnd s d sh→Uni t p
theorem Xa.mono {w:Wo} {t:Sw} {s d s' d':Nat} (h:Xa w t s d) (c:s'<s∨(s'=s∧d'≤d)):Xa w t s' d':=fun p sh hr hn=>h p sh hr (Nat.lt_of_lt_of_le hn (QC c sh))
theorem Tr.refl {C:Cs} {w:Wo} {t:Sw} {H:Hp} (h:WI C w t H) (s d:Nat):Tr C w t H t H s d:=⟨h,fun _ _ _ e=>e,fun p sh _ => .refl _ _ _,fun _ h=>h,fun _ h => .inl h⟩
theorem Tr.alloc {C:Cs} {w:Wo} {t t':Sw} {H H':Hp} {s d:Nat} (T:Tr C w t H t' H' s d) {b:Addr} {o:HO} (h:H b=some o):H' b≠none:=by
 cases e:w.D b with
 | none=>rw [T.fr b o e h];intro z;cases z
 | some x=>exact T.wi.al b (T.wi.ow b x e)
theorem Tr.trans {C:Cs} {w:Wo} {t t1 t2:Sw} {H H1 H2:Hp} {s d:Nat} (a:Tr C w t H t1 H1 s d) (b:Tr C w t1 H1 t2 H2 s d):Tr C w t H t2 H2 s d :=
 ⟨b.wi,fun c o e h=>b.fr c o e (a.fr c o e h),fun p sh hr=>(a.gr p sh hr).trans (b.gr p sh hr),fun c h=>b.u1 c (a.u1 c h),fun c h=>by
  rcases b.u2 c h with h | h
  ·exact a.u2 c h
  ·cases e:H c with
   | none=>exact .inr rfl
   | some o=>exact absurd h (a.alloc e)⟩
theorem Tr.mono {C:Cs} {w:Wo} {t t1:Sw} {H H1:Hp} {s d s' d':Nat} (a:Tr C w t H t1 H1 s' d') (c:s'<s∨(s'=s∧d'≤d)):Tr C w t H t1 H1 s d:=⟨a.wi,a.fr,fun p sh hr=>(a.gr p sh hr).mono (QC c sh),a.u1,a.u2⟩
theorem Tr.same {C:Cs} {w:Wo} {t t1:Sw} {H H1 H2:Hp} {s d:Nat} (a:Tr C w t H t1 H1 s d) (b:Yl H1 H2):Tr C w t H t1 H2 s d:=⟨a.wi.same b,fun c o e h=>b _ _ (a.fr c o e h),a.gr,a.u1,a.u2⟩
theorem Tr.put {C:Cs} {w:Wo} {t t1:Sw} {H H1:Hp} {s d:Nat} (a:Tr C w t H t1 H1 s d) {x:Addr} (h:H x=none) (n:¬ t1.U x) (o:HO):Tr C w t H t1 (upd H1 x o) s d:=⟨a.wi.loc n o,fun c u e z=>by rw [Yb (Yh z h)];exact a.fr c u e z,a.gr,a.u1,a.u2⟩
theorem Tr.ready {C:Cs} {w:Wo} {t t1:Sw} {H H1:Hp} {s d s' d':Nat} (a:Tr C w t H t1 H1 s' d') (r:Xa w t s d):Xa w t1 s d:=fun p sh hr hn=>(a.gr p sh hr).un (r p sh hr (Nat.lt_of_le_of_lt (a.gr p sh hr).up hn))
theorem Tr.ours {C:Cs} {w:Wo} {t t1:Sw} {H H1:Hp} {s d:Nat} (a:Tr C w t H t1 H1 s d) {x:Addr} {o:HO} (n:¬ t.U x) (h:H x=some o):¬ t1.U x:=fun z=>by
 rcases a.u2 x z with z | z
 ·exact n z
 ·rw [h] at z;cases z
structure TrB (C:Cs) (w:Wo) (t:Sw) (H:Hp) (t':Sw) (H':Hp) (s d:Nat) (p:Addr):Prop where
 wi:WI C w t' H'
 fr:Fr w H H'
 gr:∀ q sh,w.reg q=some sh→q≠p→Gr1 t t' q (bnd s d sh)
 own:t'.ns p=t.ns p
 u1:∀ b,t.U b→t'.U b
 u2:∀ b,t'.U b→t.U b∨H b=none
theorem Tr.b {C:Cs} {w:Wo} {t t':Sw} {H H':Hp} {s d:Nat} {p:Addr} (T:Tr C w t H t' H' s d) (h:t'.ns p=t.ns p):TrB C w t H t' H' s d p:=⟨T.wi,T.fr,fun q sh hq _=>T.gr q sh hq,h,T.u1,T.u2⟩
theorem TrB.trans {C:Cs} {w:Wo} {t t1 t2:Sw} {H H1 H2:Hp} {s d:Nat} {p:Addr} (a:TrB C w t H t1 H1 s d p) (b:TrB C w t1 H1 t2 H2 s d p):TrB C w t H t2 H2 s d p :=
 ⟨b.wi,fun c o e h=>b.fr c o e (a.fr c o e h),fun q sh hr n=>(a.gr q sh hr n).trans (b.gr q sh hr n),b.own.trans a.own,fun c h=>b.u1 c (a.u1 c h),fun c h=>by
  rcases b.u2 c h with h | h
  ·exact a.u2 c h
  ·cases e:H c with
   | none=>exact .inr rfl
   | some o =>
    exfalso
    cases e2:w.D c with
    | none=>rw [a.fr c o e2 e] at h;cases h
    | some x=>exact a.wi.al c (a.wi.ow c x e2) h⟩
theorem TrB.same {C:Cs} {w:Wo} {t t1:Sw} {H H1 H2:Hp} {s d:Nat} {p:Addr} (a:TrB C w t H t1 H1 s d p) (b:Yl H1 H2):TrB C w t H t1 H2 s d p:=⟨a.wi.same b,fun c o e h=>b _ _ (a.fr c o e h),a.gr,a.own,a.u1,a.u2⟩
theorem TrB.ready {C:Cs} {w:Wo} {t t1:Sw} {H H1:Hp} {s d s' d':Nat} {p:Addr} {sh:Sh} (a:TrB C w t H t1 H1 s' d' p) (hg:w.reg p=some sh) (hb:bnd s d sh≤t.ns p) (r:Xa w t s d):Xa w t1 s d:=fun q sh' hr hn=>by
 by_cases e:q=p
 ·subst e
  rw [hg] at hr
  have:=Option.some.inj hr
  subst this
  have:=a.own
  omega
 ·exact (a.gr q sh' hr e).un (r q sh' hr (Nat.lt_of_le_of_lt (a.gr q sh' hr e).up hn))
theorem TrB.way {C:Cs} {w:Wo} {t t1:Sw} {H H1:Hp} {s d i:Nat} {p y:Addr} {ps:List Sh} (a:TrB C w t H t1 H1 s d p) (hg:w.reg p=some (.row ps)) (hc:w.D y=some (p,i+1)) (hi:t1.ms p i=s) (hs:s<60) (hj:∀ j,i<j→j≤ps.length→t1.ms p j=s+1):TrB C w t H (t1.setm p i (s+1)) (upd H1 y (.lst (Yt (YI w.bk (ps.drop i)) (s+1)))) s d p:=by
 have W:=a.wi.way hg hc (by omega) (fun j h1 h2=>by rw [hi];exact hj j h1 h2)
 rw [hi] at W
 refine ⟨W,fun b o e h=>?_,fun q sh hq n=>?_,a.own,a.u1,a.u2⟩
 ·rw [Yb fun z=>by rw [z,hc] at e;cases e]
  exact a.fr b o e h
 ·have g:=a.gr q sh hq n
  have e:(t1.setm p i (s+1)).ms q=t1.ms q:=by
   funext j
   exact if_neg fun z=>n z.1
  exact ⟨g.up,g.le,fun h=>by rw [e];exact g.no h,fun h j=>by rw [e];exact g.un h j⟩
theorem TrB.to {C:Cs} {w:Wo} {t t1:Sw} {H H1:Hp} {s d:Nat} {p:Addr} {sh:Sh} (a:TrB C w t H t1 H1 s d p) (hg:w.reg p=some sh) (hd:dep sh<d) (hn:t.ns p≤s) (hu:Uni t1 p):Tr C w t H t1 H1 s d:=by
 refine ⟨a.wi,a.fr,fun q sh' hq=>?_,a.u1,a.u2⟩
 by_cases e:q=p
 ·subst e
  rw [hg] at hq
  have:=Option.some.inj hq
  subst this
  have eb:bnd s d sh=s+1:=if_pos hd
  rw [eb]
  have:=a.own
  exact ⟨by omega,by omega,fun z=>by omega,fun _=>hu⟩
 ·exact a.gr q sh' hq e
def kind:Sh→Nat
 | .w _ _=>0
 | .row _=>2
 | .pick _ _=>3
 | .use _=>5
def isF (m:Str):Bool:=(m==("counts":Str))||(m==("low":Str))||(m==("span":Str))||(m==("signs":Str))||(m==("parts":Str))||(m==("table":Str))||(m==("ways":Str))||(m==("marks":Str))||(m==("part":Str))||(m==("named":Str))
theorem YbR {m:Str} (h:isF m=false):(m==("counts":Str))=false∧(m==("low":Str))=false∧(m==("span":Str))=false∧(m==("signs":Str))=false∧(m==("parts":Str))=false∧(m==("table":Str))=false∧(m==("ways":Str))=false∧(m==("marks":Str))=false∧(m==("part":Str))=false∧(m==("named":Str))=false:=by
 unfold isF at h
 simp only [Bool.or_eq_false_iff] at h
 obtain ⟨⟨⟨⟨⟨⟨⟨⟨⟨a,b⟩,c⟩,d⟩,e⟩,f⟩,g⟩,i⟩,j⟩,k⟩:=h
 exact ⟨a,b,c,d,e,f,g,i,j,k⟩
theorem Yu (c:Addr) (fs:List (Str×V)):(mf c fs).lookup ("counts":Str)=some (.ref c):=rfl
theorem WL {C:Cs} {w:Wo} {t:Sw} {H:Hp} {p c:Addr} {m:Str} (hm:isF m=false):∀ {sh:Sh} {fs:List (Str×V)},Sub C w t H p sh fs→(mf c fs).lookup m=none:=by
 obtain ⟨a1,a2,a3,a4,a5,a6,a7,a8,a9,a10⟩:=YbR hm
 intro sh fs h
 unfold mf
 rw [List.lookup_cons,a1]
 cases sh with
 | w lo span =>
  have h:fs=_:=h
  subst h
  unfold fW
  rw [List.lookup_cons,a2,List.lookup_cons,a3];rfl
 | row ps =>
  obtain ⟨P,T,dt,L,as,ws,rfl,_⟩:=h
  unfold fR
  rw [List.lookup_cons,a5,List.lookup_cons,a6];rfl
 | pick mk ps =>
  obtain ⟨M,P,as,rfl,_⟩:=h
  unfold fP
  rw [List.lookup_cons,a8,List.lookup_cons,a5];rfl
 | use x =>
  obtain ⟨a,rfl,_⟩:=h
  unfold fU
  rw [List.lookup_cons,a10];rfl
def fu (w:Wo) (s d:Nat):Nat:=5*(s*(w.M+1)+d)
theorem UD {w:Wo} {s d s' d':Nat} (hd:d'≤w.M) (h:s'<s∨(s'=s∧d'<d)):fu w s' d'+5≤fu w s d:=by
 unfold fu
 rcases h with h | ⟨rfl,h⟩
 ·have:=Nat.mul_le_mul_right (w.M+1) (show s'+1≤s from h)
  rw [Nat.add_mul] at this
  omega
 ·omega
def Zr (C:Cs) (k l:Nat):Sp:=fun vs H Q _=>∃ (w:Wo) (t:Sw) (p:Addr) (sh:Sh) (s:Nat),vs=[.ref p,.int s]∧kind sh=k∧WI C w t H∧w.reg p=some sh∧1≤l∧s≤40∧(s<t.ns p→Q (.int (cnt w.bk sh s)) H) ∧
 (t.ns p≤s→fu w s (dep sh)+5≤l∧Xa w t s (dep sh+1)∧∀ t' H',Tr C w t H t' H' s (dep sh+1)→t'.ns p=s+1→Q (.int (cnt w.bk sh s)) H')
def Xl (C:Cs) (k l:Nat):Sp:=fun vs H Q _=>∃ (w:Wo) (t:Sw) (p:Addr) (sh:Sh) (s:Nat),vs=[.ref p,.int s]∧kind sh=k∧WI C w t H∧w.reg p=some sh∧t.ns p=s∧s≤40∧fu w s (dep sh)+4≤l∧Xa w t s (dep sh+1) ∧
 ∀ t' H',Tr C w t H t' H' s (dep sh+1)→t'.ns p=s→(∀ ps,sh = .row ps→∀ i,s+1≤t'.ms p i)→Q (.int (cnt w.bk sh s)) H'
theorem ZR {C:Cs} {k:Nat} {vs:List V} {H:Hp} {Q:VK} {E:XK} (h:Zr C k 0 vs H Q E):False:=by
 obtain ⟨w,t,p,sh,s,_,_,_,_,h,_⟩:=h
 omega
theorem VO {C:Cs} {k:Nat} {vs:List V} {H:Hp} {Q:VK} {E:XK} (h:Xl C k 0 vs H Q E):False:=by
 obtain ⟨w,t,p,sh,s,_,_,_,_,_,_,h,_⟩:=h
 omega
theorem Tr.own {C:Cs} {w:Wo} {t t':Sw} {H H':Hp} {s d:Nat} (T:Tr C w t H t' H' s d) {p:Addr} {sh:Sh} (hr:w.reg p=some sh) (hd:d≤dep sh) (hs:s≤t.ns p):t'.ns p=t.ns p∧t'.ms p=t.ms p:=by
 have g:=T.gr p sh hr
 have e:bnd s d sh=s:=if_neg (by omega)
 rw [e] at g
 have h1:=g.up
 have h2:=g.le
 exact ⟨by omega,g.no hs⟩
theorem Tr.count {C:Cs} {w:Wo} {t t':Sw} {H H':Hp} {s j:Nat} {sh:Sh} {p c:Addr} (T:Tr C w t H t' H' s (dep sh+1)) (hr:w.reg p=some sh) (hc:w.D c=some (p,0)) (hj:t'.ns p=j) (hjs:j≤s) (hs:s≤40) (hful:∀ ps,sh = .row ps→∀ i,j+1≤t'.ms p i):Tr C w t H (t'.setn p (j+1)) (upd H' c (.lst (Yt (cnt w.bk sh) (j+1)))) s (dep sh+1):=by
 subst hj
 refine ⟨T.wi.count hr hc (by omega) hful,fun b o e h=>?_,fun q sh' hq=>?_,T.u1,T.u2⟩
 ·rw [Yb fun z=>by rw [z,hc] at e;cases e]
  exact T.fr b o e h
 ·have g:=T.gr q sh' hq
  by_cases e:q=p
  ·subst e
   rw [hr] at hq
   have:=Option.some.inj hq
   subst this
   have eb:bnd s (dep sh+1) sh=s+1:=if_pos (by omega)
   rw [eb] at g ⊢
   have h1:=g.up
   have en:(t'.setn q (t'.ns q+1)).ns q=t'.ns q+1:=if_pos rfl
   exact ⟨by rw [en];omega,by rw [en];omega,fun h=>by omega,g.un⟩
  ·have en:(t'.setn p (t'.ns p+1)).ns q=t'.ns q:=if_neg e
   exact ⟨by rw [en];exact g.up,by rw [en];exact g.le,g.no,g.un⟩
variable {m:Nat}
theorem Uo {w:Wo} {s d s':Nat} (h:s'≤s):fu w s' d≤fu w s d:=by
 unfold fu
 have:=Nat.mul_le_mul_right (w.M+1) h
 omega
theorem Z0C {k:Nat} {Z5 Z1 Z2 Z4 Z3 Z0:Addr} (R:g.RawM Z0 "count_at" "Maker.count_at" Z01 ["self","size"]) (Z1M:g.Me k Z0 "reckoned" ["self","size"] (Xl (Cs.mk Z0 Z2 Z4 Z1 Z3) 0 m)) (b_len:g.mg "len"=none) (Za:Cls g.K Z0) (Z6:Ye g.K Z0 "counts") (Zj:Ye g.K Z0 "low") (Ze:Ye g.K Z0 "span"):g.Me (k+1) Z0 "count_at" ["self","size"] (Zr (Cs.mk Z0 Z2 Z4 Z1 Z3) 0 (m+1)):=by
 refine R.me Z1B (fun vs H Q E h=>by obtain ⟨w,t,p,sh,sz,rfl,hk,W,hg,hl,hs,q1,q2⟩:=h;rfl) fun f_ cdv A outer s H vs Q E hr h=>?_
 obtain ⟨w,t,p,sh,sz,rfl,hk,W,hg,hl,hs,q1,q2⟩:=h
 refine ⟨_,(@Yg _ _ _ _ _ (@WA _ _ _ _ _ _ PassesOwn.never (@Yz _ _ _ _ _ _ _ _ V3 (@YX _ _ _ _ _ _ _ _ _ _ b_len YA (@Ya _ _ _ _ _ (@Yw _ _ _ _ _ (pv 0) rfl) Yd (by rfl)) (by decide +kernel) (by rfl) (by rfl) (by decide) (by decide) (by rfl) (by rfl)) (pv 1) (YD _)) (@Yi _ _ _ (@YZ _ _ _ _ (@X0 _ _ _ _ _ _ _ _ _ _ _ _ PySem.F.plainAttrs_list PySem.F.slot_list_append PySem.F.type_list_append Y0 (@Yw _ _ _ _ _ (pv 0) rfl) (@Ya _ _ _ _ _ (@YC _ _ _ _ _ _ _ _ _ _ _ _ _ _ _ _ Z1M Za hr (pv 0) (@Ya _ _ _ _ _ (@YX _ _ _ _ _ _ _ _ _ _ b_len YA (@Ya _ _ _ _ _ (@Yw _ _ _ _ _ (pv 0) rfl) Yd (by rfl)) (by decide +kernel) (by rfl) (by rfl) (by decide) (by decide) (by rfl) (by rfl)) Yd (by rfl)) (by omega) (by rfl) (by rfl) (by rfl) (by rfl)) Yd (by rfl)) (by rfl) (by rfl) (by rfl) (by rfl) (by rfl)) (by rfl)))) (@Yi _ _ _ (@Yo _ _ _ _ (@Yx _ _ _ _ _ _ _ YM (@Yw _ _ _ _ _ (pv 0) rfl) (pv 1) (fun _ _=>rfl))))),?_⟩
 walk_at "rd"
 have hC:VY (Cs.mk Z0 Z2 Z4 Z1 Z3) sh=Z0:=by cases sh<;>first | rfl | (simp [kind] at hk)
 by_cases cs:sz<t.ns p
 ·obtain ⟨dx,c,fs,hU,hd,hsm,hns,hp,hDc,hc,hsub⟩:=W.at_ p sh hg
  rw [hC] at hp
  refine Xw (α:=Unit) (fun x σ H'=>σ=[some (.ref p),some (.int sz)]∧H=H') (fun x=>false) (fun x=>0) () ⟨rfl,rfl⟩ ?_ ?_ ?_
  ·rintro x σ H' ⟨rfl,rfl⟩ R r
   walk_at "rd"
   refine ⟨_,_,_,hp,Za,Z6,_,Yu _ _,_,rfl,_,.inl (SqL.of hc),?_⟩
   rw [Ys,dle,decide_eq_false (by omega)]
   exact r H ⟨rfl,rfl⟩
  ·rintro x σ H' ⟨rfl,rfl⟩ hd
   cases hd
  ·rintro x σ H' ⟨rfl,rfl⟩ hd
   walk_at "rd"
   exact ⟨_,_,_,hp,Za,Z6,_,Yu _ _,_,rfl,_,SqL.of hc,_,Xk _ cs,q1 cs⟩
 ·obtain ⟨hfu,hRd,q⟩:=q2 (by omega)
  refine Xw (α:=Sw) (fun x σ H'=>σ=[some (.ref p),some (.int sz)]∧Tr (Cs.mk Z0 Z2 Z4 Z1 Z3) w t H x H' sz (dep sh+1)∧x.ns p≤sz+1) (fun x=>decide (x.ns p≤sz)) (fun x=>sz+1 - x.ns p) t ⟨rfl,.refl W _ _,by omega⟩ ?_ ?_ ?_
  ·rintro x σ H' ⟨rfl,T,hx⟩ R r
   obtain ⟨dx,c,fs,hU,hd,hsm,hns,hp,hDc,hc,hsub⟩:=T.wi.at_ p sh hg
   rw [hC] at hp
   walk_at "rd"
   refine ⟨_,_,_,hp,Za,Z6,_,Yu _ _,_,rfl,_,.inl (SqL.of hc),?_⟩
   rw [Ys,dle]
   exact r H' ⟨rfl,T,hx⟩
  ·rintro x σ H' ⟨rfl,T,hx⟩ hd
   have hd:x.ns p≤sz:=of_decide_eq_true hd
   obtain ⟨dx,c,fs,hU,hd',hsm,hns,hp,hDc,hc,hsub⟩:=T.wi.at_ p sh hg
   rw [hC] at hp
   walk_at "rd"
   refine ⟨_,_,_,hp,Za,Z6,_,Yu _ _,.inl ⟨rfl,_,SqL.of hc⟩,_,_,hp,WL (by decide +kernel) hsub,_,_,_,hp,Za,Z6,_,Yu _ _,_,rfl,_,.inl (SqL.of hc),?_⟩
   rw [Ys]
   have hfl:=Uo (w:=w) (d:=dep sh) hd
   have hrd:Xa w x (x.ns p) (dep sh+1):=(T.ready hRd).mono (by omega)
   refine ⟨w,x,p,sh,x.ns p,rfl,hk,T.wi,hg,rfl,by omega,by omega,hrd,fun t2 H2 T2 e2 hful=>?_⟩
   have T3:=T.trans (T2.mono (by omega))
   obtain ⟨dx2,c2,fs2,hU2,hd2,hsm2,hns2,hp2,hDc2,hc2,hsub2⟩:=T2.wi.at_ p sh hg
   have ec:=T2.wi.inj _ _ _ hDc2 hDc
   subst ec
   rw [e2] at hc2
   have T4:=T3.count hg hDc2 e2 hd hs hful
   refine ⟨_,rfl,_,hc2,by rw [Ys];exact few (by omega),t2.setn p (x.ns p+1),?_,?_,?_⟩
   ·rw [← Y2];exact T4
   ·show (if p=p then _ else _)≤_
    rw [if_pos rfl];omega
   ·show sz+1 - (if p=p then _ else _)<_
    rw [if_pos rfl];omega
  ·rintro x σ H' ⟨rfl,T,hx⟩ hd
   have hd:¬ x.ns p≤sz:=of_decide_eq_false hd
   obtain ⟨dx,c,fs,hU,hd',hsm,hns,hp,hDc,hc,hsub⟩:=T.wi.at_ p sh hg
   rw [hC] at hp
   walk_at "rd"
   exact ⟨_,_,_,hp,Za,Z6,_,Yu _ _,_,rfl,_,SqL.of hc,_,Xk _ (by omega),q x H' T (by omega)⟩
theorem Z0S {k:Nat} {Z5 Z1 Z2 Z4 Z3 Z0:Addr} (R:g.RawM Z2 "count_at" "Maker.count_at" Z0k ["self","size"]) (Z2k:g.Me k Z2 "reckoned" ["self","size"] (Xl (Cs.mk Z0 Z2 Z4 Z1 Z3) 2 m)) (b_len:g.mg "len"=none) (Zh:Cls g.K Z2) (Z8:Ye g.K Z2 "counts") (Zk:Ye g.K Z2 "parts") (Zi:Ye g.K Z2 "table"):g.Me (k+1) Z2 "count_at" ["self","size"] (Zr (Cs.mk Z0 Z2 Z4 Z1 Z3) 2 (m+1)):=by
 refine R.me Z22 (fun vs H Q E h=>by obtain ⟨w,t,p,sh,sz,rfl,hk,W,hg,hl,hs,q1,q2⟩:=h;rfl) fun f_ cdv A outer s H vs Q E hr h=>?_
 obtain ⟨w,t,p,sh,sz,rfl,hk,W,hg,hl,hs,q1,q2⟩:=h
 refine ⟨_,(@Yg _ _ _ _ _ (@WA _ _ _ _ _ _ PassesOwn.never (@Yz _ _ _ _ _ _ _ _ V3 (@YX _ _ _ _ _ _ _ _ _ _ b_len YA (@Ya _ _ _ _ _ (@Yw _ _ _ _ _ (pv 0) rfl) Yd (by rfl)) (by decide +kernel) (by rfl) (by rfl) (by decide) (by decide) (by rfl) (by rfl)) (pv 1) (YD _)) (@Yi _ _ _ (@YZ _ _ _ _ (@X0 _ _ _ _ _ _ _ _ _ _ _ _ PySem.F.plainAttrs_list PySem.F.slot_list_append PySem.F.type_list_append Y0 (@Yw _ _ _ _ _ (pv 0) rfl) (@Ya _ _ _ _ _ (@YC _ _ _ _ _ _ _ _ _ _ _ _ _ _ _ _ Z2k Zh hr (pv 0) (@Ya _ _ _ _ _ (@YX _ _ _ _ _ _ _ _ _ _ b_len YA (@Ya _ _ _ _ _ (@Yw _ _ _ _ _ (pv 0) rfl) Yd (by rfl)) (by decide +kernel) (by rfl) (by rfl) (by decide) (by decide) (by rfl) (by rfl)) Yd (by rfl)) (by omega) (by rfl) (by rfl) (by rfl) (by rfl)) Yd (by rfl)) (by rfl) (by rfl) (by rfl) (by rfl) (by rfl)) (by rfl)))) (@Yi _ _ _ (@Yo _ _ _ _ (@Yx _ _ _ _ _ _ _ YM (@Yw _ _ _ _ _ (pv 0) rfl) (pv 1) (fun _ _=>rfl))))),?_⟩
 walk_at "rd"
 have hC:VY (Cs.mk Z0 Z2 Z4 Z1 Z3) sh=Z2:=by cases sh<;>first | rfl | (simp [kind] at hk)
 by_cases cs:sz<t.ns p
 ·obtain ⟨dx,c,fs,hU,hd,hsm,hns,hp,hDc,hc,hsub⟩:=W.at_ p sh hg
  rw [hC] at hp
  refine Xw (α:=Unit) (fun x σ H'=>σ=[some (.ref p),some (.int sz)]∧H=H') (fun x=>false) (fun x=>0) () ⟨rfl,rfl⟩ ?_ ?_ ?_
  ·rintro x σ H' ⟨rfl,rfl⟩ R r
   walk_at "rd"
   refine ⟨_,_,_,hp,Zh,Z8,_,Yu _ _,_,rfl,_,.inl (SqL.of hc),?_⟩
   rw [Ys,dle,decide_eq_false (by omega)]
   exact r H ⟨rfl,rfl⟩
  ·rintro x σ H' ⟨rfl,rfl⟩ hd
   cases hd
  ·rintro x σ H' ⟨rfl,rfl⟩ hd
   walk_at "rd"
   exact ⟨_,_,_,hp,Zh,Z8,_,Yu _ _,_,rfl,_,SqL.of hc,_,Xk _ cs,q1 cs⟩
 ·obtain ⟨hfu,hRd,q⟩:=q2 (by omega)
  refine Xw (α:=Sw) (fun x σ H'=>σ=[some (.ref p),some (.int sz)]∧Tr (Cs.mk Z0 Z2 Z4 Z1 Z3) w t H x H' sz (dep sh+1)∧x.ns p≤sz+1) (fun x=>decide (x.ns p≤sz)) (fun x=>sz+1 - x.ns p) t ⟨rfl,.refl W _ _,by omega⟩ ?_ ?_ ?_
  ·rintro x σ H' ⟨rfl,T,hx⟩ R r
   obtain ⟨dx,c,fs,hU,hd,hsm,hns,hp,hDc,hc,hsub⟩:=T.wi.at_ p sh hg
   rw [hC] at hp
   walk_at "rd"
   refine ⟨_,_,_,hp,Zh,Z8,_,Yu _ _,_,rfl,_,.inl (SqL.of hc),?_⟩
   rw [Ys,dle]
   exact r H' ⟨rfl,T,hx⟩
  ·rintro x σ H' ⟨rfl,T,hx⟩ hd
   have hd:x.ns p≤sz:=of_decide_eq_true hd
   obtain ⟨dx,c,fs,hU,hd',hsm,hns,hp,hDc,hc,hsub⟩:=T.wi.at_ p sh hg
   rw [hC] at hp
   walk_at "rd"
   refine ⟨_,_,_,hp,Zh,Z8,_,Yu _ _,.inl ⟨rfl,_,SqL.of hc⟩,_,_,hp,WL (by decide +kernel) hsub,_,_,_,hp,Zh,Z8,_,Yu _ _,_,rfl,_,.inl (SqL.of hc),?_⟩
   rw [Ys]
   have hfl:=Uo (w:=w) (d:=dep sh) hd
   have hrd:Xa w x (x.ns p) (dep sh+1):=(T.ready hRd).mono (by omega)
   refine ⟨w,x,p,sh,x.ns p,rfl,hk,T.wi,hg,rfl,by omega,by omega,hrd,fun t2 H2 T2 e2 hful=>?_⟩
   have T3:=T.trans (T2.mono (by omega))
   obtain ⟨dx2,c2,fs2,hU2,hd2,hsm2,hns2,hp2,hDc2,hc2,hsub2⟩:=T2.wi.at_ p sh hg
   have ec:=T2.wi.inj _ _ _ hDc2 hDc
   subst ec
   rw [e2] at hc2
   have T4:=T3.count hg hDc2 e2 hd hs hful
   refine ⟨_,rfl,_,hc2,by rw [Ys];exact few (by omega),t2.setn p (x.ns p+1),?_,?_,?_⟩
   ·rw [← Y2];exact T4
   ·show (if p=p then _ else _)≤_
    rw [if_pos rfl];omega
   ·show sz+1 - (if p=p then _ else _)<_
    rw [if_pos rfl];omega
  ·rintro x σ H' ⟨rfl,T,hx⟩ hd
   have hd:¬ x.ns p≤sz:=of_decide_eq_false hd
   obtain ⟨dx,c,fs,hU,hd',hsm,hns,hp,hDc,hc,hsub⟩:=T.wi.at_ p sh hg
   rw [hC] at hp
   walk_at "rd"
   exact ⟨_,_,_,hp,Zh,Z8,_,Yu _ _,_,rfl,_,SqL.of hc,_,Xk _ (by omega),q x H' T (by omega)⟩
theorem Z0L {k:Nat} {Z5 Z1 Z2 Z4 Z3 Z0:Addr} (R:g.RawM Z1 "count_at" "Maker.count_at" Z07 ["self","size"]) (Z24:g.Me k Z1 "reckoned" ["self","size"] (Xl (Cs.mk Z0 Z2 Z4 Z1 Z3) 3 m)) (b_len:g.mg "len"=none) (Zc:Cls g.K Z1) (Z7:Ye g.K Z1 "counts") (Zg:Ye g.K Z1 "marks") (Zf:Ye g.K Z1 "parts"):g.Me (k+1) Z1 "count_at" ["self","size"] (Zr (Cs.mk Z0 Z2 Z4 Z1 Z3) 3 (m+1)):=by
 refine R.me Z1L (fun vs H Q E h=>by obtain ⟨w,t,p,sh,sz,rfl,hk,W,hg,hl,hs,q1,q2⟩:=h;rfl) fun f_ cdv A outer s H vs Q E hr h=>?_
 obtain ⟨w,t,p,sh,sz,rfl,hk,W,hg,hl,hs,q1,q2⟩:=h
 refine ⟨_,(@Yg _ _ _ _ _ (@WA _ _ _ _ _ _ PassesOwn.never (@Yz _ _ _ _ _ _ _ _ V3 (@YX _ _ _ _ _ _ _ _ _ _ b_len YA (@Ya _ _ _ _ _ (@Yw _ _ _ _ _ (pv 0) rfl) Yd (by rfl)) (by decide +kernel) (by rfl) (by rfl) (by decide) (by decide) (by rfl) (by rfl)) (pv 1) (YD _)) (@Yi _ _ _ (@YZ _ _ _ _ (@X0 _ _ _ _ _ _ _ _ _ _ _ _ PySem.F.plainAttrs_list PySem.F.slot_list_append PySem.F.type_list_append Y0 (@Yw _ _ _ _ _ (pv 0) rfl) (@Ya _ _ _ _ _ (@YC _ _ _ _ _ _ _ _ _ _ _ _ _ _ _ _ Z24 Zc hr (pv 0) (@Ya _ _ _ _ _ (@YX _ _ _ _ _ _ _ _ _ _ b_len YA (@Ya _ _ _ _ _ (@Yw _ _ _ _ _ (pv 0) rfl) Yd (by rfl)) (by decide +kernel) (by rfl) (by rfl) (by decide) (by decide) (by rfl) (by rfl)) Yd (by rfl)) (by omega) (by rfl) (by rfl) (by rfl) (by rfl)) Yd (by rfl)) (by rfl) (by rfl) (by rfl) (by rfl) (by rfl)) (by rfl)))) (@Yi _ _ _ (@Yo _ _ _ _ (@Yx _ _ _ _ _ _ _ YM (@Yw _ _ _ _ _ (pv 0) rfl) (pv 1) (fun _ _=>rfl))))),?_⟩
 walk_at "rd"
 have hC:VY (Cs.mk Z0 Z2 Z4 Z1 Z3) sh=Z1:=by cases sh<;>first | rfl | (simp [kind] at hk)
 by_cases cs:sz<t.ns p
 ·obtain ⟨dx,c,fs,hU,hd,hsm,hns,hp,hDc,hc,hsub⟩:=W.at_ p sh hg
  rw [hC] at hp
  refine Xw (α:=Unit) (fun x σ H'=>σ=[some (.ref p),some (.int sz)]∧H=H') (fun x=>false) (fun x=>0) () ⟨rfl,rfl⟩ ?_ ?_ ?_
  ·rintro x σ H' ⟨rfl,rfl⟩ R r
   walk_at "rd"
   refine ⟨_,_,_,hp,Zc,Z7,_,Yu _ _,_,rfl,_,.inl (SqL.of hc),?_⟩
   rw [Ys,dle,decide_eq_false (by omega)]
   exact r H ⟨rfl,rfl⟩
  ·rintro x σ H' ⟨rfl,rfl⟩ hd
   cases hd
  ·rintro x σ H' ⟨rfl,rfl⟩ hd
   walk_at "rd"
   exact ⟨_,_,_,hp,Zc,Z7,_,Yu _ _,_,rfl,_,SqL.of hc,_,Xk _ cs,q1 cs⟩
 ·obtain ⟨hfu,hRd,q⟩:=q2 (by omega)
  refine Xw (α:=Sw) (fun x σ H'=>σ=[some (.ref p),some (.int sz)]∧Tr (Cs.mk Z0 Z2 Z4 Z1 Z3) w t H x H' sz (dep sh+1)∧x.ns p≤sz+1) (fun x=>decide (x.ns p≤sz)) (fun x=>sz+1 - x.ns p) t ⟨rfl,.refl W _ _,by omega⟩ ?_ ?_ ?_
  ·rintro x σ H' ⟨rfl,T,hx⟩ R r
   obtain ⟨dx,c,fs,hU,hd,hsm,hns,hp,hDc,hc,hsub⟩:=T.wi.at_ p sh hg
   rw [hC] at hp
   walk_at "rd"
   refine ⟨_,_,_,hp,Zc,Z7,_,Yu _ _,_,rfl,_,.inl (SqL.of hc),?_⟩
   rw [Ys,dle]
   exact r H' ⟨rfl,T,hx⟩
  ·rintro x σ H' ⟨rfl,T,hx⟩ hd
   have hd:x.ns p≤sz:=of_decide_eq_true hd
   obtain ⟨dx,c,fs,hU,hd',hsm,hns,hp,hDc,hc,hsub⟩:=T.wi.at_ p sh hg
   rw [hC] at hp
   walk_at "rd"
   refine ⟨_,_,_,hp,Zc,Z7,_,Yu _ _,.inl ⟨rfl,_,SqL.of hc⟩,_,_,hp,WL (by decide +kernel) hsub,_,_,_,hp,Zc,Z7,_,Yu _ _,_,rfl,_,.inl (SqL.of hc),?_⟩
   rw [Ys]
   have hfl:=Uo (w:=w) (d:=dep sh) hd
   have hrd:Xa w x (x.ns p) (dep sh+1):=(T.ready hRd).mono (by omega)
   refine ⟨w,x,p,sh,x.ns p,rfl,hk,T.wi,hg,rfl,by omega,by omega,hrd,fun t2 H2 T2 e2 hful=>?_⟩
   have T3:=T.trans (T2.mono (by omega))
   obtain ⟨dx2,c2,fs2,hU2,hd2,hsm2,hns2,hp2,hDc2,hc2,hsub2⟩:=T2.wi.at_ p sh hg
   have ec:=T2.wi.inj _ _ _ hDc2 hDc
   subst ec
   rw [e2] at hc2
   have T4:=T3.count hg hDc2 e2 hd hs hful
   refine ⟨_,rfl,_,hc2,by rw [Ys];exact few (by omega),t2.setn p (x.ns p+1),?_,?_,?_⟩
   ·rw [← Y2];exact T4
   ·show (if p=p then _ else _)≤_
    rw [if_pos rfl];omega
   ·show sz+1 - (if p=p then _ else _)<_
    rw [if_pos rfl];omega
  ·rintro x σ H' ⟨rfl,T,hx⟩ hd
   have hd:¬ x.ns p≤sz:=of_decide_eq_false hd
   obtain ⟨dx,c,fs,hU,hd',hsm,hns,hp,hDc,hc,hsub⟩:=T.wi.at_ p sh hg
   rw [hC] at hp
   walk_at "rd"
   exact ⟨_,_,_,hp,Zc,Z7,_,Yu _ _,_,rfl,_,SqL.of hc,_,Xk _ (by omega),q x H' T (by omega)⟩
theorem Z0T {k:Nat} {Z5 Z1 Z2 Z4 Z3 Z0:Addr} (R:g.RawM Z3 "count_at" "Maker.count_at" Z0l ["self","size"]) (Z2l:g.Me k Z3 "reckoned" ["self","size"] (Xl (Cs.mk Z0 Z2 Z4 Z1 Z3) 5 m)) (b_len:g.mg "len"=none) (Zd:Cls g.K Z3) (Z9:Ye g.K Z3 "counts") (Zb:Ye g.K Z3 "named"):g.Me (k+1) Z3 "count_at" ["self","size"] (Zr (Cs.mk Z0 Z2 Z4 Z1 Z3) 5 (m+1)):=by
 refine R.me Z23 (fun vs H Q E h=>by obtain ⟨w,t,p,sh,sz,rfl,hk,W,hg,hl,hs,q1,q2⟩:=h;rfl) fun f_ cdv A outer s H vs Q E hr h=>?_
 obtain ⟨w,t,p,sh,sz,rfl,hk,W,hg,hl,hs,q1,q2⟩:=h
 refine ⟨_,(@Yg _ _ _ _ _ (@WA _ _ _ _ _ _ PassesOwn.never (@Yz _ _ _ _ _ _ _ _ V3 (@YX _ _ _ _ _ _ _ _ _ _ b_len YA (@Ya _ _ _ _ _ (@Yw _ _ _ _ _ (pv 0) rfl) Yd (by rfl)) (by decide +kernel) (by rfl) (by rfl) (by decide) (by decide) (by rfl) (by rfl)) (pv 1) (YD _)) (@Yi _ _ _ (@YZ _ _ _ _ (@X0 _ _ _ _ _ _ _ _ _ _ _ _ PySem.F.plainAttrs_list PySem.F.slot_list_append PySem.F.type_list_append Y0 (@Yw _ _ _ _ _ (pv 0) rfl) (@Ya _ _ _ _ _ (@YC _ _ _ _ _ _ _ _ _ _ _ _ _ _ _ _ Z2l Zd hr (pv 0) (@Ya _ _ _ _ _ (@YX _ _ _ _ _ _ _ _ _ _ b_len YA (@Ya _ _ _ _ _ (@Yw _ _ _ _ _ (pv 0) rfl) Yd (by rfl)) (by decide +kernel) (by rfl) (by rfl) (by decide) (by decide) (by rfl) (by rfl)) Yd (by rfl)) (by omega) (by rfl) (by rfl) (by rfl) (by rfl)) Yd (by rfl)) (by rfl) (by rfl) (by rfl) (by rfl) (by rfl)) (by rfl)))) (@Yi _ _ _ (@Yo _ _ _ _ (@Yx _ _ _ _ _ _ _ YM (@Yw _ _ _ _ _ (pv 0) rfl) (pv 1) (fun _ _=>rfl))))),?_⟩
 walk_at "rd"
 have hC:VY (Cs.mk Z0 Z2 Z4 Z1 Z3) sh=Z3:=by cases sh<;>first | rfl | (simp [kind] at hk)
 by_cases cs:sz<t.ns p
 ·obtain ⟨dx,c,fs,hU,hd,hsm,hns,hp,hDc,hc,hsub⟩:=W.at_ p sh hg
  rw [hC] at hp
  refine Xw (α:=Unit) (fun x σ H'=>σ=[some (.ref p),some (.int sz)]∧H=H') (fun x=>false) (fun x=>0) () ⟨rfl,rfl⟩ ?_ ?_ ?_
  ·rintro x σ H' ⟨rfl,rfl⟩ R r
   walk_at "rd"
   refine ⟨_,_,_,hp,Zd,Z9,_,Yu _ _,_,rfl,_,.inl (SqL.of hc),?_⟩
   rw [Ys,dle,decide_eq_false (by omega)]
   exact r H ⟨rfl,rfl⟩
  ·rintro x σ H' ⟨rfl,rfl⟩ hd
   cases hd
  ·rintro x σ H' ⟨rfl,rfl⟩ hd
   walk_at "rd"
   exact ⟨_,_,_,hp,Zd,Z9,_,Yu _ _,_,rfl,_,SqL.of hc,_,Xk _ cs,q1 cs⟩
 ·obtain ⟨hfu,hRd,q⟩:=q2 (by omega)
  refine Xw (α:=Sw) (fun x σ H'=>σ=[some (.ref p),some (.int sz)]∧Tr (Cs.mk Z0 Z2 Z4 Z1 Z3) w t H x H' sz (dep sh+1)∧x.ns p≤sz+1) (fun x=>decide (x.ns p≤sz)) (fun x=>sz+1 - x.ns p) t ⟨rfl,.refl W _ _,by omega⟩ ?_ ?_ ?_
  ·rintro x σ H' ⟨rfl,T,hx⟩ R r
   obtain ⟨dx,c,fs,hU,hd,hsm,hns,hp,hDc,hc,hsub⟩:=T.wi.at_ p sh hg
   rw [hC] at hp
   walk_at "rd"
   refine ⟨_,_,_,hp,Zd,Z9,_,Yu _ _,_,rfl,_,.inl (SqL.of hc),?_⟩
   rw [Ys,dle]
   exact r H' ⟨rfl,T,hx⟩
  ·rintro x σ H' ⟨rfl,T,hx⟩ hd
   have hd:x.ns p≤sz:=of_decide_eq_true hd
   obtain ⟨dx,c,fs,hU,hd',hsm,hns,hp,hDc,hc,hsub⟩:=T.wi.at_ p sh hg
   rw [hC] at hp
   walk_at "rd"
   refine ⟨_,_,_,hp,Zd,Z9,_,Yu _ _,.inl ⟨rfl,_,SqL.of hc⟩,_,_,hp,WL (by decide +kernel) hsub,_,_,_,hp,Zd,Z9,_,Yu _ _,_,rfl,_,.inl (SqL.of hc),?_⟩
   rw [Ys]
   have hfl:=Uo (w:=w) (d:=dep sh) hd
   have hrd:Xa w x (x.ns p) (dep sh+1):=(T.ready hRd).mono (by omega)
   refine ⟨w,x,p,sh,x.ns p,rfl,hk,T.wi,hg,rfl,by omega,by omega,hrd,fun t2 H2 T2 e2 hful=>?_⟩
   have T3:=T.trans (T2.mono (by omega))
   obtain ⟨dx2,c2,fs2,hU2,hd2,hsm2,hns2,hp2,hDc2,hc2,hsub2⟩:=T2.wi.at_ p sh hg
   have ec:=T2.wi.inj _ _ _ hDc2 hDc
   subst ec
   rw [e2] at hc2
   have T4:=T3.count hg hDc2 e2 hd hs hful
   refine ⟨_,rfl,_,hc2,by rw [Ys];exact few (by omega),t2.setn p (x.ns p+1),?_,?_,?_⟩
   ·rw [← Y2];exact T4
   ·show (if p=p then _ else _)≤_
    rw [if_pos rfl];omega
   ·show sz+1 - (if p=p then _ else _)<_
    rw [if_pos rfl];omega
  ·rintro x σ H' ⟨rfl,T,hx⟩ hd
   have hd:¬ x.ns p≤sz:=of_decide_eq_false hd
   obtain ⟨dx,c,fs,hU,hd',hsm,hns,hp,hDc,hc,hsub⟩:=T.wi.at_ p sh hg
   rw [hC] at hp
   walk_at "rd"
   exact ⟨_,_,_,hp,Zd,Z9,_,Yu _ _,_,rfl,_,SqL.of hc,_,Xk _ (by omega),q x H' T (by omega)⟩
def YcZ:Sp:=fun vs H Q _=>∃ (n:Nat),vs=[.int n]∧n≤100∧Q (.int (1*2^n / 2^1)) H
theorem Z2Q {Z5 Z1 Z2 Z4 Z3 Z0:Addr} (R:g.Raw "least_distance" "least_distance" Z0F ["size"]):g.Fn (1) "least_distance" ["size"] (YcZ):=by
 refine R.fn Z2O (fun vs H Q E h=>by obtain ⟨n,rfl,hn,q⟩:=h;rfl) fun f_ cdv A outer s H vs Q E hr h=>?_
 obtain ⟨n,rfl,hn,q⟩:=h
 refine ⟨_,(@Yi _ _ _ (@Yo _ _ _ _ (@Yk _ _ _ _ _ _ _ _ YdU (@Yk _ _ _ _ _ _ _ _ Ql Yf (pv 0)) Yf))),?_⟩
 walk_at "rd"
 exact ⟨⟨by omega,by omega,by decide⟩,by decide,q⟩
theorem Z0D {k:Nat} {Z5 Z1 Z2 Z4 Z3 Z0:Addr} (R:g.RawM Z0 "reckoned" "WholeMaker.reckoned" ZZ ["self","size"]) (Z38:g.Fn k "least_distance" ["size"] (YcZ)) (b_max:g.mg "max"=none) (b_min:g.mg "min"=none) (Za:Cls g.K Z0) (Z6:Ye g.K Z0 "counts") (Zj:Ye g.K Z0 "low") (Ze:Ye g.K Z0 "span"):g.Me (k+1) Z0 "reckoned" ["self","size"] (Xl (Cs.mk Z0 Z2 Z4 Z1 Z3) 0 (m+1)):=by
 refine R.me Z0B (fun vs H Q E h=>by obtain ⟨w,t,p,sh,sz,rfl,hk,W,hg,hn,hs,hf,hR,q⟩:=h;rfl) fun f_ cdv A outer s H vs Q E hr h=>?_
 obtain ⟨w,t,p,sh,sz,rfl,hk,W,hg,hn,hs,hf,hR,q⟩:=h
 refine ⟨_,(@Yg _ _ _ _ _ (@Yp _ _ (2) _ _ _ _ Z0B.nd rfl (.inl rfl) (@YX _ _ _ _ _ _ _ _ _ _ b_min (Vq rfl) (@Ya _ _ _ _ _ (@Yw _ _ _ _ _ (pv 0) rfl) (@Ya _ _ _ _ _ (@Yk _ _ _ _ _ _ _ _ Xb (@Yk _ _ _ _ _ _ _ _ Ql Yf (pv 1)) Yf) Yd (by rfl)) (by rfl)) (by decide +kernel) (by rfl) (by rfl) (by decide) (by decide) (by rfl) (by rfl)) (by rfl) (by first | exact .inl rfl | exact .inr rfl | assumption)) (@Yi _ _ _ (@Yo _ _ _ _ (@YX _ _ _ _ _ _ _ _ _ _ b_max (UM rfl) (@Ya _ _ _ _ _ Yf (@Ya _ _ _ _ _ (@Yk _ _ _ _ _ _ _ _ YJ (@Yk _ _ _ _ _ _ _ _ Xb (pv 2) (@YE _ _ _ _ _ _ _ _ _ _ _ _ Z38 hr (@Ya _ _ _ _ _ (pv 1) Yd (by rfl)) (by omega) (by rfl) (by rfl) (by decide) (by rfl) (by rfl))) Yf) Yd (by rfl)) (by rfl)) (by decide +kernel) (by rfl) (by rfl) (by decide) (by decide) (by rfl) (by rfl))))),?_⟩
 cases sh with
 | w lo span =>
  obtain ⟨dx,c,fs,hU,hd,hsm,hns,hp,hDc,hc,hsub⟩:=W.at_ p _ hg
  have hsub:fs=fW lo span:=hsub
  subst hsub
  walk_at "rd"
  have:=q t H (.refl W _ _) hn (fun ps z=>by cases z)
  rw [Um] at this
  exact ⟨_,_,_,hp,Za,Ze,_,rfl,⟨by omega,by omega,by decide⟩,_,rfl,sz,rfl,by omega,_,rfl,this⟩
 | _=>simp [kind] at hk
def Blk (H:Hp) (D:Addr) (ps:List (Int×Int)):Prop:=∃ xs:List V,H D=some (.lst xs)∧xs.length=ps.length∧∀ (i:Nat) x p,xs[i]?=some x→ps[i]?=some p→∃ T,x = .ref T∧H T=some (.tup [.int p.1,.int p.2])
def Z25 (K:PySem.W.Frag):Sp:=fun vs H Q _=>∃ (D:Addr) (ps:List (Int×Int)),vs=[.ref D]∧Blk H D ps∧ps.length≤1000∧(∀ p∈ps,sm p.1∧sm p.2)∧∀ H',Yl H H'→Q (.int (ps.map fun p=>p.1*p.2).sum) H'
section
variable {src:List (Option Nat)} {te:TE} {σ:St} {H:Hp} {Q:VK}
theorem YbS {K:PySem.W.Frag} {tl:TE} {b:Addr} {xs:List V} (ps:List (V×V)) (ys:List V) (ha:∀ R:V→Hp→Prop,R (.ref b) H→tl σ H R) (hS:SqL K H b xs) (hp:∀ (i:Nat) x p,xs[i]?=some x→ps[i]?=some p→∃ T,x = .ref T∧H T=some (.tup [p.1,p.2])) (hl:ps.length=xs.length) (hl2:ys.length=xs.length) (hlen:xs.length≤100000)
  (step:∀ (i:Nat) p y H',ps[i]?=some p→ys[i]?=some y→Yl H H'→∀ R:VK,(∀ H'',Yl H' H''→R y H'')→te (some p.1::some p.2::Yy src σ) H' R)
  (fin:∀ D H',H D=none→Yl H H'→H' D=some (.lst ys)→Q (.ref D) H'):tLC (none::none::src) (Wq K tl) (WQ K 2 (Xp (Yv 0) (Xp (Yv 1) WP))) Wp te σ H Q:=by
 refine ha _ ⟨b,rfl,⟨xs,hS⟩,fun D hD=>?_⟩
 have h6:100000<sizeLine:=by decide
 refine VJ (Ws.imp fun H' (e:Yl H H')=>e.seq hS) (fun i zs σ' H'=>zs=ys.take i∧(∃ o o',σ'=o::o'::Yy src σ)∧Yl H H'∧H' D=some (.lst zs)) ⟨by simp,⟨none,none,rfl⟩,.upd_new hD _,Yc⟩ (fun i zs σ' H' p=>⟨p.2.2.1,p.2.2.2⟩) (VU K 0 1) ?_ ?_
 ·rintro i zs σ' H' x hx ⟨rfl,⟨o,o',rfl⟩,sm,hd⟩
  have hi:=(List.getElem?_eq_some_iff.mp hx).1
  have hy:ys[i]?=some (ys[i]'(by omega)):=List.getElem?_eq_getElem _
  have hpi:ps[i]?=some (ps[i]'(by omega)):=List.getElem?_eq_getElem _
  obtain ⟨T,rfl,hT⟩:=hp i x _ hx hpi
  refine ⟨T,_,rfl,SqT.of (sm _ _ hT),rfl,_,_,rfl,_,_,rfl,rfl,?_⟩
  refine step i _ _ H' hpi hy sm _ fun H'' s2=>⟨s2 _ _ hd,?_,(Xu hy).symm,⟨_,_,rfl⟩,.upd_over hD (sm.trans s2) _,Yc⟩
  rw [List.length_take];omega
 ·rintro zs σ' H' ⟨rfl,_,sm,hd⟩
  rw [← hl2,List.take_length] at hd
  exact fin D H' hD sm hd
end
theorem YaZ {Z5 Z1 Z2 Z4 Z3 Z0:Addr} (R:g.Raw "ways_of" "ways_of" Z2u ["blocks"]) (b_sum:g.mg "sum"=none):g.Fn (1) "ways_of" ["blocks"] (Z25 g.K):=by
 refine R.fn YaX (fun vs H Q E h=>by obtain ⟨D,ps,rfl,⟨xs,hD,hxl,hxp⟩,hl,hb,q⟩:=h;rfl) fun f_ cdv A outer s H vs Q E hr h=>?_
 obtain ⟨D,ps,rfl,⟨xs,hD,hxl,hxp⟩,hl,hb,q⟩:=h
 refine ⟨_,(@Yi _ _ _ (@Yo _ _ _ _ (@YX _ _ _ _ _ _ _ _ _ _ b_sum Vk (@Ya _ _ _ _ _ (@Wh _ _ _ _ _ _ _ ([none,none]) ((["choices","rest"]:List Str)) _ (WQ g.K 2 (Xp (Yv 0) (Xp (Yv 1) WP))) _ _ (.own (.own .nil)) rfl (@Xr _ _ _ _ (pv 0)) (fun cl C s₀ H₀ fp pn=>(@XZ _ _ _ _ _ (2) rfl (@YL _ _ _ _ _ (@Yn _ _ (0) _ (show List.Nodup (["choices","rest"]:List Str) by decide +kernel) rfl (.inl rfl) (.inr rfl)) (@YL _ _ _ _ _ (@Yn _ _ (1) _ (show List.Nodup (["choices","rest"]:List Str) by decide +kernel) rfl (.inl rfl) (.inr rfl)) XO (by rfl)) (by rfl)) (by rfl) (by rfl))) (fun cl C s₀ H₀ fp pn=>Xj) (fun cl C s₀ H₀ fp pn=>(@Yk _ _ _ _ _ _ _ _ XG (pv 0) (pv 1))) (by intro x hx;simp at hx) (by rfl) (by decide) (by decide +kernel) (by intro _;rfl)) Yd (by rfl)) (by decide +kernel) (by rfl) (by rfl) (by decide) (by decide) (by rfl) (by rfl)))),?_⟩
 walk_at "rd"
 refine YbS (K:=g.K) (b:=D) (xs:=xs) (ps.map fun p=>(V.int p.1,V.int p.2)) (ps.map fun p=>V.int (p.1*p.2)) (fun R r=>by walk_at "rd";exact r) (SqL.of hD) ?_ (by rw [List.length_map];omega) (by rw [List.length_map];omega) (by omega) ?_ ?_
 ·intro i x p hx hp
  rw [List.getElem?_map] at hp
  obtain ⟨p',hp',rfl⟩:=Option.map_eq_some_iff.mp hp
  exact hxp i x p' hx hp'
 ·intro i p y H' hp hy sm R r
  rw [List.getElem?_map] at hp hy
  obtain ⟨p',hp',rfl⟩:=Option.map_eq_some_iff.mp hp
  rw [hp'] at hy
  have:V.int (p'.1*p'.2)=y:=Option.some.inj hy
  subst this
  obtain ⟨⟨n1,b0,b1⟩,⟨n2,b2,b3⟩⟩:=hb p' (List.mem_of_getElem? hp')
  walk_at "rd"
  exact ⟨.inl (cm b1 b3 (by omega)),r H' (.refl _)⟩
 ·intro D' H' hD' sm hd
  refine ⟨D',rfl,ps.map fun p=>p.1*p.2,SqL.of (by rw [hd,List.map_map];rfl),q H' sm⟩
def Tb (C:Cs) (H:Hp) (p T:Addr):Prop:=∃ dx c P,H p=some (.ins C.row dx (mf c (fR P T)))
def W0 (C:Cs) (l:Nat):Sp:=fun vs H Q _=>∃ (w:Wo) (t:Sw) (p T:Addr) (ps:List Sh) (pl left:Nat),vs=[.ref T,.int pl,.int left]∧WI C w t H∧w.reg p=some (.row ps)∧Tb C H p T∧pl≤ps.length∧left≤40∧1≤l ∧
 (left<t.ms p ps.length→left<t.ms p pl∧Q (.int (YI w.bk (ps.drop pl) left)) H) ∧
 (t.ms p ps.length≤left→Uni t p∧left≤t.ns p∧fu w left (YH ps+1)+3≤l∧Xa w t left (YH ps+1)∧∀ t' H',Tr C w t H t' H' left (YH ps+2)→t'.ns p=t.ns p→Uni t' p→left<t'.ms p 0→Q (.int (YI w.bk (ps.drop pl) left)) H')
def Up (C:Cs) (l:Nat):Sp:=fun vs H Q _=>∃ (w:Wo) (t:Sw) (p T:Addr) (ps:List Sh) (sz:Nat),vs=[.ref T,.int sz]∧WI C w t H∧w.reg p=some (.row ps)∧Tb C H p T∧(∀ i,t.ms p i=sz)∧sz≤40∧sz≤t.ns p∧fu w sz (YH ps+1)+2≤l∧Xa w t sz (YH ps+1) ∧
 ∀ t' H',Tr C w t H t' H' sz (YH ps+2)→t'.ns p=t.ns p→(∀ i,t'.ms p i=sz+1)→Q .non H'
def Z1i (C:Cs) (l:Nat):Sp:=fun vs H Q _=>∃ (w:Wo) (t:Sw) (p T:Addr) (ps:List Sh) (pl left:Nat) (sh:Sh),vs=[.ref T,.int pl,.int left]∧WI C w t H∧w.reg p=some (.row ps)∧Tb C H p T∧ps[pl]?=some sh∧left≤40∧left≤t.ns p∧(∀ i,pl<i→left<t.ms p i)∧fu w left (YH ps+1)+1≤l∧Xa w t left (YH ps+1) ∧
 ∀ D t' H',Tr C w t H t' H' left (YH ps+1)→H D=none→¬ t'.U D→Blk H' D ((List.range (left+1)).map fun f=>(cnt w.bk sh f,YI w.bk (ps.drop (pl+1)) (left - f)))→Q (.ref D) H'
theorem Yaj {C:Cs} {vs:List V} {H:Hp} {Q:VK} {E:XK} (h:W0 C 0 vs H Q E):False:=by
 obtain ⟨w,t,p,T,ps,pl,left,_,_,_,_,_,_,h,_⟩:=h
 omega
theorem Yec {C:Cs} {vs:List V} {H:Hp} {Q:VK} {E:XK} (h:Up C 0 vs H Q E):False:=by
 obtain ⟨w,t,p,T,ps,sz,_,_,_,_,_,_,_,h,_⟩:=h
 omega
theorem Ya0 {C:Cs} {vs:List V} {H:Hp} {Q:VK} {E:XK} (h:Z1i C 0 vs H Q E):False:=by
 obtain ⟨w,t,p,T,ps,pl,left,sh,_,_,_,_,_,_,_,_,h,_⟩:=h
 omega
theorem W1 {C:Cs} {w:Wo} {t:Sw} {H:Hp} {p T:Addr} {ps:List Sh} (W:WI C w t H) (hg:w.reg p=some (.row ps)) (hT:Tb C H p T):∃ (P dt L:Addr) (as ws:List Addr),w.D T=none∧w.D P=none∧w.D L=none∧H P=some (.lst (as.map V.ref))∧WK w.reg as ps∧ps.length≤100 ∧
   H T=some (.ins C.tab dt (WT P L))∧H L=some (.lst (ws.map V.ref))∧ws.length=ps.length+1 ∧
   (∀ (i:Nat) x,ws[i]?=some x→w.D x=some (p,i+1)∧t.ns p≤t.ms p i∧t.ms p i≤60∧H x=some (.lst (Yt (YI w.bk (ps.drop i)) (t.ms p i))))∧(∀ i s,s≤45→sm (YI w.bk (ps.drop i) s))∧dep (.row ps)≤w.M:=by
 obtain ⟨dx,c,fs,hU,hd,hsm,hns,hp,hDc,hc,hsub⟩:=W.at_ p _ hg
 obtain ⟨P,T',dt,L,as,ws,rfl,h2,h3,h4,h5,h6,h7,h8,h9,h10,h11,h12⟩:=hsub
 obtain ⟨dx',c',P',hp'⟩:=hT
 rw [hp] at hp'
 have e:=Option.some.inj hp'
 injection e with e1 e2 e3
 unfold mf fR at e3
 injection e3 with e4 e5
 injection e5 with e6 e7
 injection e7 with e8 e9
 injection e8 with _ e8
 have:=V.ref.inj e8
 subst this
 exact ⟨P,dt,L,as,ws,h3.1,h2.1,h4.1,h5,h6,h7,h8,h9,h10,h11,h12,hd⟩
theorem Tr.tb {C:Cs} {w:Wo} {t t':Sw} {H H':Hp} {s d:Nat} (T:Tr C w t H t' H' s d) {p x:Addr} {sh:Sh} (W:WI C w t H) (hg:w.reg p=some sh) (h:Tb C H p x):Tb C H' p x:=by
 obtain ⟨dx,c,P,h⟩:=h
 obtain ⟨_,_,_,hU,_⟩:=W.at_ p _ hg
 exact ⟨dx,c,P,T.fr _ _ hU.1 h⟩
def Cal (C:Cs) (cx:Addr) (k l:Nat) (H:Hp) (a:Addr) (s:Nat) (Q:VK):Prop:=∃ dx fs,H a=some (.ins cx dx fs)∧fs.lookup ("count_at":Str)=none∧Zr C k l [.ref a,.int s] H Q E0
theorem Ve {C:Cs} {w:Wo} {t:Sw} {H:Hp} {a:Addr} {sh:Sh} {l sz:Nat} {Q:VK} (W:WI C w t H) (hg:w.reg a=some sh) (hs:sz≤40) (hf:fu w sz (dep sh)+5≤l) (hR:Xa w t sz (dep sh+1))
  (q:∀ t' H',Tr C w t H t' H' sz (dep sh+1)→sz<t'.ns a→Q (.int (cnt w.bk sh sz)) H'):Cal C C.w 0 l H a sz Q∨Cal C C.row 2 l H a sz Q∨Cal C C.pick 3 l H a sz Q∨Cal C C.use 5 l H a sz Q:=by
 obtain ⟨dx,c,fs,hU,hd,hsm,hns,hp,hDc,hc,hsub⟩:=W.at_ a sh hg
 have key:Cal C (VY C sh) (kind sh) l H a sz Q:=⟨dx,_,hp,WL (by decide +kernel) hsub,w,t,a,sh,sz,rfl,rfl,W,hg,by omega,hs,fun h=>q t H (.refl W _ _) h,fun _=>⟨hf,hR,fun t' H' T e=>q t' H' T (by omega)⟩⟩
 cases sh with
 | w lo span=>exact .inl key
 | row ps=>exact .inr (.inl key)
 | pick mk ps=>exact .inr (.inr (.inl key))
 | use x=>exact .inr (.inr (.inr key))
theorem Z0M {k:Nat} {Z5 Z1 Z2 Z4 Z3 Z0:Addr} (R:g.RawM Z4 "blocks_at" "RowTable.blocks_at" Z04 ["self","place","left"]) (Z0t:g.Me k Z4 "ways_at" ["self","place","left"] (W0 (Cs.mk Z0 Z2 Z4 Z1 Z3) m)) (Zt:g.Me k Z0 "count_at" ["self","size"] (Zr (Cs.mk Z0 Z2 Z4 Z1 Z3) 0 m)) (Zv:g.Me k Z2 "count_at" ["self","size"] (Zr (Cs.mk Z0 Z2 Z4 Z1 Z3) 2 m)) (Zu:g.Me k Z1 "count_at" ["self","size"] (Zr (Cs.mk Z0 Z2 Z4 Z1 Z3) 3 m)) (Zw:g.Me k Z3 "count_at" ["self","size"] (Zr (Cs.mk Z0 Z2 Z4 Z1 Z3) 5 m)) (Zq:g.mg "range"=none) (Zc:Cls g.K Z1) (Z7:Ye g.K Z1 "counts") (Zg:Ye g.K Z1 "marks") (Zf:Ye g.K Z1 "parts") (Zh:Cls g.K Z2) (Z8:Ye g.K Z2 "counts") (Zk:Ye g.K Z2 "parts") (Zi:Ye g.K Z2 "table") (Zm:Cls g.K Z4) (Zo:Ye g.K Z4 "parts") (Zl:Ye g.K Z4 "ways") (Zd:Cls g.K Z3) (Z9:Ye g.K Z3 "counts") (Zb:Ye g.K Z3 "named") (Za:Cls g.K Z0) (Z6:Ye g.K Z0 "counts") (Zj:Ye g.K Z0 "low") (Ze:Ye g.K Z0 "span"):g.Me (k+1) Z4 "blocks_at" ["self","place","left"] (Z1i (Cs.mk Z0 Z2 Z4 Z1 Z3) (m+1)):=by
 refine R.me Z0K (fun vs H Q E h=>by obtain ⟨w,t,p,T,ps,pl,left,sh,rfl,W,hg,hT,hsh,hl,hln,hms,hf,hR,q⟩:=h;rfl) fun f_ cdv A outer s H vs Q E hr h=>?_
 obtain ⟨w,t,p,T,ps,pl,left,sh,rfl,W,hg,hT,hsh,hl,hln,hms,hf,hR,q⟩:=h
 refine ⟨_,(@Yg _ _ _ _ _ (@Yp _ _ (3) _ _ _ _ Z0K.nd rfl (.inr rfl) (@Yx _ _ _ _ _ _ _ YM (@Yw _ _ _ _ _ (pv 0) rfl) (pv 1) (fun _ _=>rfl)) (by rfl) (by first | exact .inl rfl | exact .inr rfl | assumption)) (@Yi _ _ _ (@Yo _ _ _ _ (@Wh _ _ _ _ _ _ _ ([none,some 3,some 0,some 1,some 2]) ((["first","part","self","place","left"]:List Str)) _ (Yv 0) _ _ (.own (.cap (i:=3) rfl rfl (by first | exact .inl rfl | exact .inr rfl) (.cap (i:=0) rfl rfl (by first | exact .inl rfl | exact .inr rfl) (.cap (i:=1) rfl rfl (by first | exact .inl rfl | exact .inr rfl) (.cap (i:=2) rfl rfl (by first | exact .inl rfl | exact .inr rfl) .nil))))) rfl (@Y8 _ _ _ _ _ _ rfl Zq (@Ya _ _ _ _ _ (@Yk _ _ _ _ _ _ _ _ YJ (pv 2) Yf) Yd (by rfl)) (by rfl)) (fun cl C s₀ H₀ fp pn=>(@Yn _ _ (0) _ (show List.Nodup (["first","part","self","place","left"]:List Str) by decide +kernel) rfl (.inl rfl) (.inr rfl))) (fun cl C s₀ H₀ fp pn=>Xj) (fun cl C s₀ H₀ fp pn=>(@Xs _ _ _ _ _ (@Ya _ _ _ _ _ (@YO _ _ _ _ (@YC _ _ _ _ _ _ _ _ _ _ _ _ _ _ _ _ Zt Za hr (pv 1) (@Ya _ _ _ _ _ (pv 0) Yd (by rfl)) (by omega) (by rfl) (by rfl) (by rfl) (by rfl)) (@YO _ _ _ _ (@YC _ _ _ _ _ _ _ _ _ _ _ _ _ _ _ _ Zv Zh hr (pv 1) (@Ya _ _ _ _ _ (pv 0) Yd (by rfl)) (by omega) (by rfl) (by rfl) (by rfl) (by rfl)) (@YO _ _ _ _ (@YC _ _ _ _ _ _ _ _ _ _ _ _ _ _ _ _ Zu Zc hr (pv 1) (@Ya _ _ _ _ _ (pv 0) Yd (by rfl)) (by omega) (by rfl) (by rfl) (by rfl) (by rfl)) (@YC _ _ _ _ _ _ _ _ _ _ _ _ _ _ _ _ Zw Zd hr (pv 1) (@Ya _ _ _ _ _ (pv 0) Yd (by rfl)) (by omega) (by rfl) (by rfl) (by rfl) (by rfl))))) (@Ya _ _ _ _ _ (@YC _ _ _ _ _ _ _ _ _ _ _ _ _ _ _ _ Z0t Zm hr (pv 2) (@Ya _ _ _ _ _ (@Yk _ _ _ _ _ _ _ _ YJ (pv 3) Yf) (@Ya _ _ _ _ _ (@Yk _ _ _ _ _ _ _ _ Xb (pv 4) (pv 0)) Yd (by rfl)) (by rfl)) (by omega) (by rfl) (by rfl) (by rfl) (by rfl)) Yd (by rfl)) (by rfl)))) (by intro x hx;simp at hx;first | (subst hx;exact .inl rfl) | (rcases hx with rfl | rfl<;>exact .inl rfl) | (rcases hx with rfl | rfl | rfl<;>exact .inl rfl) | (rcases hx with rfl | rfl | rfl | rfl<;>exact .inl rfl) | (rcases hx with rfl | rfl | rfl | rfl | rfl<;>exact .inl rfl)) (by rfl) (by decide) (by decide +kernel) (by intro _;rfl))))),?_⟩
 walk_at "rd"
 obtain ⟨P,dt,L,as,ws,dT,dP,dL,hP,hra,hpl,hTT,hLL,hwl,hws,hsm,hdp⟩:=W1 W hg hT
 have hpi:=(List.getElem?_eq_some_iff.mp hsh).1
 have hal:=hra.1
 have hai:as[pl]?=some (as[pl]'(by omega)):=List.getElem?_eq_getElem _
 generalize as[pl]'(by omega)=a at hai
 have hga:=hra.2 pl a sh hai hsh
 have hds:dep sh≤YH ps:=WZ (List.mem_of_getElem? hsh)
 have hdr:dep (.row ps)=YH ps+1:=by rw [dep]
 refine ⟨_,_,_,hTT,Zm,Zo,_,rfl,P,rfl,_,SqL.of hP,.ref a,Yq (by rw [List.getElem?_map,hai];rfl),?_⟩
 refine X2 (n:=left+1) (fun D i zs H'=>∃ t',Tr (Cs.mk Z0 Z2 Z4 Z1 Z3) w t H t' H' left (YH ps+1)∧zs.length=i∧H' D=some (.lst zs)∧¬ t'.U D∧∀ (j:Nat) x,zs[j]?=some x→∃ T,x = .ref T∧w.D T=none∧¬ t'.U T∧T≠D∧H' T=some (.tup [.int (cnt w.bk sh j),.int (YI w.bk (ps.drop (pl+1)) (left - j))])) (fun R r=>by walk_at "rd";exact r) (by omega) ?_ ?_ ?_ ?_
 ·intro D hD
  exact ⟨t,(Tr.refl W _ _).put hD (W.new hD).2 _,rfl,Yc,(W.new hD).2,fun j x hx=>by simp at hx⟩
 ·rintro D i zs H' ⟨t',_,h1,h2,_⟩
  exact ⟨h1,h2⟩
 ·rintro D i zs H' hD hi ⟨t',T1,hz,hd,hUD,hts⟩ R r
  have fm:fu w i (dep sh)+5≤fu w left (YH ps+1):=UD (by omega) (by omega)
  have dD:w.D D=none:=(W.new hD).1
  walk_at "rd"
  refine Ve T1.wi hga (by omega) (by omega) ((T1.ready hR).mono (by omega)) fun t2 H2 T2 hn2=>?_
  have T12:=T1.trans (T2.mono (by omega))
  have own:=T12.own hg (by omega) hln
  have hd2:=T2.fr _ _ dD hd
  have hUD2:=T2.ours hUD hd
  refine ⟨_,_,T12.fr _ _ dT hTT,rfl,w,t2,p,T,ps,pl+1,left - i,by rw [show (left:Int) - (i:Int)=((left - i:Nat):Int) by omega];rfl,T2.wi,hg,T12.tb W hg hT,by omega,by omega,by omega,fun _=>⟨?_,few (by decide),fun X gX=>?_⟩,fun h=>?_⟩
  ·rw [own.2]
   have:=hms (pl+1) (by omega)
   omega
  ·have nXD:X≠D:=Ne.symm (Yh hd2 gX)
   have sX:=Yl.upd_new gX (.tup [.int (cnt w.bk sh i),.int (YI w.bk (ps.drop (pl+1)) (left - i))])
   refine r _ _ (sX _ _ hd2) ⟨t2,(T12.same sX).put hD hUD2 _,by rw [List.length_append,hz];rfl,Yc,hUD2,fun j x hx=>?_⟩
   by_cases c:j<zs.length
   ·rw [List.getElem?_append_left c] at hx
    obtain ⟨Y,rfl,y1,y2,y3,y4⟩:=hts j x hx
    exact ⟨Y,rfl,y1,T2.ours y2 y4,y3,by rw [Yb y3];exact sX _ _ (T2.fr _ _ y1 y4)⟩
   ·have hj:j=zs.length:=by
     have:=(List.getElem?_eq_some_iff.mp hx).1
     rw [List.length_append,List.length_singleton] at this
     omega
    subst hj
    rw [List.getElem?_append_right (Nat.le_refl _),Nat.sub_self] at hx
    have:V.ref X=x:=Option.some.inj hx
    subst this
    exact ⟨X,rfl,(T2.wi.new gX).1,(T2.wi.new gX).2,nXD,by rw [Yb nXD,Yc,hz]⟩
  ·have:=hms ps.length (by omega)
   rw [own.2] at h
   omega
 ·rintro D zs H' hD ⟨t',T1,hz,hd,hUD,hts⟩
  refine q D t' H' T1 hD hUD ⟨zs,hd,by rw [hz,List.length_map,List.length_range],fun j x y hx hy=>?_⟩
  obtain ⟨X,rfl,_,_,_,hX⟩:=hts j x hx
  have hj:=(List.getElem?_eq_some_iff.mp hx).1
  rw [List.getElem?_map,List.getElem?_range (by omega)] at hy
  have:=Option.some.inj hy
  subst this
  exact ⟨X,rfl,hX⟩
theorem Yc0 {xs:List V} {n:Nat} {x:V} (hl:xs.length=n+1) (h:xs[n]?=some x):atI xs (-1)=some x:=by
 have e:xs=xs.take n++[x]:=by rw [← Xu h,List.take_of_length_le (by omega)]
 rw [e]
 exact Yce _ _
theorem XE (P L:Addr):(WT P L).lookup ("ways":Str)=some (.ref L):=by
 unfold WT
 rw [List.lookup_cons,show (("ways":Str)==("parts":Str))=false by decide +kernel,List.lookup_cons,show (("ways":Str)==("ways":Str))=true by decide +kernel]
theorem UE (P L:Addr) {m:Str} (hm:isF m=false):(WT P L).lookup m=none:=by
 obtain ⟨a1,a2,a3,a4,a5,a6,a7,a8,a9,a10⟩:=YbR hm
 unfold WT
 rw [List.lookup_cons,a5,List.lookup_cons,a7];rfl
theorem Ya1 {g:TG} {tb:TS} {D:Ends} {σ:St} {H:Hp} {ta:TA} {n:Nat} (Pv:Nat→St→Hp→Prop) (ha:∀ R:List V→Hp→Prop,R [.int ((n:Int) - 1),.int (-1),.int (-1)] H→ta σ H R) (hn:n<2^62) (h0:Pv 0 σ H)
  (hs:∀ i σ H,i<n→Pv i σ H→g (.int ((n - 1 - i:Nat):Int)) σ H fun σ2 H2=>tb { D with nx:=Pv (i+1),ct:=Pv (i+1),bk:=D.nx } σ2 H2) (hd:∀ σ H,Pv n σ H→D.nx σ H):Vn (YcY ta) g tb D σ H:=by
 refine ha _ ⟨(n:Int) - 1,-1,rfl,⟨by omega,by omega,by omega,by omega⟩,?_⟩
 have e:((n:Int) - 1 - (-1)).toNat=n:=by omega
 rw [e]
 refine ⟨fun i m σ H=>m=n - i∧i≤n∧Pv i σ H,⟨n,by simp,Nat.zero_le _,h0⟩,?_⟩
 rintro i m σ H ⟨rfl,hi,p⟩
 by_cases hlt:i<n
 ·refine .inr ⟨hlt,Pv (i+1),fun σ' H' p'=>⟨n - (i+1),by omega,rfl,hlt,p'⟩,fun x H' y=>?_⟩
  obtain ⟨e,y⟩:=y
  subst e y
  have:=hs i σ _ hlt p
  have e2:((n - 1 - i:Nat):Int)=(n:Int) - 1 - i:=by omega
  rw [e2] at this
  exact this
 ·have e:i=n:=by omega
  subst e
  exact .inl ⟨Nat.le_refl _,hd σ H p⟩
theorem Z0U {k:Nat} {Z5 Z1 Z2 Z4 Z3 Z0:Addr} (R:g.RawM Z4 "add_size" "RowTable.add_size" Z0f ["self","size"]) (Z2B:g.Fn k "ways_of" ["blocks"] (Z25 g.K)) (Z26:g.Me k Z4 "blocks_at" ["self","place","left"] (Z1i (Cs.mk Z0 Z2 Z4 Z1 Z3) m)) (b_len:g.mg "len"=none) (Zq:g.mg "range"=none) (Zm:Cls g.K Z4) (Zo:Ye g.K Z4 "parts") (Zl:Ye g.K Z4 "ways"):g.Me (k+1) Z4 "add_size" ["self","size"] (Up (Cs.mk Z0 Z2 Z4 Z1 Z3) (m+1)):=by
 refine R.me Z0R (fun vs H Q E h=>by obtain ⟨w,t,p,T,ps,sz,rfl,W,hg,hT,hms,hs,hsn,hf,hR,q⟩:=h;rfl) fun f_ cdv A outer s H vs Q E hr h=>?_
 obtain ⟨w,t,p,T,ps,sz,rfl,W,hg,hT,hms,hs,hsn,hf,hR,q⟩:=h
 refine ⟨_,(@Yg _ _ _ _ _ (@YZ _ _ _ _ (@X0 _ _ _ _ _ _ _ _ _ _ _ _ PySem.F.plainAttrs_list PySem.F.slot_list_append PySem.F.type_list_append Y0 (@Yx _ _ _ _ _ _ _ YM (@Yw _ _ _ _ _ (pv 0) rfl) (@V2 _ _ _ _ _ _ Vp Yf) (fun _ _=>rfl)) (@Ya _ _ _ _ _ (@Qk _ _ _ _ _ _ _ _ (@Yz _ _ _ _ _ _ _ _ Xh (pv 1) Yf (YD _)) Yf Yf) Yd (by rfl)) (by rfl) (by rfl) (by rfl) (by rfl) (by rfl)) (by rfl)) (@Yi _ _ _ (@Xn _ _ _ _ _ _ _ _ PassesOwn.never rfl (@YbH _ _ _ _ _ _ _ _ rfl Zq (@Ya _ _ _ _ _ (@Yk _ _ _ _ _ _ _ _ Xb (@YX _ _ _ _ _ _ _ _ _ _ b_len YA (@Ya _ _ _ _ _ (@Yw _ _ _ _ _ (pv 0) rfl) Yd (by rfl)) (by decide +kernel) (by rfl) (by rfl) (by decide) (by decide) (by rfl) (by rfl)) Yf) (@Ya _ _ _ _ _ (@V2 _ _ _ _ _ _ Vp Yf) (@Ya _ _ _ _ _ (@V2 _ _ _ _ _ _ Vp Yf) Yd (by rfl)) (by rfl)) (by rfl)) (by rfl) (by rfl)) (@Yn _ _ (2) _ Z0R.nd rfl (.inl rfl) (by first | exact .inl rfl | exact .inr rfl | assumption)) (@Yi _ _ _ (@YZ _ _ _ _ (@X0 _ _ _ _ _ _ _ _ _ _ _ _ PySem.F.plainAttrs_list PySem.F.slot_list_append PySem.F.type_list_append Y0 (@Yx _ _ _ _ _ _ _ YM (@Yw _ _ _ _ _ (pv 0) rfl) (pv 2) (fun _ _=>rfl)) (@Ya _ _ _ _ _ (@YE _ _ _ _ _ _ _ _ _ _ _ _ Z2B hr (@Ya _ _ _ _ _ (@YC _ _ _ _ _ _ _ _ _ _ _ _ _ _ _ _ Z26 Zm hr (pv 0) (@Ya _ _ _ _ _ (pv 2) (@Ya _ _ _ _ _ (pv 1) Yd (by rfl)) (by rfl)) (by omega) (by rfl) (by rfl) (by rfl) (by rfl)) Yd (by rfl)) (by omega) (by rfl) (by rfl) (by decide) (by rfl) (by rfl)) Yd (by rfl)) (by rfl) (by rfl) (by rfl) (by rfl) (by rfl)) (by rfl))) (by intro _;rfl)))),?_⟩
 obtain ⟨P,dt,L,as,ws,dT,dP,dL,hP,hra,hpl,hTT,hLL,hwl,hws,hsm,hdp⟩:=W1 W hg hT
 have hwk:ws[ps.length]?=some (ws[ps.length]'(by omega)):=List.getElem?_eq_getElem _
 generalize ws[ps.length]'(by omega)=y at hwk
 obtain ⟨hDy,hny,hm60,hy⟩:=hws ps.length y hwk
 have hnn:t.ns p=sz:=by have:=hms ps.length;omega
 rw [hms] at hy
 have e0:YI w.bk (ps.drop ps.length) sz=if sz=0 then 1 else 0:=by rw [List.drop_length,WJ]
 have hdr:dep (.row ps)=YH ps+1:=by rw [dep]
 have hbr:bnd sz (YH ps+1) (.row ps)≤t.ns p:=by rw [bnd,if_neg (by omega)];omega
 refine WF (fun σ H'=>σ=[some (.ref T),some (.int sz),none]∧H'=upd H y (.lst (Yt (YI w.bk (ps.drop ps.length)) (sz+1)))) ?_ (fun N hN=>?_)
 rotate_left
 ·walk_at "rd"
  refine ⟨_,_,_,hTT,Zm,Zl,_,XE _ _,L,rfl,_,SqL.of hLL,.ref y,Yc0 (n:=ps.length) (by rw [List.length_map,hwl]) (by rw [List.getElem?_map,hwk];rfl),.inl ⟨rfl,_,SqL.of hy⟩,W8 (fun c=>?_) (fun c=>?_)⟩
  ·refine ⟨y,rfl,_,hy,by rw [Ys];exact few (by omega),hN _ _ ⟨rfl,?_⟩⟩
   rw [Y2,e0,if_pos (by omega)]
  ·refine ⟨y,rfl,_,hy,by rw [Ys];exact few (by omega),hN _ _ ⟨rfl,?_⟩⟩
   rw [Y2,e0,if_neg (by omega)]
 rintro σ H1 ⟨rfl,rfl⟩
 have T0:TrB (Cs.mk Z0 Z2 Z4 Z1 Z3) w t H t H sz (YH ps+2) p:=(Tr.refl W _ _).b rfl
 have T1:=T0.way hg hDy (hms _) (by omega) (fun j h1 h2=>by omega)
 walk_at "rd"
 refine Ya1 (n:=ps.length) (fun i σ H'=>∃ (t':Sw) (o:Option V),σ=[some (.ref T),some (.int sz),o]∧TrB (Cs.mk Z0 Z2 Z4 Z1 Z3) w t H t' H' sz (YH ps+2) p∧(∀ j,ps.length - i≤j→t'.ms p j=sz+1)∧∀ j,j<ps.length - i→t'.ms p j=sz) (fun R r=>?_) (by omega) ⟨_,none,rfl,T1,fun j hj=>if_pos ⟨rfl,hj⟩,fun j hj=>(if_neg (fun z=>by omega)).trans (hms j)⟩ ?_ ?_
 ·walk_at "rd"
  refine ⟨_,_,_,T1.fr _ _ dT hTT,Zm,Zo,_,rfl,P,rfl,_,.inl (SqL.of (T1.fr _ _ dP hP)),?_⟩
  rw [List.length_map,hra.1]
  exact r
 ·rintro i σ H' hi ⟨t',o,rfl,T2,hge,hlt⟩
  obtain ⟨pl,hplq⟩:∃ pl,pl=ps.length - 1 - i:=⟨_,rfl⟩
  rw [← hplq]
  have hsh:ps[pl]?=some (ps[pl]'(by omega)):=List.getElem?_eq_getElem _
  generalize ps[pl]'(by omega)=sh at hsh
  have hwp:ws[pl]?=some (ws[pl]'(by omega)):=List.getElem?_eq_getElem _
  generalize ws[pl]'(by omega)=yy at hwp
  obtain ⟨hDyy,_,_,_⟩:=hws pl yy hwp
  have hT':Tb (Cs.mk Z0 Z2 Z4 Z1 Z3) H' p T:=by
   obtain ⟨dx,c,P',h⟩:=hT
   obtain ⟨_,_,_,hU,_⟩:=W.at_ p _ hg
   exact ⟨dx,c,P',T2.fr _ _ hU.1 h⟩
  obtain ⟨P2,dt2,L2,as2,ws2,_,_,_,_,_,_,_,_,hwl2,hws2,_,_⟩:=W1 T2.wi hg hT'
  have hwp2:ws2[pl]?=some (ws2[pl]'(by omega)):=List.getElem?_eq_getElem _
  obtain ⟨hD2,_,_,hy2⟩:=hws2 pl _ hwp2
  rw [T2.wi.inj _ _ _ hD2 hDyy] at hy2
  walk_at "rd"
  refine ⟨_,_,_,T2.fr _ _ dT hTT,Zm,Zl,_,XE _ _,L,rfl,_,SqL.of (T2.fr _ _ dL hLL),.ref yy,Yq (by rw [List.getElem?_map,hwp];rfl),.inl ⟨rfl,_,SqL.of hy2⟩,_,_,T2.fr _ _ dT hTT,UE _ _ (by decide +kernel),?_⟩
  refine ⟨w,t',p,T,ps,pl,sz,sh,rfl,T2.wi,hg,hT',hsh,hs,by rw [T2.own];exact hsn,fun j hj=>by rw [hge j (by omega)];omega,by omega,T2.ready hg hbr hR,fun D t3 H3 T3 gD hUD hB=>?_⟩
  have own:=T3.own hg (by omega) (by rw [T2.own];exact hsn)
  have hlen:((List.range (sz+1)).map fun f=>(cnt w.bk sh f,YI w.bk (ps.drop (pl+1)) (sz - f))).length=sz+1:=by simp
  refine ⟨D,_,rfl,hB,by rw [hlen];omega,fun x hx=>?_,fun H4 s4=>?_⟩
  ·obtain ⟨f,hf',rfl⟩:=List.mem_map.mp hx
   have hf':=List.mem_range.mp hf'
   have hga:∃ a,w.reg a=some sh:=by
    have hai:as[pl]?=some (as[pl]'(by have:=hra.1;omega)):=List.getElem?_eq_getElem _
    exact ⟨_,hra.2 pl _ sh hai hsh⟩
   obtain ⟨a,hga⟩:=hga
   obtain ⟨_,_,_,_,_,hsma,_⟩:=W.at_ a sh hga
   exact ⟨hsma f (by omega),hsm _ _ (by omega)⟩
  have T4:=(T2.trans ((T3.mono (by omega)).b own.1)).same s4
  have T5:=T4.way (i:=pl) hg hDyy (by rw [own.2];exact hlt pl (by omega)) (by omega) (fun j h1 h2=>by rw [own.2];exact hge j (by omega))
  obtain ⟨P4,dt4,L4,as4,ws4,_,_,_,_,_,_,_,_,hwl4,hws4,_,_⟩:=W1 T3.wi hg (T3.tb T2.wi hg hT')
  have hwp4:ws4[pl]?=some (ws4[pl]'(by omega)):=List.getElem?_eq_getElem _
  obtain ⟨hD4,_,_,hy4⟩:=hws4 pl _ hwp4
  rw [T3.wi.inj _ _ _ hD4 hDyy,own.2,hlt pl (by omega)] at hy4
  have hy4:=s4 _ _ hy4
  refine ⟨yy,rfl,_,hy4,by rw [Ys];exact few (by omega),t3.setm p pl (sz+1),?_,fun j hj=>?_,fun j hj=>?_⟩
  ·have esum:(((List.range (sz+1)).map fun f=>(cnt w.bk sh f,YI w.bk (ps.drop (pl+1)) (sz - f))).map fun p=>p.1*p.2).sum=YI w.bk (ps.drop pl) sz:=by
    rw [List.drop_eq_getElem_cons (by omega:pl<ps.length),Wl,List.map_map]
    have:ps[pl]'(by omega)=sh:=by
     have:=List.getElem?_eq_getElem (l:=ps) (i:=pl) (by omega)
     rw [this] at hsh
     exact Option.some.inj hsh
    rw [this]
    rfl
   rw [esum,← Y2]
   exact T5
  ·show (if p=p∧pl≤j then _ else _)=_
   rw [if_pos ⟨rfl,by omega⟩]
  ·show (if p=p∧pl≤j then _ else _)=_
   rw [if_neg (by omega),own.2]
   exact hlt j (by omega)
 ·rintro σ H' ⟨t',o,rfl,T2,hge,hlt⟩
  walk_at "rd"
  have hall:∀ i,t'.ms p i=sz+1:=fun i=>hge i (by omega)
  exact q t' H' (T2.to hg (by omega) (by omega) (fun i=>by rw [hall,hall])) T2.own hall
theorem Z10 {k:Nat} {Z5 Z1 Z2 Z4 Z3 Z0:Addr} (R:g.RawM Z4 "ways_at" "RowTable.ways_at" Z0s ["self","place","left"]) (Z2m:g.Me k Z4 "add_size" ["self","size"] (Up (Cs.mk Z0 Z2 Z4 Z1 Z3) m)) (b_len:g.mg "len"=none) (Zm:Cls g.K Z4) (Zo:Ye g.K Z4 "parts") (Zl:Ye g.K Z4 "ways"):g.Me (k+1) Z4 "ways_at" ["self","place","left"] (W0 (Cs.mk Z0 Z2 Z4 Z1 Z3) (m+1)):=by
 refine R.me Z2j (fun vs H Q E h=>by obtain ⟨w,t,p,T,ps,pl,left,rfl,W,hg,hT,hpl,hl,hm1,q1,q2⟩:=h;rfl) fun f_ cdv A outer s H vs Q E hr h=>?_
 obtain ⟨w,t,p,T,ps,pl,left,rfl,W,hg,hT,hpl,hl,hm1,q1,q2⟩:=h
 refine ⟨_,(@Yg _ _ _ _ _ (@WA _ _ _ _ _ _ PassesOwn.never (@Yz _ _ _ _ _ _ _ _ V3 (@YX _ _ _ _ _ _ _ _ _ _ b_len YA (@Ya _ _ _ _ _ (@Yx _ _ _ _ _ _ _ YM (@Yw _ _ _ _ _ (pv 0) rfl) (@V2 _ _ _ _ _ _ Vp Yf) (fun _ _=>rfl)) Yd (by rfl)) (by decide +kernel) (by rfl) (by rfl) (by decide) (by decide) (by rfl) (by rfl)) (pv 2) (YD _)) (@Yi _ _ _ (@YZ _ _ _ _ (@YC _ _ _ _ _ _ _ _ _ _ _ _ _ _ _ _ Z2m Zm hr (pv 0) (@Ya _ _ _ _ _ (@YX _ _ _ _ _ _ _ _ _ _ b_len YA (@Ya _ _ _ _ _ (@Yx _ _ _ _ _ _ _ YM (@Yw _ _ _ _ _ (pv 0) rfl) (@V2 _ _ _ _ _ _ Vp Yf) (fun _ _=>rfl)) Yd (by rfl)) (by decide +kernel) (by rfl) (by rfl) (by decide) (by decide) (by rfl) (by rfl)) Yd (by rfl)) (by omega) (by rfl) (by rfl) (by rfl) (by rfl)) (by rfl)))) (@Yi _ _ _ (@Yo _ _ _ _ (@Yx _ _ _ _ _ _ _ YM (@Yx _ _ _ _ _ _ _ YM (@Yw _ _ _ _ _ (pv 0) rfl) (pv 1) (fun _ _=>rfl)) (pv 2) (fun _ _=>rfl))))),?_⟩
 obtain ⟨P,dt,L,as,ws,dT,dP,dL,hP,hra,hpl',hTT,hLL,hwl,hws,hsm,hdp⟩:=W1 W hg hT
 have hwk:ws[ps.length]?=some (ws[ps.length]'(by omega)):=List.getElem?_eq_getElem _
 generalize ws[ps.length]'(by omega)=y at hwk
 obtain ⟨hDy,hny,hm60,hy⟩:=hws ps.length y hwk
 have hwp:ws[pl]?=some (ws[pl]'(by omega)):=List.getElem?_eq_getElem _
 generalize ws[pl]'(by omega)=yp at hwp
 obtain ⟨hDp,hnp,hmp,hyp⟩:=hws pl yp hwp
 have hm1':atI (ws.map V.ref) (-1)=some (.ref y):=Yc0 (n:=ps.length) (by rw [List.length_map,hwl]) (by rw [List.getElem?_map,hwk];rfl)
 have hmp':atI (ws.map V.ref) (pl:Int)=some (.ref yp):=Yq (by rw [List.getElem?_map,hwp];rfl)
 walk_at "rd"
 by_cases cs:left<t.ms p ps.length
 ·refine Xw (α:=Unit) (fun x σ H'=>σ=[some (.ref T),some (.int pl),some (.int left)]∧H=H') (fun x=>false) (fun x=>0) () ⟨rfl,rfl⟩ ?_ ?_ ?_
  ·rintro x σ H' ⟨rfl,rfl⟩ R r
   walk_at "rd"
   refine ⟨_,_,_,hTT,Zm,Zl,_,XE _ _,L,rfl,_,SqL.of hLL,_,hm1',y,rfl,_,.inl (SqL.of hy),?_⟩
   rw [Ys,dle,decide_eq_false (by omega)]
   exact r H ⟨rfl,rfl⟩
  ·rintro x σ H' ⟨rfl,rfl⟩ hd
   cases hd
  ·rintro x σ H' ⟨rfl,rfl⟩ hd
   walk_at "rd"
   exact ⟨_,_,_,hTT,Zm,Zl,_,XE _ _,L,rfl,_,SqL.of hLL,_,hmp',yp,rfl,_,SqL.of hyp,_,Xk _ (q1 cs).1,(q1 cs).2⟩
 ·obtain ⟨hU,hln,hf,hR,q⟩:=q2 (by omega)
  have hms:∀ i,t.ms p i=left:=fun i=>by have:=hU i;have:=hU ps.length;omega
  have T0:∀ (x:Sw) (H':Hp),Tr (Cs.mk Z0 Z2 Z4 Z1 Z3) w t H x H' left (YH ps+2)→(∀ i,x.ms p i=left+1)→H' y=some (.lst (Yt (YI w.bk (ps.drop ps.length)) (left+1)))∧H' yp=some (.lst (Yt (YI w.bk (ps.drop pl)) (left+1))):=fun x H' T1 hx=>by
   obtain ⟨P2,dt2,L2,as2,ws2,_,_,_,_,_,_,_,_,hwl2,hws2,_,_⟩:=W1 T1.wi hg (T1.tb W hg hT)
   have h1:ws2[ps.length]?=some (ws2[ps.length]'(by omega)):=List.getElem?_eq_getElem _
   have h2:ws2[pl]?=some (ws2[pl]'(by omega)):=List.getElem?_eq_getElem _
   obtain ⟨k1,_,_,k4⟩:=hws2 _ _ h1
   obtain ⟨j1,_,_,j4⟩:=hws2 _ _ h2
   rw [T1.wi.inj _ _ _ k1 hDy,hx] at k4
   rw [T1.wi.inj _ _ _ j1 hDp,hx] at j4
   exact ⟨k4,j4⟩
  rw [hms] at hy
  refine Xw (α:=Bool×Sw) (fun x σ H'=>σ=[some (.ref T),some (.int pl),some (.int left)]∧(x.1=false→x.2=t∧H'=H)∧(x.1=true→Tr (Cs.mk Z0 Z2 Z4 Z1 Z3) w t H x.2 H' left (YH ps+2)∧x.2.ns p=t.ns p∧∀ i,x.2.ms p i=left+1)) (fun x => !x.1) (fun x=>if x.1 then 0 else 1) (false,t) ⟨rfl,fun _=>⟨rfl,rfl⟩,fun z=>by cases z⟩ ?_ ?_ ?_
  ·rintro ⟨b,x⟩ σ H' ⟨rfl,h1,h2⟩ R r
   have rr:=r H' ⟨rfl,h1,h2⟩
   walk_at "rd"
   cases b with
   | false =>
    obtain ⟨rfl,rfl⟩:=h1 rfl
    refine ⟨_,_,_,hTT,Zm,Zl,_,XE _ _,L,rfl,_,SqL.of hLL,_,hm1',y,rfl,_,.inl (SqL.of hy),?_⟩
    rw [Ys,dle,decide_eq_true (by omega)]
    exact rr
   | true =>
    obtain ⟨T1,_,hx⟩:=h2 rfl
    refine ⟨_,_,_,T1.fr _ _ dT hTT,Zm,Zl,_,XE _ _,L,rfl,_,SqL.of (T1.fr _ _ dL hLL),_,hm1',y,rfl,_,.inl (SqL.of (T0 x H' T1 hx).1),?_⟩
    rw [Ys,dle,decide_eq_false (by omega)]
    exact rr
  ·rintro ⟨b,x⟩ σ H' ⟨rfl,h1,h2⟩ hd
   cases b with
   | true=>cases hd
   | false =>
    obtain ⟨rfl,rfl⟩:=h1 rfl
    walk_at "rd"
    refine ⟨_,_,hTT,UE _ _ (by decide +kernel),_,_,_,hTT,Zm,Zl,_,XE _ _,L,rfl,_,SqL.of hLL,_,hm1',y,rfl,_,.inl (SqL.of hy),?_⟩
    rw [Ys]
    exact ⟨w,x,p,T,ps,left,rfl,W,hg,hT,hms,hl,hln,by omega,hR,fun t' H' T1 hn hx=>⟨(true,t'),(fun z=>by cases z),fun _=>⟨T1,hn,hx⟩,Nat.zero_lt_one⟩⟩
  ·rintro ⟨b,x⟩ σ H' ⟨rfl,h1,h2⟩ hd
   cases b with
   | false=>cases hd
   | true =>
    obtain ⟨T1,hn,hx⟩:=h2 rfl
    walk_at "rd"
    exact ⟨_,_,_,T1.fr _ _ dT hTT,Zm,Zl,_,XE _ _,L,rfl,_,SqL.of (T1.fr _ _ dL hLL),_,hmp',yp,rfl,_,SqL.of (T0 x H' T1 hx).2,_,Xk _ (by omega),q x H' T1 hn (fun i=>by rw [hx,hx]) (by rw [hx];omega)⟩
theorem YcA (c P T:Addr):(mf c (fR P T)).lookup ("table":Str)=some (.ref T):=by
 unfold mf fR
 rw [List.lookup_cons,show (("table":Str)==("counts":Str))=false by decide +kernel,List.lookup_cons,show (("table":Str)==("parts":Str))=false by decide +kernel,List.lookup_cons,show (("table":Str)==("table":Str))=true by decide +kernel]
theorem Z0V {k:Nat} {Z5 Z1 Z2 Z4 Z3 Z0:Addr} (R:g.RawM Z2 "reckoned" "RowMaker.reckoned" Z0h ["self","size"]) (Z0t:g.Me k Z4 "ways_at" ["self","place","left"] (W0 (Cs.mk Z0 Z2 Z4 Z1 Z3) m)) (Zh:Cls g.K Z2) (Z8:Ye g.K Z2 "counts") (Zk:Ye g.K Z2 "parts") (Zi:Ye g.K Z2 "table") (Zm:Cls g.K Z4) (Zo:Ye g.K Z4 "parts") (Zl:Ye g.K Z4 "ways"):g.Me (k+1) Z2 "reckoned" ["self","size"] (Xl (Cs.mk Z0 Z2 Z4 Z1 Z3) 2 (m+1)):=by
 refine R.me Z1Z (fun vs H Q E h=>by obtain ⟨w,t,p,sh,sz,rfl,hk,W,hg,hn,hs,hf,hR,q⟩:=h;rfl) fun f_ cdv A outer s H vs Q E hr h=>?_
 obtain ⟨w,t,p,sh,sz,rfl,hk,W,hg,hn,hs,hf,hR,q⟩:=h
 refine ⟨_,(@Yi _ _ _ (@Yo _ _ _ _ (@YC _ _ _ _ _ _ _ _ _ _ _ _ _ _ _ _ Z0t Zm hr (@Yw _ _ _ _ _ (pv 0) rfl) (@Ya _ _ _ _ _ Yf (@Ya _ _ _ _ _ (pv 1) Yd (by rfl)) (by rfl)) (by omega) (by rfl) (by rfl) (by rfl) (by rfl)))),?_⟩
 cases sh with
 | row ps =>
  obtain ⟨dx,c,fs,hU,hd,hsm,hns,hp,hDc,hc,hsub⟩:=W.at_ p _ hg
  obtain ⟨P,T,dt,L,as,ws,rfl,h2,h3,h4,h5,h6,h7,h8,h9,h10,h11,h12⟩:=hsub
  have hT:Tb (Cs.mk Z0 Z2 Z4 Z1 Z3) H p T:=⟨dx,c,P,hp⟩
  have hdr:dep (.row ps)=YH ps+1:=by rw [dep]
  rw [hdr] at hf hR
  have hUni:Uni t p:=hR p _ hg (by rw [hn,bnd,if_pos (by omega)];omega)
  have hwk:ws[ps.length]?=some (ws[ps.length]'(by omega)):=List.getElem?_eq_getElem _
  obtain ⟨_,hnk,_,_⟩:=h11 _ _ hwk
  have hw0:ws[0]?=some (ws[0]'(by omega)):=List.getElem?_eq_getElem _
  obtain ⟨_,hn0,_,_⟩:=h11 _ _ hw0
  walk_at "rd"
  refine ⟨_,_,_,hp,Zh,Zi,_,YcA _ _ _,T,rfl,_,_,h8,UE _ _ (by decide +kernel),w,t,p,T,ps,0,sz,rfl,W,hg,hT,by omega,hs,by omega,fun h=>⟨by rw [← hUni ps.length];exact h,?_⟩,fun h=>⟨hUni,by omega,by omega,hR.mono (by omega),fun t' H' T1 hn' hU' hl'=>?_⟩⟩
  ·have:=q t H (.refl W _ _) hn fun ps' z i=>by
    have:=Sh.row.inj z
    subst this
    rw [hUni i,← hUni ps.length];omega
   rw [Wx] at this
   exact this
  ·have hful:∀ i,sz+1≤t'.ms p i:=fun i=>by
    rw [hU' i];exact hl'
   have:=q t' H' (by rw [hdr];exact T1) (by omega) fun ps' z i=>hful i
   rw [Wx] at this
   exact this
 | _=>simp [kind] at hk
def Z1j (C:Cs) (l:Nat):Sp:=fun vs H Q _=>∃ (w:Wo) (t:Sw) (p:Addr) (mk:List (List Nat)) (ps:List Sh) (sz:Nat),vs=[.ref p,.int sz]∧WI C w t H∧w.reg p=some (.pick mk ps)∧sz≤40∧sz≤t.ns p∧fu w sz (YH ps+1)+3≤l∧Xa w t sz (YH ps+1) ∧
 ∀ D t' H',Tr C w t H t' H' sz (YH ps+1)→H D=none→¬ t'.U D→Blk H' D (ps.map fun sh=>(cnt w.bk sh sz,1))→Q (.ref D) H'
theorem Ya2 {C:Cs} {vs:List V} {H:Hp} {Q:VK} {E:XK} (h:Z1j C 0 vs H Q E):False:=by
 obtain ⟨w,t,p,mk,ps,sz,_,_,_,_,_,h,_⟩:=h
 omega
theorem YbT (c M P:Addr):(mf c (fP M P)).lookup ("parts":Str)=some (.ref P):=by
 unfold mf fP
 rw [List.lookup_cons,show (("parts":Str)==("counts":Str))=false by decide +kernel,List.lookup_cons,show (("parts":Str)==("marks":Str))=false by decide +kernel,List.lookup_cons,show (("parts":Str)==("parts":Str))=true by decide +kernel]
theorem Vf (c:Addr) (a:V):(mf c (fU a)).lookup ("named":Str)=some a:=by
 unfold mf fU
 rw [List.lookup_cons,show (("named":Str)==("counts":Str))=false by decide +kernel,List.lookup_cons,show (("named":Str)==("named":Str))=true by decide +kernel]
theorem or4 {A0 A1 A2 A3 B0 B1 B2 B3:Prop} (f0:A0→B0) (f1:A1→B1) (f2:A2→B2) (f3:A3→B3) (h:A0∨A1∨A2∨A3):B0∨B1∨B2∨B3:=by
 rcases h with h | h | h | h
 ·exact .inl (f0 h)
 ·exact .inr (.inl (f1 h))
 ·exact .inr (.inr (.inl (f2 h)))
 ·exact .inr (.inr (.inr (f3 h)))
theorem Z0W {k:Nat} {Z5 Z1 Z2 Z4 Z3 Z0:Addr} (R:g.RawM Z3 "reckoned" "UseMaker.reckoned" Z0j ["self","size"]) (Zt:g.Me k Z0 "count_at" ["self","size"] (Zr (Cs.mk Z0 Z2 Z4 Z1 Z3) 0 m)) (Zv:g.Me k Z2 "count_at" ["self","size"] (Zr (Cs.mk Z0 Z2 Z4 Z1 Z3) 2 m)) (Zu:g.Me k Z1 "count_at" ["self","size"] (Zr (Cs.mk Z0 Z2 Z4 Z1 Z3) 3 m)) (Zw:g.Me k Z3 "count_at" ["self","size"] (Zr (Cs.mk Z0 Z2 Z4 Z1 Z3) 5 m)) (Zc:Cls g.K Z1) (Z7:Ye g.K Z1 "counts") (Zg:Ye g.K Z1 "marks") (Zf:Ye g.K Z1 "parts") (Zh:Cls g.K Z2) (Z8:Ye g.K Z2 "counts") (Zk:Ye g.K Z2 "parts") (Zi:Ye g.K Z2 "table") (Zd:Cls g.K Z3) (Z9:Ye g.K Z3 "counts") (Zb:Ye g.K Z3 "named") (Za:Cls g.K Z0) (Z6:Ye g.K Z0 "counts") (Zj:Ye g.K Z0 "low") (Ze:Ye g.K Z0 "span"):g.Me (k+1) Z3 "reckoned" ["self","size"] (Xl (Cs.mk Z0 Z2 Z4 Z1 Z3) 5 (m+1)):=by
 refine R.me Z21 (fun vs H Q E h=>by obtain ⟨w,t,p,sh,sz,rfl,hk,W,hg,hn,hs,hf,hR,q⟩:=h;rfl) fun f_ cdv A outer s H vs Q E hr h=>?_
 obtain ⟨w,t,p,sh,sz,rfl,hk,W,hg,hn,hs,hf,hR,q⟩:=h
 refine ⟨_,(@Yi _ _ _ (@Yo _ _ _ _ (@Qk _ _ _ _ _ _ _ _ (@Yz _ _ _ _ _ _ _ _ Xh (pv 1) Yf (YD _)) Yf (@YO _ _ _ _ (@YC _ _ _ _ _ _ _ _ _ _ _ _ _ _ _ _ Zt Za hr (@Yw _ _ _ _ _ (pv 0) rfl) (@Ya _ _ _ _ _ (@Yk _ _ _ _ _ _ _ _ Xb (pv 1) Yf) Yd (by rfl)) (by omega) (by rfl) (by rfl) (by rfl) (by rfl)) (@YO _ _ _ _ (@YC _ _ _ _ _ _ _ _ _ _ _ _ _ _ _ _ Zv Zh hr (@Yw _ _ _ _ _ (pv 0) rfl) (@Ya _ _ _ _ _ (@Yk _ _ _ _ _ _ _ _ Xb (pv 1) Yf) Yd (by rfl)) (by omega) (by rfl) (by rfl) (by rfl) (by rfl)) (@YO _ _ _ _ (@YC _ _ _ _ _ _ _ _ _ _ _ _ _ _ _ _ Zu Zc hr (@Yw _ _ _ _ _ (pv 0) rfl) (@Ya _ _ _ _ _ (@Yk _ _ _ _ _ _ _ _ Xb (pv 1) Yf) Yd (by rfl)) (by omega) (by rfl) (by rfl) (by rfl) (by rfl)) (@YC _ _ _ _ _ _ _ _ _ _ _ _ _ _ _ _ Zw Zd hr (@Yw _ _ _ _ _ (pv 0) rfl) (@Ya _ _ _ _ _ (@Yk _ _ _ _ _ _ _ _ Xb (pv 1) Yf) Yd (by rfl)) (by omega) (by rfl) (by rfl) (by rfl) (by rfl)))))))),?_⟩
 cases sh with
 | use x =>
  obtain ⟨dx,c,fs,hU,hd,hsm,hns,hp,hDc,hc,hsub⟩:=W.at_ p _ hg
  obtain ⟨a,rfl,hga⟩:=hsub
  have hdr:dep (.use x)=0:=by simp [dep]
  rw [hdr] at hf hR
  walk_at "rd"
  refine W8 (fun c=>?_) (fun c=>?_)
  ·have e:sz=0:=by omega
   subst e
   have:=q t H (.refl W _ _) hn (fun ps z=>by cases z)
   rw [Wb] at this
   exact this
  ·obtain ⟨j,rfl⟩:∃ j,sz=j+1:=⟨sz - 1,by omega⟩
   obtain ⟨_,_,_,_,hda,_⟩:=W.at_ a _ hga
   have fm:fu w j (dep (w.bk x))+5≤fu w (j+1) 0:=UD hda (by omega)
   rw [show ((j+1:Nat):Int) - 1=(j:Int) by omega]
   refine or4 (fun h=>⟨_,_,_,hp,Zd,Zb,_,Vf _ _,a,rfl,h⟩) (fun h=>⟨_,_,_,hp,Zd,Zb,_,Vf _ _,a,rfl,h⟩) (fun h=>⟨_,_,_,hp,Zd,Zb,_,Vf _ _,a,rfl,h⟩) (fun h=>⟨_,_,_,hp,Zd,Zb,_,Vf _ _,a,rfl,h⟩) ?_
   refine Ve W hga (by omega) (by omega) (hR.mono (by omega)) fun t2 H2 T2 hn2=>?_
   have T3:Tr (Cs.mk Z0 Z2 Z4 Z1 Z3) w t H t2 H2 (j+1) 0:=T2.mono (by omega)
   have own:=T3.own hg (by omega) (by omega)
   have:=q t2 H2 (T3.mono (by omega)) (by omega) (fun ps z=>by cases z)
   rw [Wy] at this
   exact this
 | _=>simp [kind] at hk
theorem Z0E {k:Nat} {Z5 Z1 Z2 Z4 Z3 Z0:Addr} (R:g.RawM Z1 "blocks_at" "PickMaker.blocks_at" Z00 ["self","size"]) (Zt:g.Me k Z0 "count_at" ["self","size"] (Zr (Cs.mk Z0 Z2 Z4 Z1 Z3) 0 m)) (Zv:g.Me k Z2 "count_at" ["self","size"] (Zr (Cs.mk Z0 Z2 Z4 Z1 Z3) 2 m)) (Zu:g.Me k Z1 "count_at" ["self","size"] (Zr (Cs.mk Z0 Z2 Z4 Z1 Z3) 3 m)) (Zw:g.Me k Z3 "count_at" ["self","size"] (Zr (Cs.mk Z0 Z2 Z4 Z1 Z3) 5 m)) (Zc:Cls g.K Z1) (Z7:Ye g.K Z1 "counts") (Zg:Ye g.K Z1 "marks") (Zf:Ye g.K Z1 "parts") (Zh:Cls g.K Z2) (Z8:Ye g.K Z2 "counts") (Zk:Ye g.K Z2 "parts") (Zi:Ye g.K Z2 "table") (Zd:Cls g.K Z3) (Z9:Ye g.K Z3 "counts") (Zb:Ye g.K Z3 "named") (Za:Cls g.K Z0) (Z6:Ye g.K Z0 "counts") (Zj:Ye g.K Z0 "low") (Ze:Ye g.K Z0 "span"):g.Me (k+1) Z1 "blocks_at" ["self","size"] (Z1j (Cs.mk Z0 Z2 Z4 Z1 Z3) (m+1)):=by
 refine R.me Z1A (fun vs H Q E h=>by obtain ⟨w,t,p,mk,ps,sz,rfl,W,hg,hs,hsn,hf,hR,q⟩:=h;rfl) fun f_ cdv A outer s H vs Q E hr h=>?_
 obtain ⟨w,t,p,mk,ps,sz,rfl,W,hg,hs,hsn,hf,hR,q⟩:=h
 refine ⟨_,(@Yi _ _ _ (@Yo _ _ _ _ (@Wh _ _ _ _ _ _ _ ([none,some 1]) ((["part","size"]:List Str)) _ (Yv 0) _ _ (.own (.cap (i:=1) rfl rfl (by first | exact .inl rfl | exact .inr rfl) .nil)) rfl (@Xr _ _ _ _ (@Yw _ _ _ _ _ (pv 0) rfl)) (fun cl C s₀ H₀ fp pn=>(@Yn _ _ (0) _ (show List.Nodup (["part","size"]:List Str) by decide +kernel) rfl (.inl rfl) (.inr rfl))) (fun cl C s₀ H₀ fp pn=>Xj) (fun cl C s₀ H₀ fp pn=>(@Xs _ _ _ _ _ (@Ya _ _ _ _ _ (@YO _ _ _ _ (@YC _ _ _ _ _ _ _ _ _ _ _ _ _ _ _ _ Zt Za hr (pv 0) (@Ya _ _ _ _ _ (pv 1) Yd (by rfl)) (by omega) (by rfl) (by rfl) (by rfl) (by rfl)) (@YO _ _ _ _ (@YC _ _ _ _ _ _ _ _ _ _ _ _ _ _ _ _ Zv Zh hr (pv 0) (@Ya _ _ _ _ _ (pv 1) Yd (by rfl)) (by omega) (by rfl) (by rfl) (by rfl) (by rfl)) (@YO _ _ _ _ (@YC _ _ _ _ _ _ _ _ _ _ _ _ _ _ _ _ Zu Zc hr (pv 0) (@Ya _ _ _ _ _ (pv 1) Yd (by rfl)) (by omega) (by rfl) (by rfl) (by rfl) (by rfl)) (@YC _ _ _ _ _ _ _ _ _ _ _ _ _ _ _ _ Zw Zd hr (pv 0) (@Ya _ _ _ _ _ (pv 1) Yd (by rfl)) (by omega) (by rfl) (by rfl) (by rfl) (by rfl))))) (@Ya _ _ _ _ _ Yf Yd (by rfl)) (by rfl)))) (by intro x hx;simp at hx;first | (subst hx;exact .inl rfl) | (rcases hx with rfl | rfl<;>exact .inl rfl) | (rcases hx with rfl | rfl | rfl<;>exact .inl rfl) | (rcases hx with rfl | rfl | rfl | rfl<;>exact .inl rfl) | (rcases hx with rfl | rfl | rfl | rfl | rfl<;>exact .inl rfl)) (by rfl) (by decide) (by decide +kernel) (by intro _;rfl)))),?_⟩
 walk_at "rd"
 obtain ⟨dx,c,fs,hU,hd,hsm,hns,hp,hDc,hc,hsub⟩:=W.at_ p _ hg
 obtain ⟨M,P,as,rfl,h2,h3,h4,h5,h6,h7⟩:=hsub
 have hdr:dep (.pick mk ps)=YH ps+1:=by rw [dep]
 have hal:=h6.1
 refine YbK (K:=g.K) (b:=P) (xs:=as.map V.ref) (fun D i zs H'=>∃ t',Tr (Cs.mk Z0 Z2 Z4 Z1 Z3) w t H t' H' sz (YH ps+1)∧zs.length=i∧H' D=some (.lst zs)∧¬ t'.U D∧∀ (j:Nat) x q,zs[j]?=some x→ps[j]?=some q→∃ T,x = .ref T∧w.D T=none∧¬ t'.U T∧T≠D∧H' T=some (.tup [.int (cnt w.bk q sz),.int 1])) (fun R r=>by walk_at "rd";exact ⟨_,_,_,hp,Zc,Zf,_,YbT _ _ _,r⟩) (SqL.of h5) (by rw [List.length_map];omega) ?_ ?_ ?_ ?_
 ·intro D hD
  exact ⟨t,(Tr.refl W _ _).put hD (W.new hD).2 _,rfl,Yc,(W.new hD).2,fun j x q hx=>by simp at hx⟩
 ·rintro D i zs H' hD ⟨t',T1,h1,h2',_⟩
  exact ⟨h1,h2',SqL.of (T1.fr _ _ h3.1 h5)⟩
 ·rintro D i x zs H' hD hx ⟨t',T1,hz,hd',hUD,hts⟩ R r
  rw [List.getElem?_map] at hx
  obtain ⟨a,ha,rfl⟩:=Option.map_eq_some_iff.mp hx
  have hi:=(List.getElem?_eq_some_iff.mp ha).1
  have hpi:ps[i]?=some (ps[i]'(by omega)):=List.getElem?_eq_getElem _
  generalize ps[i]'(by omega)=sh at hpi
  have hga:=h6.2 i a sh ha hpi
  have hds:dep sh≤YH ps:=WZ (List.mem_of_getElem? hpi)
  have fm:fu w sz (dep sh)+5≤fu w sz (YH ps+1):=UD (by omega) (by omega)
  have dD:w.D D=none:=(W.new hD).1
  walk_at "rd"
  refine Ve T1.wi hga (by omega) (by omega) ((T1.ready hR).mono (by omega)) fun t2 H2 T2 hn2=>⟨few (by decide),fun X gX=>?_⟩
  have T12:=T1.trans (T2.mono (by omega))
  have hd2:=T2.fr _ _ dD hd'
  have hUD2:=T2.ours hUD hd'
  have nXD:X≠D:=Ne.symm (Yh hd2 gX)
  have sX:=Yl.upd_new gX (.tup [.int (cnt w.bk sh sz),.int 1])
  refine r _ _ (sX _ _ hd2) ⟨t2,(T12.same sX).put hD hUD2 _,by rw [List.length_append,hz];rfl,Yc,hUD2,fun j x q hx hq=>?_⟩
  by_cases c:j<zs.length
  ·rw [List.getElem?_append_left c] at hx
   obtain ⟨Y,rfl,y1,y2,y3,y4⟩:=hts j x q hx hq
   exact ⟨Y,rfl,y1,T2.ours y2 y4,y3,by rw [Yb y3];exact sX _ _ (T2.fr _ _ y1 y4)⟩
  ·have hj:j=zs.length:=by
    have:=(List.getElem?_eq_some_iff.mp hx).1
    rw [List.length_append,List.length_singleton] at this
    omega
   subst hj
   rw [List.getElem?_append_right (Nat.le_refl _),Nat.sub_self] at hx
   have:V.ref X=x:=Option.some.inj hx
   subst this
   rw [hz,hpi] at hq
   have:=Option.some.inj hq
   subst this
   exact ⟨X,rfl,(T2.wi.new gX).1,(T2.wi.new gX).2,nXD,by rw [Yb nXD,Yc]⟩
 ·rintro D zs H' hD ⟨t',T1,hz,hd',hUD,hts⟩
  rw [List.length_map] at hz
  refine q D t' H' T1 hD hUD ⟨zs,hd',by rw [hz,List.length_map,hal],fun j x y hx hy=>?_⟩
  have hj:=(List.getElem?_eq_some_iff.mp hx).1
  rw [List.getElem?_map] at hy
  obtain ⟨q',hq',rfl⟩:=Option.map_eq_some_iff.mp hy
  obtain ⟨X,rfl,_,_,_,hX⟩:=hts j x q' hx hq'
  exact ⟨X,rfl,hX⟩
theorem Z0N {k:Nat} {Z5 Z1 Z2 Z4 Z3 Z0:Addr} (R:g.RawM Z1 "reckoned" "PickMaker.reckoned" Z06 ["self","size"]) (Z2B:g.Fn k "ways_of" ["blocks"] (Z25 g.K)) (Z1N:g.Me k Z1 "blocks_at" ["self","size"] (Z1j (Cs.mk Z0 Z2 Z4 Z1 Z3) m)) (Zc:Cls g.K Z1) (Z7:Ye g.K Z1 "counts") (Zg:Ye g.K Z1 "marks") (Zf:Ye g.K Z1 "parts"):g.Me (k+1) Z1 "reckoned" ["self","size"] (Xl (Cs.mk Z0 Z2 Z4 Z1 Z3) 3 (m+1)):=by
 refine R.me Z1K (fun vs H Q E h=>by obtain ⟨w,t,p,sh,sz,rfl,hk,W,hg,hn,hs,hf,hR,q⟩:=h;rfl) fun f_ cdv A outer s H vs Q E hr h=>?_
 obtain ⟨w,t,p,sh,sz,rfl,hk,W,hg,hn,hs,hf,hR,q⟩:=h
 refine ⟨_,(@Yi _ _ _ (@Yo _ _ _ _ (@YE _ _ _ _ _ _ _ _ _ _ _ _ Z2B hr (@Ya _ _ _ _ _ (@YC _ _ _ _ _ _ _ _ _ _ _ _ _ _ _ _ Z1N Zc hr (pv 0) (@Ya _ _ _ _ _ (pv 1) Yd (by rfl)) (by omega) (by rfl) (by rfl) (by rfl) (by rfl)) Yd (by rfl)) (by omega) (by rfl) (by rfl) (by decide) (by rfl) (by rfl)))),?_⟩
 cases sh with
 | pick mk ps =>
  obtain ⟨dx,c,fs,hU,hd,hsm,hns,hp,hDc,hc,hsub⟩:=W.at_ p _ hg
  have hno:=fun {m:Str} (h:isF m=false)=>WL (c:=c) h hsub
  obtain ⟨M,P,as,rfl,h2,h3,h4,h5,h6,h7⟩:=hsub
  have hdr:dep (.pick mk ps)=YH ps+1:=by rw [dep]
  rw [hdr] at hf hR
  walk_at "rd"
  refine ⟨_,_,hp,hno (by decide +kernel),w,t,p,mk,ps,sz,rfl,W,hg,hs,by omega,by omega,hR.mono (by omega),fun D t' H' T1 gD hUD hB=>?_⟩
  refine ⟨D,_,rfl,hB,by rw [List.length_map];omega,fun x hx=>?_,fun H4 s4=>?_⟩
  ·obtain ⟨q',hq',rfl⟩:=List.mem_map.mp hx
   obtain ⟨i,hi,rfl⟩:=List.getElem_of_mem hq'
   have hai:as[i]?=some (as[i]'(by have:=h6.1;omega)):=List.getElem?_eq_getElem _
   have hga:=h6.2 i _ _ hai (List.getElem?_eq_getElem hi)
   obtain ⟨_,_,_,_,_,hsma,_⟩:=W.at_ _ _ hga
   exact ⟨hsma _ (by omega),1,by decide,(by decide:(1:Int).natAbs<2^1)⟩
  ·have own:=T1.own hg (by omega) (by omega)
   have:=q t' H4 (by rw [hdr];exact (T1.mono (by omega)).same s4) (by omega) (fun ps z=>by cases z)
   rw [WH] at this
   rw [List.map_map,show ((fun p=>p.1*p.2) ∘ fun sh=>(cnt w.bk sh sz,(1:Int)))=fun sh=>cnt w.bk sh sz by funext z;exact Int.mul_one _]
   exact this
 | _=>simp [kind] at hk
abbrev Prs:=List (List Nat×Sh)
def bkO (prs:Prs) (x:List Nat):Sh:=((prs.find? fun q=>decide (q.1=x)).map (·.2)).getD (.row [])
mutual
def okS (prs:Prs):Sh→Prop
 | .w _ _=>True
 | .row ps=>ps.length≤100∧Xo prs ps
 | .pick mk ps=>mk.length=ps.length∧ps.length≤100∧Xo prs ps
 | .use x=>∃ q,(prs.find? fun q=>decide (q.1=x))=some q
def Xo (prs:Prs):List Sh→Prop
 | []=>True
 | p::ps=>okS prs p∧Xo prs ps
end
theorem UF {prs:Prs} {p:Sh}:∀ {ps:List Sh},Xo prs ps→p∈ps→okS prs p
 | q::ps,h,hm=>by
  rw [Xo] at h
  rcases List.mem_cons.mp hm with rfl | hm
  ·exact h.1
  ·exact UF h.2 hm
theorem QD {prs:Prs}:∀ {ps:List Sh} (i:Nat),Xo prs ps→Xo prs (ps.drop i)
 | _,0,h=>h
 | [],i+1,h=>h
 | q::ps,i+1,h=>by
  rw [Xo] at h
  exact QD i h.2
mutual
def wt:Sh→Nat
 | .row ps=>wts ps+1
 | .pick _ ps=>wts ps+1
 | _=>1
def wts:List Sh→Nat
 | []=>0
 | p::ps=>wt p+wts ps
end
theorem W2 (sh:Sh):1≤wt sh:=by cases sh<;>simp [wt]
theorem QE:∀ (ps:List Sh) (i:Nat),wts (ps.drop i)≤wts ps
 | _,0=>Nat.le_refl _
 | [],i+1=>Nat.le_refl _
 | q::ps,i+1=>by
  have:=QE ps i
  rw [List.drop_succ_cons,wts]
  omega
theorem Vb {a b:List Nat} (h:S a=S b):a=b:=by
 unfold S at h
 injection h with h
 have:=congrArg Array.toList h
 simpa using this
def kdm:PyData→Str
 | .tuple (.str x::_)=>x
 | _=>""
mutual
theorem QF {prs:Prs}:∀ {a b:Sh},okS prs a→okS prs b→kd a=kd b→a=b
 | .w lo span,.w lo' span',_,_,h=>by
  simp only [kd,PyData.tuple.injEq,List.cons.injEq,PyData.int.injEq,and_true,true_and] at h
  obtain ⟨rfl,h⟩:=h
  have:span=span':=by omega
  rw [this]
 | .row ps,.row ps',h1,h2,h=>by
  simp only [kd,PyData.tuple.injEq,List.cons.injEq,and_true,true_and] at h
  rw [okS] at h1 h2
  rw [Yak h1.2 h2.2 h]
 | .pick mk ps,.pick mk' ps',h1,h2,h=>by
  simp only [kd,PyData.tuple.injEq,List.cons.injEq,and_true,true_and] at h
  rw [okS] at h1 h2
  obtain ⟨e1,e2⟩:=Yal h1.1 h2.1 h1.2.2 h2.2.2 h
  rw [e1,e2]
 | .use x,.use x',_,_,h=>by
  simp only [kd,PyData.tuple.injEq,List.cons.injEq,PyData.str.injEq,and_true,true_and] at h
  rw [Vb h]
 | .w _ _,.row _,_,_,h=>absurd (congrArg kdm h) (by simp only [kd,kdm];decide +kernel)
 | .w _ _,.pick _ _,_,_,h=>absurd (congrArg kdm h) (by simp only [kd,kdm];decide +kernel)
 | .w _ _,.use _,_,_,h=>absurd (congrArg kdm h) (by simp only [kd,kdm];decide +kernel)
 | .row _,.w _ _,_,_,h=>absurd (congrArg kdm h) (by simp only [kd,kdm];decide +kernel)
 | .row _,.pick _ _,_,_,h=>absurd (congrArg kdm h) (by simp only [kd,kdm];decide +kernel)
 | .row _,.use _,_,_,h=>absurd (congrArg kdm h) (by simp only [kd,kdm];decide +kernel)
 | .pick _ _,.w _ _,_,_,h=>absurd (congrArg kdm h) (by simp only [kd,kdm];decide +kernel)
 | .pick _ _,.row _,_,_,h=>absurd (congrArg kdm h) (by simp only [kd,kdm];decide +kernel)
 | .pick _ _,.use _,_,_,h=>absurd (congrArg kdm h) (by simp only [kd,kdm];decide +kernel)
 | .use _,.w _ _,_,_,h=>absurd (congrArg kdm h) (by simp only [kd,kdm];decide +kernel)
 | .use _,.row _,_,_,h=>absurd (congrArg kdm h) (by simp only [kd,kdm];decide +kernel)
 | .use _,.pick _ _,_,_,h=>absurd (congrArg kdm h) (by simp only [kd,kdm];decide +kernel)
theorem Yak {prs:Prs}:∀ {a b:List Sh},Xo prs a→Xo prs b→kds a=kds b→a=b
 | [],[],_,_,_=>rfl
 | p::ps,q::qs,h1,h2,h=>by
  rw [kds,kds] at h
  rw [Xo] at h1 h2
  injection h with e1 e2
  rw [QF h1.1 h2.1 e1,Yak h1.2 h2.2 e2]
 | [],_::_,_,_,h=>by simp [kds] at h
 | _::_,[],_,_,h=>by simp [kds] at h
theorem Yal {prs:Prs}:∀ {mk mk':List (List Nat)} {a b:List Sh},mk.length=a.length→mk'.length=b.length→Xo prs a→Xo prs b→kdp mk a=kdp mk' b→mk=mk'∧a=b
 | [],[],[],[],_,_,_,_,_=>⟨rfl,rfl⟩
 | m::mk,m'::mk',p::ps,q::qs,l1,l2,h1,h2,h=>by
  rw [kdp,kdp] at h
  rw [Xo] at h1 h2
  injection h with e1 e2
  simp only [PyData.tuple.injEq,List.cons.injEq,PyData.str.injEq,and_true] at e1
  obtain ⟨r1,r2⟩:=Yal (by simpa using l1) (by simpa using l2) h1.2 h2.2 e2
  rw [Vb e1.1,QF h1.1 h2.1 e1.2,r1,r2]
  exact ⟨rfl,rfl⟩
 | [],_,_::_,_,l,_,_,_,_=>by simp at l
 | _::_,_,[],_,l,_,_,_,_=>by simp at l
 | _,[],_,_::_,_,l,_,_,_=>by simp at l
 | _,_::_,_,[],_,l,_,_,_=>by simp at l
 | [],_::_,[],_::_,_,_,_,_,h=>by simp [kdp] at h
 | _::_,[],_::_,[],_,_,_,_,h=>by simp [kdp] at h
end
theorem YbU {B:Int}:∀ {l:List Int},(∀ x∈l,0≤x∧x≤B)→0≤l.sum∧l.sum≤l.length*B
 | [],_=>by simp
 | a::l,h=>by
  obtain ⟨h1,h2⟩:=h a (.head _)
  obtain ⟨h3,h4⟩:=YbU (l:=l) fun x hx=>h x (.tail _ hx)
  rw [List.sum_cons,List.length_cons,Int.natCast_succ,Int.add_mul]
  omega
theorem Yed {a b:Int} {x y:Nat} (h1:0≤a) (h2:a≤2^x) (h3:0≤b) (h4:b≤2^y):0≤a*b∧a*b≤2^(x+y):=by
 refine ⟨Int.mul_nonneg h1 h3,?_⟩
 rw [Int.pow_add]
 exact Int.mul_le_mul h2 h4 h3 (Int.le_of_lt (Int.pow_pos (by decide)))
theorem Wv {a b:Nat} (h:a≤b):(2:Int)^a≤2^b:=by
 have:(2:Nat)^a≤2^b:=Nat.pow_le_pow_right (by decide) h
 exact_mod_cast this
theorem Yee {n x:Nat} (h:n≤64):(n:Int)*2^x≤2^(6+x):=by
 rw [Int.pow_add]
 exact Int.mul_le_mul_of_nonneg_right (by omega) (Int.le_of_lt (Int.pow_pos (by decide)))
theorem YcB (span:Nat) (s:Nat):0≤wc span s∧wc span s≤2^s:=by
 have p:(0:Int)<2^s:=Int.pow_pos (by decide)
 unfold wc
 split
 ·split<;>omega
 ·omega
structure okB (prs:Prs):Prop where
 len:prs.length≤3
 ok:∀ q∈prs,okS prs q.2
 wt:∀ q∈prs,wt q.2≤24
 dp:∀ q∈prs,dep q.2≤2
theorem Wz {prs:Prs} {x:List Nat} {q:List Nat×Sh} (h:(prs.find? fun q=>decide (q.1=x))=some q):bkO prs x=q.2∧q∈prs:=by
 rw [bkO,h]
 exact ⟨rfl,List.mem_of_find?_eq_some h⟩
mutual
theorem Uq (prs:Prs) (ob:okB prs):∀ (sh:Sh) (s:Nat),s≤45→okS prs sh→wt sh≤1000→0≤cnt (bkO prs) sh s∧cnt (bkO prs) sh s≤2^(12100*s+(12*wt sh - 6))
 | .w lo span,s,hs,h,hw=>by
  have wp:=W2 (.w lo span)
  rw [Um]
  obtain ⟨h1,h2⟩:=YcB span s
  exact ⟨h1,Int.le_trans h2 (Wv (by omega))⟩
 | .row ps,s,hs,h,hw=>by
  rw [okS] at h
  rw [wt] at hw ⊢
  rw [Wx]
  obtain ⟨h1,h2⟩:=UG prs ob ps s hs h.2 (by omega)
  exact ⟨h1,Int.le_trans h2 (Wv (by omega))⟩
 | .pick mk ps,s,hs,h,hw=>by
  rw [okS] at h
  rw [wt] at hw ⊢
  rw [WH]
  obtain ⟨h1,h2⟩:=Yam prs ob ps s hs h.2.2 (by omega)
  exact ⟨h1,Int.le_trans h2 (Wv (by omega))⟩
 | .use x,0,hs,h,hw=>by
  rw [Wb]
  exact ⟨Int.le_refl _,Int.le_of_lt (Int.pow_pos (by decide))⟩
 | .use x,s+1,hs,h,hw=>by
  rw [okS] at h
  obtain ⟨q,hq⟩:=h
  obtain ⟨eb,hm⟩:=Wz hq
  have w1:=ob.wt q hm
  rw [Wy,eb]
  obtain ⟨h1,h2⟩:=Uq prs ob q.2 s (by omega) (ob.ok q hm) (by omega)
  exact ⟨h1,Int.le_trans h2 (Wv (by omega))⟩
termination_by sh s=>(s,sizeOf sh)
decreasing_by
 all_goals simp only [Prod.lex_def]
 all_goals first | (right;exact ⟨trivial,by simp;omega⟩) | (right;exact ⟨rfl,by simp;omega⟩) | (right;exact ⟨trivial,by simp⟩) | (left;omega) | (by_cases c:f<s;(left;exact c);(right;exact ⟨by omega,by simp;omega⟩)) | (by_cases c:s - f<s;(left;exact c);(right;exact ⟨by omega,by simp;omega⟩)) | (right;simp) | (right;simp;omega)
theorem UG (prs:Prs) (ob:okB prs):∀ (ps:List Sh) (s:Nat),s≤45→Xo prs ps→wts ps≤1000→0≤YI (bkO prs) ps s∧YI (bkO prs) ps s≤2^(12100*s+12*wts ps)
 | [],s,hs,h,hw=>by
  rw [WJ]
  split
  ·exact ⟨by decide,Int.le_trans (by decide:(1:Int)≤2^0) (Wv (Nat.zero_le _))⟩
  ·exact ⟨Int.le_refl _,Int.le_of_lt (Int.pow_pos (by decide))⟩
 | p::ps,s,hs,h,hw=>by
  rw [Xo] at h
  have ew:wts (p::ps)=wt p+wts ps:=by rw [wts]
  have wp:=W2 p
  rw [Wl]
  obtain ⟨h1,h2⟩:=YbU (B:=2^(12100*s+(12*wt p - 6)+12*wts ps)) (l:=(List.range (s+1)).map fun f=>cnt (bkO prs) p f*YI (bkO prs) ps (s - f)) (fun x hx=>by
   obtain ⟨f,hf,rfl⟩:=List.mem_map.mp hx
   have hf:=List.mem_range.mp hf
   obtain ⟨a1,a2⟩:=Uq prs ob p f (by omega) h.1 (by omega)
   obtain ⟨b1,b2⟩:=UG prs ob ps (s - f) (by omega) h.2 (by omega)
   obtain ⟨c1,c2⟩:=Yed a1 a2 b1 b2
   refine ⟨c1,Int.le_trans c2 (Wv ?_)⟩
   omega)
  refine ⟨h1,Int.le_trans h2 ?_⟩
  rw [List.length_map,List.length_range]
  exact Int.le_trans (Yee (by omega)) (Wv (by omega))
termination_by ps s=>(s,sizeOf ps)
decreasing_by
 all_goals simp only [Prod.lex_def]
 all_goals first | (right;exact ⟨trivial,by simp;omega⟩) | (right;exact ⟨rfl,by simp;omega⟩) | (right;exact ⟨trivial,by simp⟩) | (left;omega) | (by_cases c:f<s;(left;exact c);(right;exact ⟨by omega,by simp;omega⟩)) | (by_cases c:s - f<s;(left;exact c);(right;exact ⟨by omega,by simp;omega⟩)) | (right;simp) | (right;simp;omega)
theorem Yam (prs:Prs) (ob:okB prs):∀ (ps:List Sh) (s:Nat),s≤45→Xo prs ps→wts ps≤1000→0≤(ps.map fun p=>cnt (bkO prs) p s).sum∧(ps.map fun p=>cnt (bkO prs) p s).sum≤2^(12100*s+12*wts ps)
 | [],s,hs,h,hw=>⟨Int.le_refl _,Int.le_of_lt (Int.pow_pos (by decide))⟩
 | p::ps,s,hs,h,hw=>by
  rw [Xo] at h
  have ew:wts (p::ps)=wt p+wts ps:=by rw [wts]
  have wp:=W2 p
  obtain ⟨a1,a2⟩:=Uq prs ob p s hs h.1 (by omega)
  obtain ⟨b1,b2⟩:=Yam prs ob ps s hs h.2 (by omega)
  rw [List.map_cons,List.sum_cons]
  have c1:=Int.le_trans a2 (Wv (show 12100*s+(12*wt p - 6)≤12100*s+12*wts (p::ps) - 1 by omega))
  have c2:=Int.le_trans b2 (Wv (show 12100*s+12*wts ps≤12100*s+12*wts (p::ps) - 1 by omega))
  obtain ⟨n,hn⟩:∃ n,12100*s+12*wts (p::ps)=n+1:=⟨12100*s+12*wts (p::ps) - 1,by omega⟩
  rw [hn,Nat.add_sub_cancel] at c1 c2
  rw [hn,Int.pow_succ]
  omega
termination_by ps s=>(s,sizeOf ps)
decreasing_by
 all_goals simp only [Prod.lex_def]
 all_goals first | (right;exact ⟨trivial,by simp;omega⟩) | (right;exact ⟨rfl,by simp;omega⟩) | (right;exact ⟨trivial,by simp⟩) | (left;omega) | (by_cases c:f<s;(left;exact c);(right;exact ⟨by omega,by simp;omega⟩)) | (by_cases c:s - f<s;(left;exact c);(right;exact ⟨by omega,by simp;omega⟩)) | (right;simp) | (right;simp;omega)
end
mutual
theorem WN:∀ sh:Sh,KO (kd sh)
 | .w _ _=>by rw [kd];exact .tup (.cons (.str _) (.cons (.int _) (.cons (.int _) .nil)))
 | .row ps=>by rw [kd];exact .tup (.cons (.str _) (.cons (.tup (Vx ps)) .nil))
 | .pick mk ps=>by rw [kd];exact .tup (.cons (.str _) (.cons (.tup (Vy mk ps)) .nil))
 | .use _=>by rw [kd];exact .tup (.cons (.str _) (.cons (.str _) .nil))
theorem Vx:∀ ps:List Sh,KOs (kds ps)
 | []=>by rw [kds];exact .nil
 | p::ps=>by rw [kds];exact .cons (WN p) (Vx ps)
theorem Vy:∀ (mk:List (List Nat)) (ps:List Sh),KOs (kdp mk ps)
 | m::mk,p::ps=>by rw [kdp];exact .cons (.tup (.cons (.str _) (.cons (WN p) .nil))) (Vy mk ps)
 | [],_=>by simp only [kdp];exact .nil
 | _::_,[]=>by simp only [kdp];exact .nil
end
theorem Xm {K:PySem.W.Frag} {H:Hp} {v:V} {ds:List PyData} (h:Den K H v (.tuple ds)):∃ b vs,v = .ref b∧SqT K H b vs∧Dens K H vs ds:=by
 cases h with
 | tup h1 h2=>exact ⟨_,_,rfl,h1,h2⟩
theorem Wc {K:PySem.W.Frag} {H:Hp} {v:V} {x:Str} (h:Den K H v (.str x)):v = .str x:=by cases h;rfl
theorem VP {K:PySem.W.Frag} {H:Hp} {v:V} {x:Int} (h:Den K H v (.int x)):v = .int x:=by cases h;rfl
theorem YQ {K:PySem.W.Frag} {H:Hp} {vs:List V} {d:PyData} {ds:List PyData} (h:Dens K H vs (d::ds)):∃ v r,vs=v::r∧Den K H v d∧Dens K H r ds:=by
 cases h with
 | cons h1 h2=>exact ⟨_,_,rfl,h1,h2⟩
theorem Wd {K:PySem.W.Frag} {H:Hp} {vs:List V} (h:Dens K H vs []):vs=[]:=by cases h;rfl
theorem QG (sh:Sh):∃ ds,kd sh = .tuple ds:=by cases sh<;>exact ⟨_,by rw [kd]⟩
theorem VZ {K:PySem.W.Frag} {H:Hp}:∀ {ps:List Sh} {vs:List V},Dens K H vs (kds ps)→∃ bs:List Addr,vs=bs.map V.ref∧bs.length=ps.length∧∀ (i:Nat) b q,bs[i]?=some b→ps[i]?=some q→Den K H (.ref b) (kd q)
 | [],vs,h=>by
  rw [kds] at h
  exact ⟨[],Wd h,rfl,fun i b q h=>by simp at h⟩
 | p::ps,vs,h=>by
  rw [kds] at h
  obtain ⟨v,r,rfl,h1,h2⟩:=YQ h
  obtain ⟨bs,rfl,hl,hb⟩:=VZ h2
  obtain ⟨ds,hd⟩:=QG p
  obtain ⟨b,_,rfl,_,_⟩:=Xm (by rw [hd] at h1;exact h1)
  refine ⟨b::bs,rfl,by simp [hl],fun i b' q e1 e2=>?_⟩
  cases i with
  | zero =>
   have z1:b=b':=Option.some.inj e1
   have z2:p=q:=Option.some.inj e2
   subst z1 z2
   exact h1
  | succ i=>exact hb i b' q (by simpa using e1) (by simpa using e2)
theorem Vg {K:PySem.W.Frag} {H:Hp}:∀ {mk:List (List Nat)} {ps:List Sh} {vs:List V},mk.length=ps.length→Dens K H vs (kdp mk ps)→∃ ts bs:List Addr,vs=ts.map V.ref∧ts.length=ps.length∧bs.length=ps.length∧(∀ (i:Nat) T m b,ts[i]?=some T→mk[i]?=some m→bs[i]?=some b→SqT K H T [.str (S m),.ref b])∧∀ (i:Nat) b q,bs[i]?=some b→ps[i]?=some q→Den K H (.ref b) (kd q)
 | [],[],vs,_,h=>by
  rw [show kdp [] []=[] by simp [kdp]] at h
  exact ⟨[],[],Wd h,rfl,rfl,fun i T m b h=>by simp at h,fun i b q h=>by simp at h⟩
 | m::mk,p::ps,vs,hl,h=>by
  rw [kdp] at h
  obtain ⟨v,r,rfl,h1,h2⟩:=YQ h
  obtain ⟨ts,bs,rfl,l1,l2,hT,hb⟩:=Vg (by simpa using hl) h2
  obtain ⟨T,us,rfl,h3,h4⟩:=Xm h1
  obtain ⟨u1,r1,rfl,h5,h6⟩:=YQ h4
  obtain ⟨u2,r2,rfl,h7,h8⟩:=YQ h6
  have:=Wd h8
  subst this
  have:=Wc h5
  subst this
  obtain ⟨ds,hd⟩:=QG p
  obtain ⟨b,_,rfl,_,_⟩:=Xm (by rw [hd] at h7;exact h7)
  refine ⟨T::ts,b::bs,rfl,by simp [l1],by simp [l2],fun i T' m' b' e1 e2 e3=>?_,fun i b' q e1 e2=>?_⟩
  ·cases i with
   | zero =>
    have z1:T=T':=Option.some.inj e1
    have z2:m=m':=Option.some.inj e2
    have z3:b=b':=Option.some.inj e3
    subst z1 z2 z3
    exact h3
   | succ i=>exact hT i T' m' b' (by simpa using e1) (by simpa using e2) (by simpa using e3)
  ·cases i with
   | zero =>
    have z1:b=b':=Option.some.inj e1
    have z2:p=q:=Option.some.inj e2
    subst z1 z2
    exact h7
   | succ i=>exact hb i b' q (by simpa using e1) (by simpa using e2)
 | [],_::_,_,hl,_=>by simp at hl
 | _::_,[],_,hl,_=>by simp at hl
theorem UX {q:Sh}:∀ {ps:List Sh},q∈ps→(kd q).depth≤PyData.depthAll (kds ps)
 | p::ps,h=>by
  rw [kds]
  simp only [PyData.depthAll]
  rcases List.mem_cons.mp h with rfl | h
  ·omega
  ·have:=UX h
   omega
theorem UY {q:Sh}:∀ {mk:List (List Nat)} {ps:List Sh},mk.length=ps.length→q∈ps→(kd q).depth≤PyData.depthAll (kdp mk ps)
 | m::mk,p::ps,hl,h=>by
  rw [kdp]
  simp only [PyData.depthAll,PyData.depth]
  rcases List.mem_cons.mp h with rfl | h
  ·omega
  ·have:=UY (mk:=mk) (by simpa using hl) h
   omega
 | [],_::_,hl,_=>by simp at hl
def XM:Sh→List Sh
 | .row ps=>ps
 | .pick _ ps=>ps
 | _=>[]
section
variable {src:List (Option Nat)} {te:TE} {σ:St} {H:Hp} {Q:VK}
theorem Ur {K:PySem.W.Frag} {tl:TE} {b:Addr} {xs:List V} (ps:List (V×V)) (ys:List V) (ha:∀ R:V→Hp→Prop,R (.ref b) H→tl σ H R) (hS:SqT K H b xs) (hp:∀ (i:Nat) x p,xs[i]?=some x→ps[i]?=some p→∃ T,x = .ref T∧SqT K H T [p.1,p.2]) (hl:ps.length=xs.length) (hl2:ys.length=xs.length) (hlen:xs.length≤100000)
  (step:∀ (i:Nat) p y H',ps[i]?=some p→ys[i]?=some y→Yl H H'→∀ R:VK,(∀ H'',Yl H' H''→R y H'')→te (some p.1::some p.2::Yy src σ) H' R)
  (fin:∀ D H',H D=none→Yl H H'→H' D=some (.lst ys)→Q (.ref D) H'):tLC (none::none::src) (iTup K tl) (WQ K 2 (Xp (Yv 0) (Xp (Yv 1) WP))) Wp te σ H Q:=by
 refine ha _ ⟨b,rfl,⟨xs,hS⟩,fun D hD=>?_⟩
 have h6:100000<sizeLine:=by decide
 refine VJ (YbA.imp fun H' (e:Yl H H')=>e.tup hS) (fun i zs σ' H'=>zs=ys.take i∧(∃ o o',σ'=o::o'::Yy src σ)∧Yl H H'∧H' D=some (.lst zs)) ⟨by simp,⟨none,none,rfl⟩,.upd_new hD _,Yc⟩ (fun i zs σ' H' p=>⟨p.2.2.1,p.2.2.2⟩) (VU K 0 1) ?_ ?_
 ·rintro i zs σ' H' x hx ⟨rfl,⟨o,o',rfl⟩,sm,hd⟩
  have hi:=(List.getElem?_eq_some_iff.mp hx).1
  have hy:ys[i]?=some (ys[i]'(by omega)):=List.getElem?_eq_getElem _
  have hpi:ps[i]?=some (ps[i]'(by omega)):=List.getElem?_eq_getElem _
  obtain ⟨T,rfl,hT⟩:=hp i x _ hx hpi
  refine ⟨T,_,rfl,sm.tup hT,rfl,_,_,rfl,_,_,rfl,rfl,?_⟩
  refine step i _ _ H' hpi hy sm _ fun H'' s2=>⟨s2 _ _ hd,?_,(Xu hy).symm,⟨_,_,rfl⟩,.upd_over hD (sm.trans s2) _,Yc⟩
  rw [List.length_take];omega
 ·rintro zs σ' H' ⟨rfl,_,sm,hd⟩
  rw [← hl2,List.take_length] at hd
  exact fin D H' hD sm hd
theorem Us {K:PySem.W.Frag} {tl:TE} (G:Addr→List V→Hp→Prop) (ha:∀ R:V→Hp→Prop,(∀ b xs H1,G b xs H1→R (.ref b) H1)→tl σ H R)
  (hb:∀ b xs H1,G b xs H1→SqL K H1 b xs∧xs.length≤100000∧∃ I:Addr→Nat→List V→Hp→Prop,(∀ D,H1 D=none→I D 0 [] (upd H1 D (.lst [])))∧(∀ D i zs H',H1 D=none→I D i zs H'→zs.length=i∧H' D=some (.lst zs)∧SqL K H' b xs) ∧
   (∀ D (i:Nat) x zs H',H1 D=none→xs[i]?=some x→I D i zs H'→∀ R:VK,(∀ y H'',H'' D=some (.lst zs)→I D (i+1) (zs++[y]) (upd H'' D (.lst (zs++[y])))→R y H'')→te (some x::Yy src σ) H' R) ∧
   (∀ D zs H',H1 D=none→I D xs.length zs H'→Q (.ref D) H')):tLC (none::src) (Wq K tl) (Yv 0) Wp te σ H Q:=by
 refine ha _ fun b xs H1 hG=>?_
 obtain ⟨hS,hlen,I,i0,dl,step,fin⟩:=hb b xs H1 hG
 refine ⟨b,rfl,⟨xs,hS⟩,fun D hD=>?_⟩
 have h6:100000<sizeLine:=by decide
 refine VJ Ws (fun i zs σ' H'=>(∃ o,σ'=o::Yy src σ)∧i≤xs.length∧I D i zs H') ⟨⟨none,rfl⟩,Nat.zero_le _,i0 D hD⟩ (fun i zs σ' H' q=>⟨(dl _ _ _ _ hD q.2.2).2.2,(dl _ _ _ _ hD q.2.2).2.1⟩) (Wt 0) ?_ ?_
 ·rintro i zs σ' H' x hx ⟨⟨o,rfl⟩,_,hI⟩
  have hi:i<xs.length:=(List.getElem?_eq_some_iff.mp hx).1
  have hl:=(dl _ _ _ _ hD hI).1
  show te (some x::Yy src σ) H' _
  exact step D i x zs H' hD hx hI _ fun y H'' hd hI'=>⟨hd,by omega,⟨_,rfl⟩,hi,hI'⟩
 ·rintro zs σ' H' ⟨_,_,hI⟩
  exact fin D zs H' hD hI
end
theorem Vh {K:PySem.W.Frag} {H:Hp} {a:Addr} {x:Str} {d:PyData} (h:Den K H (.ref a) (.tuple [.str x,d])):∃ v,SqT K H a [.str x,v]∧Den K H v d:=by
 obtain ⟨b,vs,e,h1,h2⟩:=Xm h
 have:=V.ref.inj e
 subst this
 obtain ⟨u1,r1,rfl,h5,h6⟩:=YQ h2
 obtain ⟨u2,r2,rfl,h7,h8⟩:=YQ h6
 have:=Wd h8
 subst this
 have:=Wc h5
 subst this
 exact ⟨u2,h1,h7⟩
theorem YcC {q:Sh} {prs:Prs} {sh:Sh} (hok:okS prs sh) (h:q∈XM sh):(kd q).depth≤(kd sh).depth:=by
 cases sh with
 | row ps =>
  have:=UX (ps:=ps) h
  rw [show kd (.row ps) = .tuple [.str "row",.tuple (kds ps)] by rw [kd]]
  simp only [PyData.depth,PyData.depthAll]
  omega
 | pick mk ps =>
  rw [okS] at hok
  have:=UY (ps:=ps) hok.1 h
  rw [show kd (.pick mk ps) = .tuple [.str "pick",.tuple (kdp mk ps)] by rw [kd]]
  simp only [PyData.depth,PyData.depthAll]
  omega
 | _=>cases h
theorem Yan {K:PySem.W.Frag} {H:Hp} {a b:Addr} {prs:Prs} {sh q:Sh} (hk:DK K H a (kd sh)) (hok:okS prs sh) (h:q∈XM sh) (hb:Den K H (.ref b) (kd q)):DK K H b (kd q):=⟨hb,WN q,Nat.le_trans (YcC hok h) hk.dp⟩
def Z1C (K:PySem.W.Frag):Sp:=fun vs H Q _=>∃ (prs:Prs) (a:Addr) (sh:Sh),vs=[.ref a]∧DK K H a (kd sh)∧okS prs sh∧(kind sh=2∨kind sh=3) ∧
 ∀ D (bs:List Addr) H',Yl H H'→H D=none→H' D=some (.lst (bs.map V.ref))→bs.length=(XM sh).length→(∀ (i:Nat) b q,bs[i]?=some b→(XM sh)[i]?=some q→DK K H b (kd q))→Q (.ref D) H'
theorem Q1 {Z5 Z1 Z2 Z4 Z3 Z0:Addr} (R:g.Raw "parts_of" "parts_of" Z1T ["shape"]) (b_list:g.mg "list"=none):g.Fn (1) "parts_of" ["shape"] (Z1C g.K):=by
 refine R.fn Z2Z (fun vs H Q E h=>by obtain ⟨prs,a,sh,rfl,hk,hok,hki,q⟩:=h;rfl) fun f_ cdv A outer s H vs Q E hr h=>?_
 obtain ⟨prs,a,sh,rfl,hk,hok,hki,q⟩:=h
 refine ⟨_,(@Yg _ _ _ _ _ (@Yp _ _ (1) _ _ _ _ Z2Z.nd rfl (.inl rfl) (@Yx _ _ _ _ _ _ _ Xc (pv 0) Yf (fun _ _=>rfl)) (by rfl) (by first | exact .inl rfl | exact .inr rfl | assumption)) (@Yg _ _ _ _ _ (@Y9 _ _ _ _ _ _ _ _ (@Yz _ _ _ _ _ _ _ _ Xh (pv 1) Xg (YD _)) (@Yi _ _ _ (@Yo _ _ _ _ (@Uc _ _ _ _ _ _ _ _ _ _ b_list Vt (@Ya _ _ _ _ _ (@Yx _ _ _ _ _ _ _ Xc (pv 0) Yf (fun _ _=>rfl)) Yd (by rfl)) (by decide +kernel) (by rfl) (by rfl) (by decide) (by decide) (by rfl) (by rfl)))) YR) (@Yg _ _ _ _ _ (@Y9 _ _ _ _ _ _ _ _ (@Yz _ _ _ _ _ _ _ _ Xh (pv 1) Xg (YD _)) (@Yi _ _ _ (@Yo _ _ _ _ (@Wh _ _ _ _ _ _ _ ([none,none]) ((["mark","part"]:List Str)) _ (WQ g.K 2 (Xp (Yv 0) (Xp (Yv 1) WP))) _ _ (.own (.own .nil)) rfl (@V0 _ _ _ _ (@Yx _ _ _ _ _ _ _ Xc (pv 0) Yf (fun _ _=>rfl))) (fun cl C s₀ H₀ fp pn=>(@XZ _ _ _ _ _ (2) rfl (@YL _ _ _ _ _ (@Yn _ _ (0) _ (show List.Nodup (["mark","part"]:List Str) by decide +kernel) rfl (.inl rfl) (.inr rfl)) (@YL _ _ _ _ _ (@Yn _ _ (1) _ (show List.Nodup (["mark","part"]:List Str) by decide +kernel) rfl (.inl rfl) (.inr rfl)) XO (by rfl)) (by rfl)) (by rfl) (by rfl))) (fun cl C s₀ H₀ fp pn=>Xj) (fun cl C s₀ H₀ fp pn=>(pv 1)) (by intro x hx;simp at hx) (by rfl) (by decide) (by decide +kernel) (by intro _;rfl)))) YR) (@Yg _ _ _ _ _ XV (@Yi _ _ _ XV))))),?_⟩
 walk_at "rd"
 cases sh with
 | row ps =>
  have hd:=hk.den
  rw [kd] at hd
  obtain ⟨v,hT,hv⟩:=Vh hd
  obtain ⟨b,vs,rfl,hb,hvs⟩:=Xm hv
  obtain ⟨bs,rfl,hl,hbs⟩:=VZ hvs
  exact ⟨_,hT,_,Yq (j:=0) rfl,Y1 _ _,Vc rfl ⟨_,hT,_,Yq (j:=1) rfl,b,rfl,_,.inr hb,fun l hl'=>q l bs _ (.upd_new hl' _) hl' Yc hl fun i b' q' h1 h2=>Yan hk hok (List.mem_of_getElem? h2) (hbs i b' q' h1 h2)⟩⟩
 | pick mk ps =>
  have hd:=hk.den
  have hok':=hok
  rw [okS] at hok'
  rw [kd] at hd
  obtain ⟨v,hT,hv⟩:=Vh hd
  obtain ⟨b,vs,rfl,hb,hvs⟩:=Xm hv
  obtain ⟨ts,bs,rfl,hl1,hl2,hts,hbs⟩:=Vg hok'.1 hvs
  refine ⟨_,hT,_,Yq (j:=0) rfl,Y1 _ _,XT (by decide +kernel) ⟨Y1 _ _,Vc rfl ?_⟩⟩
  have hlz:((mk.zip bs).map fun p=>(V.str (S p.1),V.ref p.2)).length=bs.length:=by rw [List.length_map,List.length_zip];omega
  refine Ur (K:=g.K) (b:=b) (xs:=ts.map V.ref) ((mk.zip bs).map fun p=>(V.str (S p.1),V.ref p.2)) (bs.map V.ref) (fun R r=>by walk_at "rd";exact ⟨_,hT,_,Yq (j:=1) rfl,r⟩) hb ?_ (by rw [hlz,List.length_map];omega) (by rw [List.length_map,List.length_map];omega) (by rw [List.length_map];omega) ?_ ?_
  ·intro i x p hx hp
   rw [List.getElem?_map] at hx hp
   obtain ⟨T,hT',rfl⟩:=Option.map_eq_some_iff.mp hx
   obtain ⟨⟨m,b'⟩,hz,rfl⟩:=Option.map_eq_some_iff.mp hp
   rw [List.getElem?_zip_eq_some] at hz
   exact ⟨T,rfl,hts i T m b' hT' hz.1 hz.2⟩
  ·intro i p y H' hp hy sm R r
   rw [List.getElem?_map] at hp hy
   obtain ⟨⟨m,b'⟩,hz,rfl⟩:=Option.map_eq_some_iff.mp hp
   rw [List.getElem?_zip_eq_some] at hz
   rw [hz.2] at hy
   have:V.ref b'=y:=Option.some.inj hy
   subst this
   walk_at "rd"
   exact r H' (.refl _)
  ·intro D H' hD sm hd'
   exact q D bs H' sm hD hd' hl2 fun i b' q' h1 h2=>Yan hk hok (List.mem_of_getElem? h2) (hbs i b' q' h1 h2)
 | _=>simp [kind] at hki
def t0 (U:Addr→Prop):Sw:=⟨fun _=>0,fun _ _=>0,U⟩
structure BI (C:Cs) (w:Wo) (U O:Addr→Prop) (H:Hp):Prop where
 at_:∀ p sh,w.reg p=some sh→¬ O p→X3 C w (t0 U) H p sh
 op:∀ p,O p→∃ x dx c,w.reg p=some (.use x)∧Un w (t0 U) p∧(∀ s,s≤45→sm (cnt w.bk (.use x) s))∧H p=some (.ins C.use dx (mf c (fU .non)))∧w.D c=some (p,0)∧H c=some (.lst [])
 al:∀ b,U b→H b≠none
 ow:∀ b x,w.D b=some x→U b
 oo:∀ b q i,w.D b=some (q,i)→U q
 inj:∀ b b' x,w.D b=some x→w.D b'=some x→b=b'
structure WG (w w':Wo) (U U':Addr→Prop) (H:Hp):Prop where
 bk:w'.bk=w.bk
 M:w'.M=w.M
 reg:∀ p sh,w.reg p=some sh→w'.reg p=some sh
 D:∀ b,U b→w'.D b=w.D b
 u1:∀ b,U b→U' b
 u2:∀ b,U' b→U b∨H b=none
theorem WG.refl (w:Wo) (U:Addr→Prop) (H:Hp):WG w w U U H:=⟨rfl,rfl,fun _ _ h=>h,fun _ _=>rfl,fun _ h=>h,fun _ h => .inl h⟩
theorem WG.trans {w w1 w2:Wo} {U U1 U2:Addr→Prop} {H H1:Hp} (a:WG w w1 U U1 H) (b:WG w1 w2 U1 U2 H1) (h:∀ x,H x≠none→H1 x≠none):WG w w2 U U2 H :=
 ⟨b.bk.trans a.bk,b.M.trans a.M,fun p sh e=>b.reg p sh (a.reg p sh e),fun x e=>(b.D x (a.u1 x e)).trans (a.D x e),fun x e=>b.u1 x (a.u1 x e),fun x e=>by
  rcases b.u2 x e with e | e
  ·exact a.u2 x e
  ·cases c:H x with
   | none=>exact .inr rfl
   | some o=>exact absurd e (h x (by rw [c];intro z;cases z))⟩
theorem WK.grow {w w':Wo} {U U':Addr→Prop} {H:Hp} (G:WG w w' U U' H) {as:List Addr} {ps:List Sh} (h:WK w.reg as ps):WK w'.reg as ps:=⟨h.1,fun i a p h1 h2=>G.reg _ _ (h.2 i a p h1 h2)⟩
theorem Sub.grow {C:Cs} {w w':Wo} {U U':Addr→Prop} {H H' H0:Hp} {p:Addr} (G:WG w w' U U' H0) (ow:∀ b x,w.D b=some x→U b) (hk:∀ b o,U b→H b=some o→H' b=some o):∀ {sh:Sh} {fs:List (Str×V)},Sub C w (t0 U) H p sh fs→Sub C w' (t0 U') H' p sh fs
 | .w lo span,fs,h=>h
 | .row ps,fs,h=>by
  obtain ⟨P,T,dt,L,as,ws,h1,h2,h3,h4,h5,h6,h7,h8,h9,h10,h11,h12⟩:=h
  have un:∀ {b:Addr},Un w (t0 U) b→Un w' (t0 U') b:=fun z=>⟨(G.D _ z.2).trans z.1,G.u1 _ z.2⟩
  refine ⟨P,T,dt,L,as,ws,h1,un h2,un h3,un h4,hk _ _ h2.2 h5,h6.grow G,h7,hk _ _ h3.2 h8,hk _ _ h4.2 h9,h10,fun i x hx=>?_,by rw [G.bk];exact h12⟩
  obtain ⟨k1,k2,k3,k4⟩:=h11 i x hx
  exact ⟨(G.D _ (ow _ _ k1)).trans k1,k2,k3,by rw [G.bk];exact hk _ _ (ow _ _ k1) k4⟩
 | .pick mk ps,fs,h=>by
  obtain ⟨M,P,as,h1,h2,h3,h4,h5,h6,h7⟩:=h
  have un:∀ {b:Addr},Un w (t0 U) b→Un w' (t0 U') b:=fun z=>⟨(G.D _ z.2).trans z.1,G.u1 _ z.2⟩
  exact ⟨M,P,as,h1,un h2,un h3,hk _ _ h2.2 h4,hk _ _ h3.2 h5,h6.grow G,h7⟩
 | .use x,fs,⟨a,h1,h2⟩=>⟨a,h1,by rw [G.bk];exact G.reg _ _ h2⟩
theorem X3.grow {C:Cs} {w w':Wo} {U U':Addr→Prop} {H H' H0:Hp} {p:Addr} {sh:Sh} (G:WG w w' U U' H0) (ow:∀ b x,w.D b=some x→U b) (hk:∀ b o,U b→H b=some o→H' b=some o) (h:X3 C w (t0 U) H p sh):X3 C w' (t0 U') H' p sh:=by
 obtain ⟨dx,c,fs,h1,h2,h3,h4,h5,h6,h7,h8⟩:=h
 exact ⟨dx,c,fs,⟨(G.D _ h1.2).trans h1.1,G.u1 _ h1.2⟩,by rw [G.M];exact h2,by rw [G.bk];exact h3,h4,hk _ _ h1.2 h5,(G.D _ (ow _ _ h6)).trans h6,by rw [G.bk];exact hk _ _ (ow _ _ h6) h7,h8.grow G ow hk⟩
theorem BI.keep {C:Cs} {w:Wo} {U O:Addr→Prop} {H H':Hp} (B:BI C w U O H) (hk:∀ b o,U b→H b=some o→H' b=some o):BI C w U O H':=by
 refine ⟨fun p sh hr ho=>(B.at_ p sh hr ho).grow (.refl w U H) B.ow hk,fun p hp=>?_,fun b hb=>?_,B.ow,B.oo,B.inj⟩
 ·obtain ⟨x,dx,c,h1,h2,h3,h4,h5,h6⟩:=B.op p hp
  exact ⟨x,dx,c,h1,h2,h3,hk _ _ h2.2 h4,h5,hk _ _ (B.ow _ _ h5) h6⟩
 ·cases e:H b with
  | none=>exact absurd e (B.al b hb)
  | some o=>rw [hk b o hb e];intro z;cases z
def Wo.add (w:Wo) (p:Addr) (sh:Sh) (os:List Addr):Wo:={ w with reg:=fun q=>if q=p then some sh else w.reg q,D:=fun b=>if b∈os then some (p,os.idxOf b) else w.D b }
def Ua (U:Addr→Prop) (os ss:List Addr):Addr→Prop:=fun b=>U b∨b∈os∨b∈ss
theorem BI.regU {C:Cs} {w:Wo} {U O:Addr→Prop} {H:Hp} (B:BI C w U O H) {p:Addr} {sh:Sh} (h:w.reg p=some sh):U p:=by
 by_cases o:O p
 ·obtain ⟨x,dx,c,h1,h2,_⟩:=B.op p o
  exact h2.2
 ·obtain ⟨dx,c,fs,h1,_⟩:=B.at_ p sh h o
  exact h1.2
theorem Ydw {os:List Addr} {a b:Addr} (ha:a∈os) (hb:b∈os) (h:os.idxOf a=os.idxOf b):a=b:=by
 have h1:=List.getElem_idxOf (List.idxOf_lt_length_of_mem ha)
 have h2:=List.getElem_idxOf (List.idxOf_lt_length_of_mem hb)
 have:os[os.idxOf a]'(List.idxOf_lt_length_of_mem ha)=os[os.idxOf b]'(List.idxOf_lt_length_of_mem hb):=by congr 1
 rw [h1,h2] at this
 exact this
theorem YbV:∀ {os:List Addr} {i:Nat} {a:Addr},os.Nodup→os[i]?=some a→os.idxOf a=i
 | b::os,0,a,hn,h=>by
  have:b=a:=Option.some.inj h
  subst this
  exact List.idxOf_cons_self
 | b::os,i+1,a,hn,h=>by
  have h':os[i]?=some a:=by simpa using h
  have hne:b≠a:=fun z=>by
   rw [List.nodup_cons] at hn
   exact hn.1 (by rw [z];exact List.mem_of_getElem? h')
  have ih:=YbV (List.nodup_cons.mp hn).2 h'
  rw [List.idxOf_cons,ih]
  have e:(b==a)=false:=by simpa using hne
  rw [e];rfl
structure New (H H':Hp) (U:Addr→Prop) (p:Addr) (os ss:List Addr):Prop where
 nu:∀ b,b∈os∨b∈ss→¬ U b
 inn:p∈ss
 nd:os.Nodup
 ap:∀ b∈os,b∉ss
 keep:∀ b o,U b→H b=some o→H' b=some o
 there:∀ b,b∈os∨b∈ss→H' b≠none
theorem New.wg {C:Cs} {w:Wo} {U O:Addr→Prop} {H H' H0:Hp} {p:Addr} {os ss:List Addr} (N:New H H' U p os ss) (B:BI C w U O H) (sh:Sh) (h0:∀ b,b∈os∨b∈ss→H0 b=none):WG w (w.add p sh os) U (Ua U os ss) H0:=by
 refine ⟨rfl,rfl,fun q s e=>?_,fun b hb=>?_,fun b h => .inl h,fun b h=>?_⟩
 ·show (if q=p then some sh else w.reg q)=some s
  rw [if_neg fun z=>?_]
  ·exact e
  ·subst z
   exact N.nu _ (.inr N.inn) (B.regU e)
 ·show (if b∈os then _ else w.D b)=w.D b
  rw [if_neg fun z=>N.nu _ (.inl z) hb]
 ·rcases h with h | h
  ·exact .inl h
  ·exact .inr (h0 b h)
theorem New.un {C:Cs} {w:Wo} {U O:Addr→Prop} {H H':Hp} {p:Addr} {os ss:List Addr} (N:New H H' U p os ss) (B:BI C w U O H) (sh:Sh) {b:Addr} (hb:b∈ss):Un (w.add p sh os) (t0 (Ua U os ss)) b:=by
 refine ⟨?_,.inr (.inr hb)⟩
 show (if b∈os then _ else w.D b)=none
 rw [if_neg fun z=>N.ap b z hb]
 cases e:w.D b with
 | none=>rfl
 | some x=>exact absurd (B.ow b x e) (N.nu b (.inr hb))
theorem New.dat {w:Wo} {U:Addr→Prop} {H H':Hp} {p:Addr} {os ss:List Addr} (N:New H H' U p os ss) (sh:Sh) {i:Nat} {b:Addr} (hb:os[i]?=some b):(w.add p sh os).D b=some (p,i):=by
 show (if b∈os then some (p,os.idxOf b) else w.D b)=_
 rw [if_pos (List.mem_of_getElem? hb),YbV N.nd hb]
theorem New.bi {C:Cs} {w:Wo} {U O O':Addr→Prop} {H H':Hp} {p:Addr} {os ss:List Addr} {sh:Sh} (N:New H H' U p os ss) (B:BI C w U O H) (h1:∀ q,q≠p→(O' q↔O q)) (hm:¬ O' p→X3 C (w.add p sh os) (t0 (Ua U os ss)) H' p sh)
  (ho:O' p→∃ x dx c,sh = .use x∧Un (w.add p sh os) (t0 (Ua U os ss)) p∧(∀ s,s≤45→sm (cnt w.bk (.use x) s))∧H' p=some (.ins C.use dx (mf c (fU .non)))∧(w.add p sh os).D c=some (p,0)∧H' c=some (.lst [])):BI C (w.add p sh os) (Ua U os ss) O' H':=by
 have G:=N.wg (H0:=fun _=>none) B sh fun _ _=>rfl
 have hpr:∀ {q:Addr} {s:Sh},(w.add p sh os).reg q=some s→q≠p→w.reg q=some s:=fun {q s} e n=>by
  have:(if q=p then some sh else w.reg q)=some s:=e
  rwa [if_neg n] at this
 refine ⟨fun q s hq ho'=>?_,fun q hq=>?_,fun b hb=>?_,fun b x e=>?_,fun b q i e=>?_,fun b b' x e e'=>?_⟩
 ·by_cases c:q=p
  ·subst c
   have:(if q=q then some sh else w.reg q)=some s:=hq
   rw [if_pos rfl] at this
   have:=Option.some.inj this
   subst this
   exact hm ho'
  ·exact (B.at_ q s (hpr hq c) fun z=>ho' ((h1 q c).mpr z)).grow G B.ow N.keep
 ·by_cases c:q=p
  ·subst c
   obtain ⟨x,dx,c,e1,e2,e3,e4,e5,e6⟩:=ho hq
   subst e1
   exact ⟨x,dx,c,if_pos rfl,e2,e3,e4,e5,e6⟩
  ·obtain ⟨x,dx,c',e1,e2,e3,e4,e5,e6⟩:=B.op q ((h1 q c).mp hq)
   exact ⟨x,dx,c',G.reg _ _ e1,⟨(G.D _ e2.2).trans e2.1,G.u1 _ e2.2⟩,e3,N.keep _ _ e2.2 e4,(G.D _ (B.ow _ _ e5)).trans e5,N.keep _ _ (B.ow _ _ e5) e6⟩
 ·rcases hb with hb | hb
  ·cases e:H b with
   | none=>exact absurd e (B.al b hb)
   | some o=>rw [N.keep b o hb e];intro z;cases z
  ·exact N.there b hb
 ·have e:(if b∈os then some (p,os.idxOf b) else w.D b)=some x:=e
  by_cases c:b∈os
  ·exact .inr (.inl c)
  ·rw [if_neg c] at e
   exact .inl (B.ow b x e)
 ·have e:(if b∈os then some (p,os.idxOf b) else w.D b)=some (q,i):=e
  by_cases c:b∈os
  ·rw [if_pos c] at e
   injection e with e
   injection e with e _
   rw [← e]
   exact .inr (.inr N.inn)
  ·rw [if_neg c] at e
   exact .inl (B.oo b q i e)
 ·have e:(if b∈os then some (p,os.idxOf b) else w.D b)=some x:=e
  have e':(if b'∈os then some (p,os.idxOf b') else w.D b')=some x:=e'
  have nop:∀ {y:Addr} {i:Nat},w.D y=some (p,i)→False:=fun z=>N.nu _ (.inr N.inn) (B.oo _ _ _ z)
  by_cases c:b∈os
  ·rw [if_pos c] at e
   by_cases c':b'∈os
   ·rw [if_pos c'] at e'
    rw [← e'] at e
    injection e with e
    injection e with _ e
    exact Ydw c c' e
   ·rw [if_neg c',← e] at e'
    exact (nop e').elim
  ·rw [if_neg c] at e
   by_cases c':b'∈os
   ·rw [if_pos c'] at e'
    rw [← e'] at e
    exact (nop e).elim
   ·rw [if_neg c'] at e'
    exact B.inj b b' x e e'
theorem BI.wi {C:Cs} {w:Wo} {U O:Addr→Prop} {H:Hp} (B:BI C w U O H) (h:∀ p,¬ O p):WI C w (t0 U) H:=⟨fun p sh e=>B.at_ p sh e (h p),B.al,B.ow,B.inj⟩
theorem X4 {fs:List (Str×V)} (h:fs.length≤3):fs.length<1000:=by omega
def isC (C:Cs) (c:Addr):Prop:=c=C.w∨c=C.row∨c=C.pick∨c=C.use
def Z0b (C:Cs):Sp:=fun vs H Q _=>∃ (p dx cl:Addr),vs=[.ref p]∧isC C cl∧H p=some (.ins cl dx [])∧∀ c,H c=none→Q .non (upd (upd H c (.lst [])) p (.ins cl dx [("counts",.ref c)]))
theorem Z2R {Z5 Z1 Z2 Z4 Z3 Z0:Addr} (R:g.RawC "Maker" "__init__" "Maker.__init__" Z0H ["self"]) (Zc:Cls g.K Z1) (Z7:Ye g.K Z1 "counts") (Zg:Ye g.K Z1 "marks") (Zf:Ye g.K Z1 "parts") (Zh:Cls g.K Z2) (Z8:Ye g.K Z2 "counts") (Zk:Ye g.K Z2 "parts") (Zi:Ye g.K Z2 "table") (Zd:Cls g.K Z3) (Z9:Ye g.K Z3 "counts") (Zb:Ye g.K Z3 "named") (Za:Cls g.K Z0) (Z6:Ye g.K Z0 "counts") (Zj:Ye g.K Z0 "low") (Ze:Ye g.K Z0 "span"):g.Cf (1) "Maker" "__init__" ["self"] (Z0b (Cs.mk Z0 Z2 Z4 Z1 Z3)):=by
 refine R.cf Z2P (fun vs H Q E h=>by obtain ⟨p,dx,cl,rfl,hC,hp,q⟩:=h;rfl) fun f_ cdv A outer s H vs Q E hr h=>?_
 obtain ⟨p,dx,cl,rfl,hC,hp,q⟩:=h
 refine ⟨_,(@Yi _ _ _ (@XB _ _ _ _ _ _ _ _ (pv 0) (@XL _ _ _ _ Yd) rfl)),?_⟩
 walk_at "rd"
 refine ⟨few (by decide),fun c hc=>⟨cl,dx,[],by rw [Yb (Yh hp hc)];exact hp,?_,?_,by decide,q c hc⟩⟩
 ·rcases hC with rfl | rfl | rfl | rfl<;>assumption
 ·rcases hC with rfl | rfl | rfl | rfl<;>assumption
theorem n1 {a b:Str} (h:(a==b)=false):¬ a=b:=fun z=>by rw [z] at h;simp at h
theorem Ya3 {f:Str} {v:V} {c:Addr} (h:¬ (("counts":Str)=f)):YT f v [("counts",.ref c)]=mf c [(f,v)]:=by simp only [YT,if_neg h];rfl
theorem put2 {f f':Str} {v v':V} {c:Addr} (h:¬ (("counts":Str)=f)) (h2:¬ f'=f):YT f v (mf c [(f',v')])=mf c [(f',v'),(f,v)]:=by
 show YT f v [(("counts":Str),V.ref c),(f',v')]=_
 simp only [YT,if_neg h,if_neg h2];rfl
def Z3c (C:Cs):Sp:=fun vs H Q _=>∃ (p dx:Addr) (lo:Int) (span:Nat),vs=[.ref p,.int lo,.int (lo+span)]∧H p=some (.ins C.w dx [])∧∀ c H',H c=none→SameBut p H H'→H' p=some (.ins C.w dx (mf c (fW lo span)))→H' c=some (.lst [])→Q .non H'
theorem Z1D {k:Nat} {Z5 Z1 Z2 Z4 Z3 Z0:Addr} (R:g.RawI "WholeMaker" Z0 "WholeMaker.__init__" ZY ["self","low","high"]) (ZE:g.Cf k "Maker" "__init__" ["self"] (Z0b (Cs.mk Z0 Z2 Z4 Z1 Z3))) (Za:Cls g.K Z0) (Z6:Ye g.K Z0 "counts") (Zj:Ye g.K Z0 "low") (Ze:Ye g.K Z0 "span"):g.Ma (k+1) "WholeMaker" Z0 ["self","low","high"] (Z3c (Cs.mk Z0 Z2 Z4 Z1 Z3)):=by
 refine R.ma Z1z (fun vs H Q E h=>by obtain ⟨p,dx,lo,span,rfl,hp,q⟩:=h;rfl) fun f_ cdv A outer s H vs Q E hr h=>?_
 obtain ⟨p,dx,lo,span,rfl,hp,q⟩:=h
 refine ⟨_,(@Yg _ _ _ _ _ (@YZ _ _ _ _ (@Qf _ _ _ _ _ _ _ _ _ _ _ _ _ _ _ ZE hr (@Ya _ _ _ _ _ (pv 0) Yd (by rfl)) (by omega) (by rfl) (by rfl) (by decide) (by rfl) (by rfl) (by rfl)) (by rfl)) (@Yg _ _ _ _ _ (@XB _ _ _ _ _ _ _ _ (pv 0) (pv 1) rfl) (@Yi _ _ _ (@XB _ _ _ _ _ _ _ _ (pv 0) (@Yk _ _ _ _ _ _ _ _ Xb (pv 2) (pv 1)) rfl)))),?_⟩
 walk_at "rd"
 refine ⟨p,dx,_,rfl,.inl rfl,hp,fun c hc=>?_⟩
 have hne:p≠c:=Yh hp hc
 refine ⟨_,dx,_,Yc,Za,Zj,X4 (show 1≤3 by decide),_,dx,_,Yc,Za,Ze,X4 (Nat.le_trans (Wf _ _ _) (show 2≤3 by decide)),?_⟩
 refine q c _ hc (fun x o hx h=>?_) ?_ ?_
 ·rw [Yb hx,Yb hx,Yb hx,Yb (Yh h hc)];exact h
 ·rw [Yc,show lo+(span:Int) - lo=span by omega,Ya3 (n1 (by decide +kernel)),put2 (n1 (by decide +kernel)) (n1 (by decide +kernel))];rfl
 ·rw [Yb (Ne.symm hne),Yb (Ne.symm hne),Yb (Ne.symm hne),Yc]
def Z3d (C:Cs):Sp:=fun vs H Q _=>∃ (p dx M P:Addr),vs=[.ref p,.ref M,.ref P]∧H p=some (.ins C.pick dx [])∧∀ c H',H c=none→SameBut p H H'→H' p=some (.ins C.pick dx (mf c (fP M P)))→H' c=some (.lst [])→Q .non H'
theorem Z1O {k:Nat} {Z5 Z1 Z2 Z4 Z3 Z0:Addr} (R:g.RawI "PickMaker" Z1 "PickMaker.__init__" Z05 ["self","marks","parts"]) (ZE:g.Cf k "Maker" "__init__" ["self"] (Z0b (Cs.mk Z0 Z2 Z4 Z1 Z3))) (Zc:Cls g.K Z1) (Z7:Ye g.K Z1 "counts") (Zg:Ye g.K Z1 "marks") (Zf:Ye g.K Z1 "parts"):g.Ma (k+1) "PickMaker" Z1 ["self","marks","parts"] (Z3d (Cs.mk Z0 Z2 Z4 Z1 Z3)):=by
 refine R.ma Z1J (fun vs H Q E h=>by obtain ⟨p,dx,M,P,rfl,hp,q⟩:=h;rfl) fun f_ cdv A outer s H vs Q E hr h=>?_
 obtain ⟨p,dx,M,P,rfl,hp,q⟩:=h
 refine ⟨_,(@Yg _ _ _ _ _ (@YZ _ _ _ _ (@Qf _ _ _ _ _ _ _ _ _ _ _ _ _ _ _ ZE hr (@Ya _ _ _ _ _ (pv 0) Yd (by rfl)) (by omega) (by rfl) (by rfl) (by decide) (by rfl) (by rfl) (by rfl)) (by rfl)) (@Yg _ _ _ _ _ (@XB _ _ _ _ _ _ _ _ (pv 0) (pv 1) rfl) (@Yi _ _ _ (@XB _ _ _ _ _ _ _ _ (pv 0) (pv 2) rfl)))),?_⟩
 walk_at "rd"
 refine ⟨p,dx,_,rfl,.inr (.inr (.inl rfl)),hp,fun c hc=>?_⟩
 have hne:p≠c:=Yh hp hc
 refine ⟨_,dx,_,Yc,Zc,Zg,X4 (show 1≤3 by decide),_,dx,_,Yc,Zc,Zf,X4 (Nat.le_trans (Wf _ _ _) (show 2≤3 by decide)),?_⟩
 refine q c _ hc (fun x o hx h=>?_) ?_ ?_
 ·rw [Yb hx,Yb hx,Yb hx,Yb (Yh h hc)];exact h
 ·rw [Yc,Ya3 (n1 (by decide +kernel)),put2 (n1 (by decide +kernel)) (n1 (by decide +kernel))];rfl
 ·rw [Yb (Ne.symm hne),Yb (Ne.symm hne),Yb (Ne.symm hne),Yc]
def Z3e (C:Cs):Sp:=fun vs H Q _=>∃ (p dx:Addr),vs=[.ref p]∧H p=some (.ins C.use dx [])∧∀ c H',H c=none→SameBut p H H'→H' p=some (.ins C.use dx (mf c (fU .non)))→H' c=some (.lst [])→Q .non H'
theorem Z27 {k:Nat} {Z5 Z1 Z2 Z4 Z3 Z0:Addr} (R:g.RawI "UseMaker" Z3 "UseMaker.__init__" Z0i ["self"]) (ZE:g.Cf k "Maker" "__init__" ["self"] (Z0b (Cs.mk Z0 Z2 Z4 Z1 Z3))) (Zd:Cls g.K Z3) (Z9:Ye g.K Z3 "counts") (Zb:Ye g.K Z3 "named"):g.Ma (k+1) "UseMaker" Z3 ["self"] (Z3e (Cs.mk Z0 Z2 Z4 Z1 Z3)):=by
 refine R.ma Z20 (fun vs H Q E h=>by obtain ⟨p,dx,rfl,hp,q⟩:=h;rfl) fun f_ cdv A outer s H vs Q E hr h=>?_
 obtain ⟨p,dx,rfl,hp,q⟩:=h
 refine ⟨_,(@Yg _ _ _ _ _ (@YZ _ _ _ _ (@Qf _ _ _ _ _ _ _ _ _ _ _ _ _ _ _ ZE hr (@Ya _ _ _ _ _ (pv 0) Yd (by rfl)) (by omega) (by rfl) (by rfl) (by decide) (by rfl) (by rfl) (by rfl)) (by rfl)) (@Yi _ _ _ (@XB _ _ _ _ _ _ _ _ (pv 0) YdO rfl))),?_⟩
 walk_at "rd"
 refine ⟨p,dx,_,rfl,.inr (.inr (.inr rfl)),hp,fun c hc=>?_⟩
 have hne:p≠c:=Yh hp hc
 refine ⟨_,dx,_,Yc,Zd,Zb,X4 (show 1≤3 by decide),?_⟩
 refine q c _ hc (fun x o hx h=>?_) ?_ ?_
 ·rw [Yb hx,Yb hx,Yb (Yh h hc)];exact h
 ·rw [Yc,Ya3 (n1 (by decide +kernel))];rfl
 ·rw [Yb (Ne.symm hne),Yb (Ne.symm hne),Yc]
def Z31 (C:Cs):Sp:=fun vs H Q _=>∃ (T dx P:Addr) (as:List Addr),vs=[.ref T,.ref P]∧H T=some (.ins C.tab dx [])∧H P=some (.lst (as.map V.ref))∧as.length≤100 ∧
 ∀ L (ws:List Addr) H',H L=none→(∀ x∈ws,H x=none)→ws.Nodup→ws.length=as.length+1→SameBut T H H'→H' T=some (.ins C.tab dx (WT P L))→H' L=some (.lst (ws.map V.ref))→(∀ x∈ws,H' x=some (.lst []))→Q .non H'
theorem Z28 {Z5 Z1 Z2 Z4 Z3 Z0:Addr} (R:g.RawI "RowTable" Z4 "RowTable.__init__" Z0e ["self","parts"]) (b_len:g.mg "len"=none) (Zq:g.mg "range"=none) (Zm:Cls g.K Z4) (Zo:Ye g.K Z4 "parts") (Zl:Ye g.K Z4 "ways"):g.Ma (1) "RowTable" Z4 ["self","parts"] (Z31 (Cs.mk Z0 Z2 Z4 Z1 Z3)):=by
 refine R.ma Z1X (fun vs H Q E h=>by obtain ⟨T,dx,P,as,rfl,hT,hP,hl,q⟩:=h;rfl) fun f_ cdv A outer s H vs Q E hr h=>?_
 obtain ⟨T,dx,P,as,rfl,hT,hP,hl,q⟩:=h
 refine ⟨_,(@Yg _ _ _ _ _ (@XB _ _ _ _ _ _ _ _ (pv 0) (pv 1) rfl) (@Yi _ _ _ (@XB _ _ _ _ _ _ _ _ (pv 0) (@Wh _ _ _ _ _ _ _ ([none]) ((["place"]:List Str)) _ (Yv 0) _ _ (.own .nil) rfl (@Y8 _ _ _ _ _ _ rfl Zq (@Ya _ _ _ _ _ (@Yk _ _ _ _ _ _ _ _ YJ (@YX _ _ _ _ _ _ _ _ _ _ b_len YA (@Ya _ _ _ _ _ (pv 1) Yd (by rfl)) (by decide +kernel) (by rfl) (by rfl) (by decide) (by decide) (by rfl) (by rfl)) Yf) Yd (by rfl)) (by rfl)) (fun cl C s₀ H₀ fp pn=>(@Yn _ _ (0) _ (show List.Nodup (["place"]:List Str) by decide +kernel) rfl (.inl rfl) (.inr rfl))) (fun cl C s₀ H₀ fp pn=>Xj) (fun cl C s₀ H₀ fp pn=>(@XL _ _ _ _ Yd)) (by intro x hx;simp at hx) (by rfl) (by decide) (by decide +kernel) (by intro _;rfl)) rfl))),?_⟩
 walk_at "rd"
 have nTP:T≠P:=Y3 hT hP (by simp)
 refine ⟨_,dx,_,hT,Zm,Zo,by decide,?_⟩
 obtain ⟨H1,hH1⟩:∃ H1,H1=upd H T (.ins Z4 dx (YT "parts" (.ref P) [])):=⟨_,rfl⟩
 rw [← hH1]
 have h1T:H1 T=some (.ins Z4 dx (YT "parts" (.ref P) [])):=by rw [hH1,Yc]
 have h1:∀ {b:Addr},b≠T→H1 b=H b:=fun n=>by rw [hH1,Yb n]
 refine X2 (n:=as.length+1) (fun D i zs H'=>∃ ws:List Addr,zs=ws.map V.ref∧ws.length=i∧ws.Nodup∧(∀ x∈ws,H1 x=none∧x≠D∧H' x=some (.lst []))∧H' D=some (.lst zs)∧∀ b o,b≠D→H1 b=some o→H' b=some o) (fun R r=>?_) (by omega) ?_ ?_ ?_ ?_
 ·walk_at "rd"
  refine ⟨_,.inl (SqL.of ((h1 (Ne.symm nTP)).trans hP)),?_⟩
  rw [List.length_map]
  exact r
 ·intro D hD
  exact ⟨[],rfl,rfl,.nil,fun x hx=>(by cases hx),Yc,fun b o hb e=>by rw [Yb hb];exact e⟩
 ·rintro D i zs H' ⟨ws,rfl,h2,_,_,h3,_⟩
  exact ⟨by rw [List.length_map,h2],h3⟩
 ·rintro D i zs H' hD hi ⟨ws,rfl,hwl,hnd,hws,hd,fr⟩ R r
  walk_at "rd"
  refine ⟨few (by decide),fun X gX=>?_⟩
  have nXD:X≠D:=Ne.symm (Yh hd gX)
  have sX:=Yl.upd_new gX (.lst [])
  have gX1:H1 X=none:=by
   cases e:H1 X with
   | none=>rfl
   | some o=>rw [fr X o nXD e] at gX;cases gX
  refine r _ _ (sX _ _ hd) ⟨ws++[X],by rw [List.map_append];rfl,by rw [List.length_append,hwl];rfl,?_,fun x hx=>?_,Yc,fun b o hb e=>by rw [Yb hb];exact sX _ _ (fr b o hb e)⟩
  ·rw [List.nodup_append]
   refine ⟨hnd,by simp,fun x hx y hy=>?_⟩
   have:y=X:=by simpa using hy
   subst this
   intro z
   subst z
   rw [(hws x hx).2.2] at gX
   cases gX
  ·rcases List.mem_append.mp hx with hx | hx
   ·obtain ⟨k1,k2,k3⟩:=hws x hx
    exact ⟨k1,k2,by rw [Yb k2];exact sX _ _ k3⟩
   ·have:x=X:=by simpa using hx
    subst this
    exact ⟨gX1,nXD,by rw [Yb nXD,Yc]⟩
 ·rintro L zs H' hL ⟨ws,rfl,hwl,hnd,hws,hd,fr⟩
  have nLT:L≠T:=Ne.symm (Yh h1T hL)
  have nf:∀ {b:Addr},H1 b=none→H b=none:=fun {b} e=>by
   by_cases c:b=T
   ·subst c;rw [h1T] at e;cases e
   ·rw [← h1 c];exact e
  have h'T:=fr T _ (Ne.symm nLT) h1T
  refine ⟨_,dx,_,h'T,Zm,Zl,X4 (show 1≤3 by decide),?_⟩
  have nw:∀ x∈ws,x≠T:=fun x hx=>Y3 (hws x hx).2.2 h'T (by simp)
  refine q L ws _ (nf hL) (fun x hx=>nf (hws x hx).1) hnd hwl (fun b o hb e=>?_) ?_ (by rw [Yb nLT];exact hd) (fun x hx=>by rw [Yb (nw x hx)];exact (hws x hx).2.2)
  ·rw [Yb hb]
   exact fr b o (Yh ((h1 hb).trans e) hL) ((h1 hb).trans e)
  ·rw [Yc]
   refine congrArg some (congrArg (HO.ins _ _) ?_)
   show YT "ways" (.ref L) [(("parts":Str),V.ref P)]=WT P L
   simp only [YT,if_neg (n1 (a:=("parts":Str)) (b:=("ways":Str)) (by decide +kernel))];rfl
def Z3f (C:Cs):Sp:=fun vs H Q _=>∃ (p dx P:Addr) (as:List Addr),vs=[.ref p,.ref P]∧H p=some (.ins C.row dx [])∧H P=some (.lst (as.map V.ref))∧as.length≤100 ∧
 ∀ c T dt L (ws:List Addr) H',H c=none→H T=none→H L=none→(∀ x∈ws,H x=none)→(c::ws).Nodup→ws.length=as.length+1→SameBut p H H'→H' p=some (.ins C.row dx (mf c (fR P T)))→H' c=some (.lst [])→H' T=some (.ins C.tab dt (WT P L))→H' L=some (.lst (ws.map V.ref))→(∀ x∈ws,H' x=some (.lst []))→Q .non H'
theorem Z29 {k:Nat} {Z5 Z1 Z2 Z4 Z3 Z0:Addr} (R:g.RawI "RowMaker" Z2 "RowMaker.__init__" Z0g ["self","parts"]) {j_RowTable___init__:Nat} (Z2n:g.Ma j_RowTable___init__ "RowTable" Z4 ["self","parts"] (Z31 (Cs.mk Z0 Z2 Z4 Z1 Z3))) (h_RowTable___init__:j_RowTable___init__+1≤k) (ZE:g.Cf k "Maker" "__init__" ["self"] (Z0b (Cs.mk Z0 Z2 Z4 Z1 Z3))) (Zh:Cls g.K Z2) (Z8:Ye g.K Z2 "counts") (Zk:Ye g.K Z2 "parts") (Zi:Ye g.K Z2 "table"):g.Ma (k+1) "RowMaker" Z2 ["self","parts"] (Z3f (Cs.mk Z0 Z2 Z4 Z1 Z3)):=by
 refine R.ma Z1Y (fun vs H Q E h=>by obtain ⟨p,dx,P,as,rfl,hp,hP,hl,q⟩:=h;rfl) fun f_ cdv A outer s H vs Q E hr h=>?_
 obtain ⟨p,dx,P,as,rfl,hp,hP,hl,q⟩:=h
 refine ⟨_,(@Yg _ _ _ _ _ (@YZ _ _ _ _ (@Qf _ _ _ _ _ _ _ _ _ _ _ _ _ _ _ ZE hr (@Ya _ _ _ _ _ (pv 0) Yd (by rfl)) (by omega) (by rfl) (by rfl) (by decide) (by rfl) (by rfl) (by rfl)) (by rfl)) (@Yg _ _ _ _ _ (@XB _ _ _ _ _ _ _ _ (pv 0) (pv 1) rfl) (@Yi _ _ _ (@XB _ _ _ _ _ _ _ _ (pv 0) (@Ub _ _ _ _ _ _ _ _ _ _ _ _ _ Z2n hr (@Ya _ _ _ _ _ (pv 1) Yd (by rfl)) (by omega) (by rfl) (by rfl) (by decide) (by rfl) (by rfl)) rfl)))),?_⟩
 walk_at "rd"
 refine ⟨p,dx,_,rfl,.inr (.inl rfl),hp,fun c hc=>?_⟩
 have hne:p≠c:=Yh hp hc
 have npP:p≠P:=Y3 hp hP (by simp)
 have nPc:P≠c:=Yh hP hc
 refine ⟨_,dx,_,Yc,Zh,Zk,X4 (show 1≤3 by decide),?_⟩
 obtain ⟨H1,hH1⟩:∃ H1,H1=upd (upd (upd H c (.lst [])) p (.ins Z2 dx [("counts",.ref c)])) p (.ins Z2 dx (YT "parts" (.ref P) [("counts",.ref c)])):=⟨_,rfl⟩
 rw [← hH1]
 have h1p:H1 p=some (.ins Z2 dx (mf c [("parts",.ref P)])):=by rw [hH1,Yc,Ya3 (n1 (by decide +kernel))]
 have h1c:H1 c=some (.lst []):=by rw [hH1,Yb (Ne.symm hne),Yb (Ne.symm hne),Yc]
 have h1:∀ {b:Addr} {o:HO},b≠p→H b=some o→H1 b=some o:=fun n e=>by rw [hH1,Yb n,Yb n,Yb (Yh e hc)];exact e
 have nf:∀ {b:Addr},H1 b=none→H b=none:=fun {b} e=>by
  cases z:H b with
  | none=>rfl
  | some o =>
   exfalso
   by_cases cc:b=p
   ·subst cc;rw [h1p] at e;cases e
   ·rw [h1 cc z] at e;cases e
 intro T dt gT gdt hnd
 have sd:=Yl.upd_new gdt (.own T)
 have gT2:upd H1 dt (.own T) T=none:=by rw [Yb (Ne.symm hnd)];exact gT
 have s12:=sd.trans (.upd_new gT2 (.ins Z4 dt []))
 refine ⟨T,dt,P,as,rfl,Yc,s12 _ _ (h1 (Ne.symm npP) hP),hl,fun L ws H3 gL gws hndw hwl sb h3T h3L h3w=>?_⟩
 have npT:p≠T:=Yh h1p gT
 have ncT:c≠T:=Yh h1c gT
 have h3p:=sb _ _ npT (s12 _ _ h1p)
 have h3c:=sb _ _ ncT (s12 _ _ h1c)
 have ncw:c∉ws:=fun z=>by have:=gws c z;rw [s12 _ _ h1c] at this;cases this
 have npw:∀ x∈ws,x≠p:=fun x hx=>Y3 (h3w x hx) h3p (by simp)
 have npL:L≠p:=Y3 h3L h3p (by simp)
 refine ⟨rfl,_,dx,_,h3p,Zh,Zi,X4 (show 2≤3 by decide),?_⟩
 refine q c T dt L ws _ hc (nf gT) (nf (s12.free gL)) (fun x hx=>nf (s12.free (gws x hx))) (List.nodup_cons.mpr ⟨ncw,hndw⟩) hwl (fun b o hb e=>?_) ?_ ?_ ?_ ?_ (fun x hx=>?_)
 ·rw [Yb hb]
  exact sb _ _ (Yh (h1 hb e) gT) (s12 _ _ (h1 hb e))
 ·rw [Yc,put2 (n1 (by decide +kernel)) (n1 (by decide +kernel))];rfl
 ·rw [Yb (Ne.symm hne)];exact h3c
 ·rw [Yb (Ne.symm npT)];exact h3T
 ·rw [Yb npL];exact h3L
 ·rw [Yb (npw x hx)];exact h3w x hx
def lf (b:V) (d:Addr):List (Str×V):=[("book",b),("makers",.ref d)]
theorem nbm:¬ (("book":Str)="makers"):=by decide +kernel
theorem Yef (b:V) (d:Addr):YT "makers" (.ref d) (YT "book" b [])=lf b d:=by
 simp only [YT,if_neg nbm];rfl
theorem XY (b:V) (d:Addr):(lf b d).lookup ("makers":Str)=some (.ref d):=by
 show List.lookup ("makers":Str) [(("book":Str),b),(("makers":Str),V.ref d)]=_
 rw [List.lookup_cons,show (("makers":Str)==("book":Str))=false by decide +kernel,List.lookup_cons,show (("makers":Str)==("makers":Str))=true by decide +kernel]
theorem Ydx (b:V) (d:Addr):(lf b d).lookup ("book":Str)=some b:=rfl
theorem Ut (b:V) (d:Addr) {m:Str} (h1:(m==("book":Str))=false) (h2:(m==("makers":Str))=false):(lf b d).lookup m=none:=by
 show List.lookup m [(("book":Str),b),(("makers":Str),V.ref d)]=_
 rw [List.lookup_cons,h1,List.lookup_cons,h2];rfl
def Z3g (P:Program) (w:World) (C:Addr):Sp:=fun vs H Q _=>∃ (p dx:Addr) (b:V),vs=[.ref p,b]∧H p=some (.ins C dx [])∧∀ d H',H d=none→SameBut p H H'→H' p=some (.ins C dx (lf b d))→H' d=some (DDi P w d [])→Q .non H'
theorem Z2C {Z5 Z1 Z2 Z4 Z3 Z0:Addr} (R:g.RawI "Lister" Z5 "Lister.__init__" Z0w ["self","book"]) (Zp:Cls g.K Z5) (Zs:Ye g.K Z5 "book") (Zn:Ye g.K Z5 "makers"):g.Ma (1) "Lister" Z5 ["self","book"] (Z3g g.P g.w Z5):=by
 refine R.ma Z2z (fun vs H Q E h=>by obtain ⟨p,dx,b,rfl,hp,q⟩:=h;rfl) fun f_ cdv A outer s H vs Q E hr h=>?_
 obtain ⟨p,dx,b,rfl,hp,q⟩:=h
 refine ⟨_,(@Yg _ _ _ _ _ (@XB _ _ _ _ _ _ _ _ (pv 0) (pv 1) rfl) (@Yi _ _ _ (@XB _ _ _ _ _ _ _ _ (pv 0) Ycw rfl))),?_⟩
 walk_at "rd"
 refine ⟨Z5,dx,[],hp,Zp,Zs,by decide,fun d hd=>?_⟩
 have hne:p≠d:=Yh Yc hd
 rw [Yb (Ne.symm hne)] at hd
 refine ⟨Z5,dx,_,by rw [Yb hne];exact Yc,Zp,Zn,by simp [YT],q d _ hd (fun x o hx h=>?_) ?_ ?_⟩
 ·rw [Yb hx,Yb (Yh h hd),Yb hx];exact h
 ·rw [Yc,Yef]
 ·rw [Yb (Ne.symm hne),Yc]
  rfl
theorem YU {H:Hp} {a b:Addr} {o:HO} (h:upd H a o b=none):H b=none:=by
 by_cases e:b=a
 ·subst e;rw [Yc] at h;cases h
 ·rw [Yb e] at h;exact h
theorem Wm {H H':Hp} {x dx:Addr} {o u:HO} (hx:H x=none) (hdx:H dx=none) (sb:SameBut x (upd (upd H dx o) x u) H'):Yl H H':=fun y z h=>by
 have n1:y≠x:=Yh h hx
 have n2:y≠dx:=Yh h hdx
 exact sb _ _ n1 (by rw [Yb n1,Yb n2];exact h)
def Vi (K:PySem.W.Frag) (H:Hp) (B:Addr) (prs:Prs):Prop:=∃ vs:List V,H B=some (.lst vs)∧vs.length=prs.length∧∀ (i:Nat) v q,vs[i]?=some v→prs[i]?=some q→∃ T a,v = .ref T∧SqT K H T [.str (S q.1),.ref a]∧DK K H a (kd q.2)
def Z32 (K:PySem.W.Frag):Sp:=fun vs H Q _=>∃ (prs:Prs) (B:Addr) (x:List Nat) (q:List Nat×Sh),vs=[.ref B,.str (S x)]∧Vi K H B prs∧prs.find? (fun q=>decide (q.1=x))=some q∧∀ a,DK K H a (kd q.2)→Q (.ref a) H
theorem Q2 {Z5 Z1 Z2 Z4 Z3 Z0:Addr} (R:g.Raw "shape_of" "shape_of" Z1U ["book","name"]):g.Fn (1) "shape_of" ["book","name"] (Z32 g.K):=by
 refine R.fn Z30 (fun vs H Q E h=>by obtain ⟨prs,B,x,q,rfl,⟨vs,hB,hl,hv⟩,hf,q'⟩:=h;rfl) fun f_ cdv A outer s H vs Q E hr h=>?_
 obtain ⟨prs,B,x,q,rfl,⟨vs,hB,hl,hv⟩,hf,q'⟩:=h
 refine ⟨_,(@Yg _ _ _ _ _ (@Xn _ _ _ _ _ _ _ _ PassesOwn.never rfl (@Xr _ _ _ _ (pv 0)) (@Yn _ _ (2) _ Z30.nd rfl (.inl rfl) (by first | exact .inl rfl | exact .inr rfl | assumption)) (@Yi _ _ _ (@Y9 _ _ _ _ _ _ _ _ (@Yz _ _ _ _ _ _ _ _ Xh (@Yx _ _ _ _ _ _ _ Xc (pv 2) Yf (fun _ _=>rfl)) (pv 1) (YD _)) (@Yi _ _ _ (@Yo _ _ _ _ (@Yx _ _ _ _ _ _ _ Xc (pv 2) Yf (fun _ _=>rfl)))) YR)) (by intro _;rfl)) (@Yi _ _ _ XV)),?_⟩
 walk_at "rd"
 refine Uf (K:=g.K) (xs:=vs) (fun c i σ H'=>c=B∧H=H'∧(∃ o,σ=[some (.ref B),some (.str (S x)),o])∧∀ (j:Nat) p,j<i→prs[j]?=some p→p.1≠x) (fun R r=>by walk_at "rd";exact r B _ ⟨rfl,rfl,⟨_,rfl⟩,fun j p hj=>by omega⟩) (fun c i σ H' _ ⟨e,e2,_⟩=>by subst e e2;exact SqL.of hB) ?_ ?_
 ·rintro c i v σ H' hx ⟨rfl,rfl,⟨o,rfl⟩,hall⟩
  have hi:=(List.getElem?_eq_some_iff.mp hx).1
  have hp:prs[i]?=some (prs[i]'(by omega)):=List.getElem?_eq_getElem _
  generalize prs[i]'(by omega)=p at hp
  obtain ⟨T,a,rfl,hT,hk⟩:=hv i v p hx hp
  walk_at "rd"
  refine ⟨_,hT,_,Yq (j:=0) rfl,Y1 _ _,?_⟩
  by_cases e:p.1=x
  ·refine Vc (by rw [e]) ⟨_,hT,_,Yq (j:=1) rfl,q' a ?_⟩
   have:q=p:=by
    obtain ⟨j,hj,e1,e2⟩:=List.find?_eq_some_iff_getElem.mp hf |>.2
    have e1':prs[j]?=some q:=by rw [List.getElem?_eq_getElem hj,e1]
    have hqx:q.1=x:=of_decide_eq_true (List.find?_eq_some_iff_getElem.mp hf).1
    rcases Nat.lt_trichotomy j i with c | c | c
    ·exact absurd hqx (hall j q c e1')
    ·subst c;rw [e1'] at hp;exact Option.some.inj hp
    ·have:=e2 i c
     rw [List.getElem?_eq_getElem (by omega)] at hp
     have hp:=Option.some.inj hp
     rw [hp] at this
     simp [e] at this
   rw [this]
   exact hk
  ·refine XT (fun z=>e (Vb (V.str.inj z))) fun j p' hj hp'=>?_
   rcases Nat.lt_succ_iff_lt_or_eq.mp hj with c | rfl
   ·exact hall j p' c hp'
   ·rw [hp] at hp'
    have:=Option.some.inj hp'
    subst this
    exact e
 ·rintro c σ H' ⟨rfl,rfl,⟨o,rfl⟩,hall⟩
  exfalso
  obtain ⟨j,hj,e1,e2⟩:=List.find?_eq_some_iff_getElem.mp hf |>.2
  have hqx:q.1=x:=of_decide_eq_true (List.find?_eq_some_iff_getElem.mp hf).1
  exact hall j q (by omega) (by rw [List.getElem?_eq_getElem hj,e1]) hqx
def FrB (d:Addr) (H H':Hp):Prop:=∀ b o,b≠d→H b=some o→H' b=some o
theorem FrB.trans {d:Addr} {H H1 H2:Hp} (a:FrB d H H1) (b:FrB d H1 H2):FrB d H H2:=fun c o n e=>b c o n (a c o n e)
theorem Vz {d:Addr} {H H':Hp} (s:Yl H H'):FrB d H H':=fun c o _ e=>s _ _ e
theorem Vi.tupk {K:PySem.W.Frag} {H H':Hp} {B:Addr} {prs:Prs} (h:Vi K H B prs) (t:XC H H') (hB:∀ o,H B=some o→H' B=some o):Vi K H' B prs:=by
 obtain ⟨vs,h1,h2,h3⟩:=h
 refine ⟨vs,hB _ h1,h2,fun i v q e1 e2=>?_⟩
 obtain ⟨T,a,k1,k2,k3⟩:=h3 i v q e1 e2
 exact ⟨T,a,k1,t.sq k2,k3.tupk t⟩
structure LS (P0:Program) (w0:World) (K:PySem.W.Frag) (C:Cs) (CL:Addr) (prs:Prs) (w:Wo) (U O:Addr→Prop) (H:Hp) (ls dx d B:Addr) (xs:Dx):Prop where
 hl:H ls=some (.ins CL dx (lf (.ref B) d))
 hb:Vi K H B prs
 hd:DictD P0 w0 K H d xs
 bi:BI C w U O H
 nd:¬ U d
 nl:¬ U ls
 keys:∀ e∈xs,∃ sh,e.1=kd sh∧okS prs sh∧w.reg e.2.2=some sh
 bk:w.bk=bkO prs
 ob:okB prs
 M2:w.M=2
section
variable {P0:Program} {w0:World} {K:PySem.W.Frag} {C:Cs} {CL:Addr} {prs:Prs} {w:Wo} {U O:Addr→Prop} {H H':Hp} {ls dx d B:Addr} {xs:Dx}
theorem LS.loc (L:LS P0 w0 K C CL prs w U O H ls dx d B xs) {D:Addr} (hD:∀ o,H D=some o→∃ zs,o = .lst zs) (nB:D≠B) (nU:¬ U D) (hk:∀ b o,b≠D→H b=some o→H' b=some o):LS P0 w0 K C CL prs w U O H' ls dx d B xs:=by
 have ne:∀ {b:Addr} {o:HO},H b=some o→(∀ zs,o ≠ .lst zs)→b≠D:=fun e n z=>by
  rw [z] at e
  obtain ⟨zs,h⟩:=hD _ e
  exact n zs h
 have tk:XC H H':=fun b ys h=>by
  rcases h with h | ⟨o,h⟩
  ·exact .inl (hk _ _ (ne h (by intro zs z;cases z)) h)
  ·exact .inr ⟨o,hk _ _ (ne h (by intro zs z;cases z)) h⟩
 refine ⟨hk _ _ (ne L.hl (by intro zs z;cases z)) L.hl,L.hb.tupk tk fun o e=>hk _ _ (Ne.symm nB) e,L.hd.keep tk (hk _ _ (ne L.hd.at_ (by intro zs z;cases z)) L.hd.at_),L.bi.keep fun b o hb e=>hk b o (fun z=>nU (by rw [← z];exact hb)) e,L.nd,L.nl,L.keys,L.bk,L.ob,L.M2⟩
theorem LS.same (L:LS P0 w0 K C CL prs w U O H ls dx d B xs) (s:Yl H H'):LS P0 w0 K C CL prs w U O H' ls dx d B xs :=
 ⟨s _ _ L.hl,L.hb.tupk (YK s) fun o e=>s _ _ e,L.hd.keep (YK s) (s _ _ L.hd.at_),L.bi.keep fun b o _ e=>s _ _ e,L.nd,L.nl,L.keys,L.bk,L.ob,L.M2⟩
theorem W3 {a:Addr} {k:PyData} {φ:Heap→Prop} (h:DK K H a k) (fr:FrB d H H') (hd:H d=some (.ext φ)):DK K H' a k:=h.tupk (Xx fr hd (by intro xs z;cases z) (by intro o v z;cases z))
theorem LS.made (L:LS P0 w0 K C CL prs w U O H ls dx d B xs) (s:Yl H H') {p:Addr} {os ss:List Addr} {sh:Sh} (N:New H H' U p os ss) (hd:d∉os∧d∉ss) (hl:ls∉os∧ls∉ss) (hm:X3 C (w.add p sh os) (t0 (Ua U os ss)) H' p sh):LS P0 w0 K C CL prs (w.add p sh os) (Ua U os ss) O H' ls dx d B xs:=by
 have nOp:¬ O p:=fun z=>by
  obtain ⟨_,_,_,_,h,_⟩:=L.bi.op p z
  exact N.nu _ (.inr N.inn) h.2
 refine ⟨s _ _ L.hl,L.hb.tupk (YK s) fun o e=>s _ _ e,L.hd.keep (YK s) (s _ _ L.hd.at_),N.bi L.bi (fun _ _=>Iff.rfl) (fun _=>hm) (fun z=>absurd z nOp),fun z=>?_,fun z=>?_,fun e he=>?_,L.bk,L.ob,L.M2⟩
 ·rcases z with z | z | z
  ·exact L.nd z
  ·exact hd.1 z
  ·exact hd.2 z
 ·rcases z with z | z | z
  ·exact L.nl z
  ·exact hl.1 z
  ·exact hl.2 z
 ·obtain ⟨s',h1,h2,h3⟩:=L.keys e he
  exact ⟨s',h1,h2,(N.wg (H0:=fun _=>none) L.bi sh fun _ _=>rfl).reg _ _ h3⟩
theorem LS.reg (L:LS P0 w0 K C CL prs w U O H ls dx d B xs) {p:Addr} {sh:Sh} (hok:okS prs sh) (h:lookD xs (kd sh)=some p):w.reg p=some sh:=by
 obtain ⟨e,he,hp⟩:=Option.map_eq_some_iff.mp h
 have hm:=List.mem_of_find?_eq_some he
 have hk:e.1=kd sh:=of_decide_eq_true (List.find?_some (p:=fun (x:PyData×Addr×Addr)=>decide (x.1=kd sh)) he)
 obtain ⟨s',h1,h2,h3⟩:=L.keys e hm
 rw [hk] at h1
 rw [QF hok h2 h1,← hp]
 exact h3
end
noncomputable def nn (prs:Prs) (xs:Dx):Nat:=(prs.filter fun q=>(lookD xs (kd (.use q.1))).isNone).length
def Mo (xs xs':Dx):Prop:=∀ e,lookD xs e≠none→lookD xs' e≠none
theorem Mo.refl (xs:Dx):Mo xs xs:=fun _ h=>h
theorem Mo.trans {xs xs1 xs2:Dx} (a:Mo xs xs1) (b:Mo xs1 xs2):Mo xs xs2:=fun e h=>b e (a e h)
theorem Mo.at {xs xs':Dx} (h:Mo xs xs') (e:PyData):(lookD xs' e).isNone=true→(lookD xs e).isNone=true:=fun z=>by
 cases c:lookD xs e with
 | none=>rfl
 | some p =>
  have:=h e (by rw [c];intro y;cases y)
  rw [Option.isNone_iff_eq_none] at z
  exact absurd z this
theorem UH {prs:Prs} {xs xs':Dx} (h:Mo xs xs'):nn prs xs'≤nn prs xs:=by
 unfold nn
 induction prs with
 | nil=>exact Nat.le_refl _
 | cons q prs ih =>
  rw [List.filter_cons,List.filter_cons]
  have:=h.at (kd (.use q.1))
  split
  ·rename_i c
   rw [if_pos (this c)]
   simp only [List.length_cons];omega
  ·split
   ·simp only [List.length_cons];omega
   ·exact ih
theorem Ydy {prs:Prs} {xs xs':Dx} {x:List Nat} (h:Mo xs xs') (hx:∃ q,(prs.find? fun q=>decide (q.1=x))=some q) (h1:lookD xs (kd (.use x))=none) (h2:lookD xs' (kd (.use x))≠none):nn prs xs'+1≤nn prs xs:=by
 obtain ⟨q,hq⟩:=hx
 have hm:=List.mem_of_find?_eq_some hq
 have he:q.1=x:=of_decide_eq_true (List.find?_some (p:=fun (z:List Nat×Sh)=>decide (z.1=x)) hq)
 clear hq
 subst he
 unfold nn
 induction prs with
 | nil=>cases hm
 | cons r prs ih =>
  rw [List.filter_cons,List.filter_cons]
  have ha:=h.at (kd (.use r.1))
  have hmo:=UH (prs:=prs) h
  unfold nn at hmo
  rcases List.mem_cons.mp hm with rfl | hm
  ·have e1:(lookD xs (kd (.use q.1))).isNone=true:=by rw [h1];rfl
   have e2:¬ (lookD xs' (kd (.use q.1))).isNone=true:=fun z=>h2 (Option.isNone_iff_eq_none.mp z)
   rw [if_neg e2,if_pos e1]
   simp only [List.length_cons];omega
  ·have:=ih hm
   split
   ·rename_i c
    rw [if_pos (ha c)]
    simp only [List.length_cons];omega
   ·split
    ·simp only [List.length_cons];omega
    ·exact this
theorem nn_le {prs:Prs} {xs:Dx}:nn prs xs≤prs.length:=List.length_filter_le _ _
def Uu (P0:Program) (w0:World) (K:PySem.W.Frag) (C:Cs) (CL:Addr) (l:Nat):Sp:=fun vs H Q _=>∃ (prs:Prs) (w:Wo) (U O:Addr→Prop) (ls dx d B a:Addr) (sh:Sh) (xs:Dx),vs=[.ref ls,.ref a]∧LS P0 w0 K C CL prs w U O H ls dx d B xs∧DK K H a (kd sh)∧okS prs sh∧kind sh≤4∧dep sh≤w.M∧wt sh≤1000∧xs.length+50*nn prs xs+2*wt sh≤900∧8*nn prs xs+2*dep sh+1≤l ∧
 ∀ p H' w' U' xs',LS P0 w0 K C CL prs w' U' O H' ls dx d B xs'→WG w w' U U' H→FrB d H H'→w'.reg p=some sh→xs'.length+50*nn prs xs'+1≤xs.length+50*nn prs xs+2*wt sh→Mo xs xs'→Q (.ref p) H'
def ZX (P0:Program) (w0:World) (K:PySem.W.Frag) (C:Cs) (CL:Addr) (l:Nat):Sp:=fun vs H Q _=>∃ (prs:Prs) (w:Wo) (U O:Addr→Prop) (ls dx d B a:Addr) (sh:Sh) (xs:Dx),vs=[.ref ls,.ref a]∧LS P0 w0 K C CL prs w U O H ls dx d B xs∧DK K H a (kd sh)∧okS prs sh∧dep sh≤w.M∧wt sh≤1000∧xs.length+50*nn prs xs+2*wt sh≤900∧8*nn prs xs+2*dep sh+2≤l ∧
 ∀ p H' w' U' xs',LS P0 w0 K C CL prs w' U' O H' ls dx d B xs'→WG w w' U U' H→FrB d H H'→w'.reg p=some sh→xs'.length+50*nn prs xs'≤xs.length+50*nn prs xs+2*wt sh→Mo xs xs'→Q (.ref p) H'
def Z1k (P0:Program) (w0:World) (K:PySem.W.Frag) (C:Cs) (CL:Addr) (l:Nat):Sp:=fun vs H Q _=>∃ (prs:Prs) (w:Wo) (U O:Addr→Prop) (ls dx d B a:Addr) (x:List Nat) (xs:Dx),vs=[.ref ls,.ref a]∧LS P0 w0 K C CL prs w U O H ls dx d B xs∧DK K H a (kd (.use x))∧okS prs (.use x)∧lookD xs (kd (.use x))=none∧xs.length+50*nn prs xs≤900∧1≤l∧8*nn prs xs≤l+1 ∧
 ∀ H' w' U' xs',LS P0 w0 K C CL prs w' U' O H' ls dx d B xs'→WG w w' U U' H→FrB d H H'→lookD xs' (kd (.use x))≠none→xs'.length+50*nn prs xs'≤xs.length+50*nn prs xs→Mo xs xs'→Q .non H'
theorem Yeg {P0:Program} {w0:World} {K:PySem.W.Frag} {C:Cs} {CL:Addr} {vs:List V} {H:Hp} {Q:VK} {E:XK} (h:Uu P0 w0 K C CL 0 vs H Q E):False:=by
 obtain ⟨prs,w,U,O,ls,dx,d,B,a,sh,xs,_,_,_,_,_,_,_,_,h,_⟩:=h
 omega
theorem Z33 {P0:Program} {w0:World} {K:PySem.W.Frag} {C:Cs} {CL:Addr} {vs:List V} {H:Hp} {Q:VK} {E:XK} (h:ZX P0 w0 K C CL 0 vs H Q E):False:=by
 obtain ⟨prs,w,U,O,ls,dx,d,B,a,sh,xs,_,_,_,_,_,_,_,h,_⟩:=h
 omega
theorem Ya4 {P0:Program} {w0:World} {K:PySem.W.Frag} {C:Cs} {CL:Addr} {vs:List V} {H:Hp} {Q:VK} {E:XK} (h:Z1k P0 w0 K C CL 0 vs H Q E):False:=by
 obtain ⟨prs,w,U,O,ls,dx,d,B,a,x,xs,_,_,_,_,_,_,h,_⟩:=h
 omega
theorem VQ {prs:Prs} {sh:Sh} (ob:okB prs) (h:okS prs sh) (hw:wt sh≤1000) {s:Nat} (hs:s≤45):sm (cnt (bkO prs) sh s):=by
 obtain ⟨h1,h2⟩:=Uq prs ob sh s hs h hw
 refine ⟨12100*s+(12*wt sh - 6)+1,by omega,?_⟩
 have h3:(2:Int)^(12100*s+(12*wt sh - 6))<2^(12100*s+(12*wt sh - 6)+1):=by
  have:(2:Nat)^(12100*s+(12*wt sh - 6))<2^(12100*s+(12*wt sh - 6)+1):=Nat.pow_lt_pow_right (by decide) (by omega)
  exact_mod_cast this
 have h4:((cnt (bkO prs) sh s).natAbs:Int)<((2^(12100*s+(12*wt sh - 6)+1):Nat):Int):=by
  rw [Int.natAbs_of_nonneg h1]
  have:=Int.lt_of_le_of_lt h2 h3
  exact_mod_cast this
 exact_mod_cast h4
theorem YbW {prs:Prs} {ps:List Sh} (ob:okB prs) (h:Xo prs ps) (hw:wts ps≤1000) {s:Nat} (hs:s≤45):sm (YI (bkO prs) ps s):=by
 obtain ⟨h1,h2⟩:=UG prs ob ps s hs h hw
 refine ⟨12100*s+12*wts ps+1,by omega,?_⟩
 have h3:(2:Int)^(12100*s+12*wts ps)<2^(12100*s+12*wts ps+1):=by
  have:(2:Nat)^(12100*s+12*wts ps)<2^(12100*s+12*wts ps+1):=Nat.pow_lt_pow_right (by decide) (by omega)
  exact_mod_cast this
 have h4:((YI (bkO prs) ps s).natAbs:Int)<((2^(12100*s+12*wts ps+1):Nat):Int):=by
  rw [Int.natAbs_of_nonneg h1]
  have:=Int.lt_of_le_of_lt h2 h3
  exact_mod_cast this
 exact_mod_cast h4
section
variable {P0:Program} {w0:World} {K:PySem.W.Frag} {C:Cs} {CL:Addr} {prs:Prs} {w w1:Wo} {U U1 O:Addr→Prop} {H H1 H3:Hp} {ls dx d B:Addr} {xs xs1:Dx}
theorem LS.fin (L:LS P0 w0 K C CL prs w U O H ls dx d B xs) (L1:LS P0 w0 K C CL prs w1 U1 O H1 ls dx d B xs1) (G1:WG w w1 U U1 H) (fr1:FrB d H H1) (s:Yl H1 H3) {p:Addr} {os ss:List Addr} {sh:Sh} (N:New H1 H3 U1 p os ss) (h0:∀ b,b∈os∨b∈ss→H b=none) (hm:X3 C (w1.add p sh os) (t0 (Ua U1 os ss)) H3 p sh) :
  LS P0 w0 K C CL prs (w1.add p sh os) (Ua U1 os ss) O H3 ls dx d B xs1∧WG w (w1.add p sh os) U (Ua U1 os ss) H∧FrB d H H3∧(w1.add p sh os).reg p=some sh:=by
 have nd:∀ {l:List Addr},(∀ b∈l,H b=none)→d∉l:=fun h z=>by have:=h d z;rw [L.hd.at_] at this;cases this
 have nl:∀ {l:List Addr},(∀ b∈l,H b=none)→ls∉l:=fun h z=>by have:=h ls z;rw [L.hl] at this;cases this
 exact ⟨L1.made s N ⟨nd fun b hb=>h0 b (.inl hb),nd fun b hb=>h0 b (.inr hb)⟩ ⟨nl fun b hb=>h0 b (.inl hb),nl fun b hb=>h0 b (.inr hb)⟩ hm,G1.trans (N.wg L1.bi sh h0) (fun _ h=>h),fr1.trans (Vz s),if_pos rfl⟩
theorem LS.back (L1:LS P0 w0 K C CL prs w1 U1 O H1 ls dx d B xs1) (fr1:FrB d H H1) {b:Addr} (h:H1 b=none):H b=none:=by
 cases e:H b with
 | none=>rfl
 | some o =>
  exfalso
  by_cases c:b=d
  ·subst c;rw [L1.hd.at_] at h;cases h
  ·rw [fr1 b o c e] at h;cases h
end
theorem Ydz {prs:Prs} {sh q:Sh} (h:okS prs sh) (hq:q∈XM sh):okS prs q:=by
 cases sh with
 | row ps=>rw [okS] at h;exact UF h.2 hq
 | pick mk ps=>rw [okS] at h;exact UF h.2.2 hq
 | _=>cases hq
theorem YcD {sh q:Sh} (hq:q∈XM sh):dep q+1≤dep sh:=by
 cases sh with
 | row ps=>rw [show dep (.row ps)=YH ps+1 by rw [dep]];have:=WZ (ps:=ps) hq;omega
 | pick mk ps=>rw [show dep (.pick mk ps)=YH ps+1 by rw [dep]];have:=WZ (ps:=ps) hq;omega
 | _=>cases hq
theorem Yao {sh:Sh} (h:kind sh=2∨kind sh=3):wts (XM sh)+1=wt sh:=by
 cases sh with
 | row ps=>rw [show wt (.row ps)=wts ps+1 by rw [wt]];rfl
 | pick mk ps=>rw [show wt (.pick mk ps)=wts ps+1 by rw [wt]];rfl
 | _=>simp [kind] at h
theorem UI:∀ a b:List Sh,wts (a++b)=wts a+wts b
 | [],b=>by simp [wts]
 | p::a,b=>by
  have:=UI a b
  rw [List.cons_append,wts,wts]
  omega
theorem YcE {l:List Sh} {i:Nat} {q:Sh} (h:l[i]?=some q):wts (l.take (i+1))=wts (l.take i)+wt q:=by
 rw [Xu h,UI]
 simp [wts]
theorem Q3 (l:List Sh) (i:Nat):wts (l.take i)≤wts l:=by
 have e:wts l=wts (l.take i)+wts (l.drop i):=by rw [← UI,List.take_append_drop]
 omega
theorem Yap:∀ l:List Sh,l.length≤wts l
 | []=>Nat.zero_le _
 | p::l=>by
  have:=Yap l
  have:=W2 p
  rw [wts,List.length_cons]
  omega
variable {m:Nat}
theorem Z11 {k:Nat} {Z5 Z1 Z2 Z4 Z3 Z0:Addr} (R:g.RawM Z5 "new_maker" "Lister.new_maker" Z0r ["self","shape"]) (F_parts_of:g.Fn k "parts_of" ["shape"] (Z1C g.K)) (ZS:g.Me k Z5 "maker_of" ["self","shape"] (ZX g.P g.w g.K (Cs.mk Z0 Z2 Z4 Z1 Z3) Z5 m)) {j_WholeMaker___init__:Nat} (Z1P:g.Ma j_WholeMaker___init__ "WholeMaker" Z0 ["self","low","high"] (Z3c (Cs.mk Z0 Z2 Z4 Z1 Z3))) (h_WholeMaker___init__:j_WholeMaker___init__+1≤k) {j_RowMaker___init__:Nat} (Z2o:g.Ma j_RowMaker___init__ "RowMaker" Z2 ["self","parts"] (Z3f (Cs.mk Z0 Z2 Z4 Z1 Z3))) (h_RowMaker___init__:j_RowMaker___init__+1≤k) {j_PickMaker___init__:Nat} (Z2a:g.Ma j_PickMaker___init__ "PickMaker" Z1 ["self","marks","parts"] (Z3d (Cs.mk Z0 Z2 Z4 Z1 Z3))) (h_PickMaker___init__:j_PickMaker___init__+1≤k) (Zp:Cls g.K Z5) (Zs:Ye g.K Z5 "book") (Zn:Ye g.K Z5 "makers"):g.Me (k+1) Z5 "new_maker" ["self","shape"] (Uu g.P g.w g.K (Cs.mk Z0 Z2 Z4 Z1 Z3) Z5 (m+1)):=by
 refine R.me Z0d (fun vs H Q E h=>by obtain ⟨prs,w,U,O,ls,dx,d,B,a,sh,xs,rfl,L,hk,hok,hki,hdp,hwt,hxl,hnm,q⟩:=h;rfl) fun f_ cdv A outer s H vs Q E hr h=>?_
 obtain ⟨prs,w,U,O,ls,dx,d,B,a,sh,xs,rfl,L,hk,hok,hki,hdp,hwt,hxl,hnm,q⟩:=h
 refine ⟨_,(@Yg _ _ _ _ _ (@Yp _ _ (2) _ _ _ _ Z0d.nd rfl (.inl rfl) (@Yx _ _ _ _ _ _ _ Xc (pv 1) Yf (fun _ _=>rfl)) (by rfl) (by first | exact .inl rfl | exact .inr rfl | assumption)) (@Yg _ _ _ _ _ (@Y9 _ _ _ _ _ _ _ _ (@Yz _ _ _ _ _ _ _ _ Xh (pv 2) Xg (YD _)) (@Yi _ _ _ (@Yo _ _ _ _ (@Ub _ _ _ _ _ _ _ _ _ _ _ _ _ Z1P hr (@Ya _ _ _ _ _ (@Yx _ _ _ _ _ _ _ Xc (pv 1) Yf (fun _ _=>rfl)) (@Ya _ _ _ _ _ (@Yx _ _ _ _ _ _ _ Xc (pv 1) Yf (fun _ _=>rfl)) Yd (by rfl)) (by rfl)) (by omega) (by rfl) (by rfl) (by decide) (by rfl) (by rfl)))) YR) (@Yg _ _ _ _ _ (@Y9 _ _ _ _ _ _ _ _ (@Yz _ _ _ _ _ _ _ _ Xh (pv 2) Xg (YD _)) (@Yi _ _ _ XV) YR) (@Yg _ _ _ _ _ (@VN _ (3) _ _ _ _ _ _ _ _ _ ([none,some 0]) ((["part","self"]:List Str)) _ (Yv 0) _ _ Z0d.nd rfl (.inl rfl) (.own (.cap (i:=0) rfl rfl (by first | exact .inl rfl | exact .inr rfl) .nil)) rfl (@Xr _ _ _ _ (@YE _ _ _ _ _ _ _ _ _ _ _ _ F_parts_of hr (@Ya _ _ _ _ _ (pv 1) Yd (by rfl)) (by omega) (by rfl) (by rfl) (by decide) (by rfl) (by rfl))) (fun cl C s₀ H₀ fp pn=>(@Yn _ _ (0) _ (show List.Nodup (["part","self"]:List Str) by decide +kernel) rfl (.inl rfl) (.inr rfl))) (fun cl C s₀ H₀ fp pn=>Xj) (fun cl C s₀ H₀ fp pn=>(@YC _ _ _ _ _ _ _ _ _ _ _ _ _ _ _ _ ZS Zp hr (pv 1) (@Ya _ _ _ _ _ (pv 0) Yd (by rfl)) (by omega) (by rfl) (by rfl) (by rfl) (by rfl))) (by intro x hx;simp at hx;first | (subst hx;exact .inl rfl) | (rcases hx with rfl | rfl<;>exact .inl rfl) | (rcases hx with rfl | rfl | rfl<;>exact .inl rfl) | (rcases hx with rfl | rfl | rfl | rfl<;>exact .inl rfl) | (rcases hx with rfl | rfl | rfl | rfl | rfl<;>exact .inl rfl)) (by rfl) (by decide) (by decide +kernel) (by intro _;rfl) (by rfl) (by first | exact .inl rfl | exact .inr rfl | assumption)) (@Yg _ _ _ _ _ (@Y9 _ _ _ _ _ _ _ _ (@Yz _ _ _ _ _ _ _ _ Xh (pv 2) Xg (YD _)) (@Yi _ _ _ (@Yo _ _ _ _ (@Ub _ _ _ _ _ _ _ _ _ _ _ _ _ Z2o hr (@Ya _ _ _ _ _ (pv 3) Yd (by rfl)) (by omega) (by rfl) (by rfl) (by decide) (by rfl) (by rfl)))) YR) (@Yg _ _ _ _ _ (@Y9 _ _ _ _ _ _ _ _ (@Yz _ _ _ _ _ _ _ _ Xh (pv 2) Xg (YD _)) (@Yi _ _ _ (@Yo _ _ _ _ (@Ub _ _ _ _ _ _ _ _ _ _ _ _ _ Z2a hr (@Ya _ _ _ _ _ (@Wh _ _ _ _ _ _ _ ([none,none]) ((["mark","part"]:List Str)) _ (WQ g.K 2 (Xp (Yv 0) (Xp (Yv 1) WP))) _ _ (.own (.own .nil)) rfl (@V0 _ _ _ _ (@Yx _ _ _ _ _ _ _ Xc (pv 1) Yf (fun _ _=>rfl))) (fun cl C s₀ H₀ fp pn=>(@XZ _ _ _ _ _ (2) rfl (@YL _ _ _ _ _ (@Yn _ _ (0) _ (show List.Nodup (["mark","part"]:List Str) by decide +kernel) rfl (.inl rfl) (.inr rfl)) (@YL _ _ _ _ _ (@Yn _ _ (1) _ (show List.Nodup (["mark","part"]:List Str) by decide +kernel) rfl (.inl rfl) (.inr rfl)) XO (by rfl)) (by rfl)) (by rfl) (by rfl))) (fun cl C s₀ H₀ fp pn=>Xj) (fun cl C s₀ H₀ fp pn=>(pv 0)) (by intro x hx;simp at hx) (by rfl) (by decide) (by decide +kernel) (by intro _;rfl)) (@Ya _ _ _ _ _ (pv 3) Yd (by rfl)) (by rfl)) (by omega) (by rfl) (by rfl) (by decide) (by rfl) (by rfl)))) YR) (@Yg _ _ _ _ _ XV (@Yg _ _ _ _ _ XV (@Yi _ _ _ XV))))))))),?_⟩
 have hkd:=hk.den
 have nU:∀ {b:Addr},H b=none→¬ U b:=fun e z=>L.bi.al _ z e
 have parts:(kind sh=2∨kind sh=3)→∀ (mv:V) (Qc:VK),(∀ D (as:List Addr) H1 w1 U1 xs1,LS g.P g.w g.K (Cs.mk Z0 Z2 Z4 Z1 Z3) Z5 prs w1 U1 O H1 ls dx d B xs1→WG w w1 U U1 H→FrB d H H1→H D=none→¬ U1 D→H1 D=some (.lst (as.map V.ref))→WK w1.reg as (XM sh)→xs1.length+50*nn prs xs1+2≤xs.length+50*nn prs xs+2*wt sh→Mo xs xs1→Qc (.ref D) H1) →
   tLC [none,some 0] (Wq g.K (V5 (Z1C g.K) [] E0 (Qb (Uy 1) Uz))) (Yv 0) Wp (Qd Z5 "maker_of" (ZX g.P g.w g.K (Cs.mk Z0 Z2 Z4 Z1 Z3) Z5 m) [] E0 (Uy 1) (Qb (Uy 0) Uz)) [some (V.ref ls),some (V.ref a),some mv,none] H Qc:=by
  intro h3 mv Qc hq
  have hsw:=Yao h3
  refine Us (K:=g.K) (fun b vs H1=>Yl H H1∧H b=none∧∃ bs:List Addr,vs=bs.map V.ref∧H1 b=some (.lst vs)∧bs.length=(XM sh).length∧∀ (i:Nat) b q,bs[i]?=some b→(XM sh)[i]?=some q→DK g.K H b (kd q)) (fun R r=>?_) ?_
  ·walk_at "rd"
   exact ⟨prs,a,sh,rfl,hk,hok,h3,fun D bs H1 s1 hD hd hl hb=>r D _ H1 ⟨s1,hD,bs,rfl,hd,hl,hb⟩⟩
  ·rintro b vs H1 ⟨s1,gb,bs,rfl,hb1,hbl,hbs⟩
   have hlw:=Yap (XM sh)
   refine ⟨SqL.of hb1,by rw [List.length_map];omega,fun D i zs H'=>∃ (as:List Addr) (w1:Wo) (U1:Addr→Prop) (xs1:Dx),zs=as.map V.ref∧as.length=i∧LS g.P g.w g.K (Cs.mk Z0 Z2 Z4 Z1 Z3) Z5 prs w1 U1 O H' ls dx d B xs1∧WG w w1 U U1 H∧FrB d H1 H'∧¬ U1 D∧H' D=some (.lst zs)∧(∀ (j:Nat) a q,as[j]?=some a→(XM sh)[j]?=some q→w1.reg a=some q)∧xs1.length+50*nn prs xs1≤xs.length+50*nn prs xs+2*wts ((XM sh).take i)∧Mo xs xs1,?_,?_,?_,?_⟩
   ·intro D hD
    have sD:=Yl.upd_new hD (.lst [])
    exact ⟨[],w,U,xs,rfl,rfl,(L.same s1).same sD,.refl _ _ _,Vz sD,nU (s1.free hD),Yc,fun j a q h=>(by simp at h),by simp [wts],.refl _⟩
   ·rintro D i zs H' hD ⟨as,w1,U1,xs1,rfl,h1,L1,G1,fr1,hU1,h2,_⟩
    have nbd:b≠d:=Y3 hb1 (s1 _ _ L.hd.at_) (by intro z;cases z)
    exact ⟨by rw [List.length_map,h1],h2,SqL.of (fr1 _ _ nbd hb1)⟩
   ·rintro D i x zs H' hD hx ⟨as,w1,U1,xs1,rfl,hal,L1,G1,fr1,hU1,hD',hreg,hxl1,nk1⟩ R r
    rw [List.getElem?_map] at hx
    obtain ⟨bq,hbq,rfl⟩:=Option.map_eq_some_iff.mp hx
    have hi:=(List.getElem?_eq_some_iff.mp hbq).1
    have hsq:(XM sh)[i]?=some ((XM sh)[i]'(by omega)):=List.getElem?_eq_getElem _
    generalize (XM sh)[i]'(by omega)=sq at hsq
    have hmem:=List.mem_of_getElem? hsq
    have hdq:=YcD hmem
    have hwq:=YcE hsq
    have hwl:=Q3 (XM sh) (i+1)
    have hnn:=UH (prs:=prs) nk1
    have frH:FrB d H H':=(Vz s1).trans fr1
    have dkq:=W3 (hbs i bq sq hbq hsq) frH L.hd.at_
    walk_at "rd"
    refine ⟨_,_,L1.hl,Ut _ _ (by decide +kernel) (by decide +kernel),prs,w1,U1,O,ls,dx,d,B,bq,sq,xs1,rfl,L1,dkq,Ydz hok hmem,by rw [G1.M];omega,by omega,by omega,by omega,fun p H2 w2 U2 xs2 L2 G2 fr2 hr2 hl2 nk2=>?_⟩
    have nDd:D≠d:=Y3 hD' L1.hd.at_ (by intro z;cases z)
    have hD2:=fr2 _ _ nDd hD'
    have hU2:¬ U2 D:=fun z=>by
     rcases G2.u2 D z with z | z
     ·exact hU1 z
     ·rw [hD'] at z;cases z
    have nDB:D≠B:=fun z=>by
     obtain ⟨vs,hB,_⟩:=L.hb
     rw [z,s1 _ _ hB] at hD;cases hD
    refine r _ _ hD2 ⟨as++[p],w2,U2,xs2,by rw [List.map_append];rfl,by rw [List.length_append,hal];rfl,L2.loc (fun o e=>by rw [hD2] at e;exact ⟨_,(Option.some.inj e).symm⟩) nDB hU2 (fun b o hb e=>by rw [Yb hb];exact e),G1.trans G2 fun z hz=>?_,fun z o hz e=>?_,hU2,Yc,fun j a' q' h1 h2=>?_,by omega,nk1.trans nk2⟩
    ·intro e
     exact hz (L1.back frH e)
    ·rw [Yb (Yh e hD)]
     exact fr2 _ _ hz (fr1 _ _ hz e)
    ·by_cases c:j<as.length
     ·rw [List.getElem?_append_left c] at h1
      exact G2.reg _ _ (hreg j a' q' h1 h2)
     ·have hj:j=as.length:=by
       have:=(List.getElem?_eq_some_iff.mp h1).1
       rw [List.length_append,List.length_singleton] at this
       omega
      subst hj
      rw [List.getElem?_append_right (Nat.le_refl _),Nat.sub_self] at h1
      have:p=a':=Option.some.inj h1
      subst this
      rw [hal,hsq] at h2
      have:=Option.some.inj h2
      subst this
      exact hr2
   ·rintro D zs H' hD ⟨as,w1,U1,xs1,rfl,hal,L1,G1,fr1,hU1,hD',hreg,hxl1,nk1⟩
    rw [List.length_map] at hal hxl1
    rw [List.take_of_length_le (by omega)] at hxl1
    exact hq D as H' w1 U1 xs1 L1 G1 ((Vz s1).trans fr1) (s1.free hD) hU1 hD' ⟨by omega,hreg⟩ (by omega) nk1
 walk_at "rd"
 cases sh with
 | w lo span =>
  rw [kd] at hkd
  obtain ⟨b,vs,e,hT,hvs⟩:=Xm hkd
  have:=V.ref.inj e
  subst this
  obtain ⟨u1,r1,rfl,h5,h6⟩:=YQ hvs
  obtain ⟨u2,r2,rfl,h7,h8⟩:=YQ h6
  obtain ⟨u3,r3,rfl,h9,h10⟩:=YQ h8
  have:=Wd h10
  subst this
  have:=Wc h5
  subst this
  have:=VP h7
  subst this
  have:=VP h9
  subst this
  refine ⟨_,hT,_,Yq (j:=0) rfl,Y1 _ _,Vc rfl ⟨_,hT,_,Yq (j:=1) rfl,_,hT,_,Yq (j:=2) rfl,fun x dx' hx hdx hne=>⟨x,dx',lo,span,rfl,Yc,fun c H3 hc sb h3 h4=>⟨rfl,?_⟩⟩⟩⟩
  have s3:=Wm hx hdx sb
  have hcH:=YU (YU hc)
  have ncx:c≠x:=fun z=>by rw [z,Yc] at hc;cases hc
  have N:New H H3 U x [c] [x]:=⟨fun b hb=>by
   rcases hb with hb | hb
   ·rw [List.mem_singleton.mp hb];exact nU hcH
   ·rw [List.mem_singleton.mp hb];exact nU hx,.head _,by simp,fun b hb hb'=>ncx ((List.mem_singleton.mp hb).symm.trans (List.mem_singleton.mp hb')),fun b o _ e=>s3 _ _ e,fun b hb=>by
   rcases hb with hb | hb
   ·rw [List.mem_singleton.mp hb,h4];intro z;cases z
   ·rw [List.mem_singleton.mp hb,h3];intro z;cases z⟩
  have hm:X3 (Cs.mk Z0 Z2 Z4 Z1 Z3) (w.add x (.w lo span) [c]) (t0 (Ua U [c] [x])) H3 x (.w lo span):=⟨dx',c,fW lo span,N.un L.bi _ (.head _),hdp,fun s hs=>by show sm (cnt w.bk _ s);rw [L.bk];exact VQ L.ob hok hwt hs,Nat.zero_le _,h3,N.dat _ (i:=0) rfl,h4,rfl⟩
  obtain ⟨r1,r2,r3,r4⟩:=L.fin L (.refl _ _ _) (fun _ _ _ e=>e) s3 N (fun b hb=>by
   rcases hb with hb | hb
   ·rw [List.mem_singleton.mp hb];exact hcH
   ·rw [List.mem_singleton.mp hb];exact hx) hm
  have:=W2 (.w lo span)
  exact q x H3 _ _ xs r1 r2 r3 r4 (by omega) (.refl _)
 | row ps =>
  rw [kd] at hkd
  obtain ⟨v,hT,hv⟩:=Vh hkd
  have hok':=hok
  rw [okS] at hok'
  have hw':wts ps+1=wt (.row ps):=Yao (sh := .row ps) (.inl rfl)
  refine ⟨_,hT,_,Yq (j:=0) rfl,Y1 _ _,XT (by decide +kernel) ⟨Y1 _ _,XT (by decide +kernel) (parts (.inl rfl) _ _ fun D as H1 w1 U1 xs1 L1 G1 fr1 gD hU1 hD1 hra hxl1 nk1=>?_)⟩⟩
  have nU1:∀ {b:Addr},H1 b=none→¬ U1 b:=fun e z=>L1.bi.al _ z e
  have hal:as.length=ps.length:=hra.1
  refine ⟨Y1 _ _,Vc rfl fun x dx' hx hdx hne=>⟨x,dx',D,as,rfl,Yc,by rw [Yb (Yh hD1 hx),Yb (Yh hD1 hdx)];exact hD1,by omega,fun c T dt Lw ws H3 hc hT3 hL hws hnd hwl sb h3 h4 hTT hLL hww=>⟨rfl,?_⟩⟩⟩
  have s3:=Wm hx hdx sb
  have fr:∀ {b:Addr},upd (upd H1 dx' (.own x)) x (.ins Z2 dx' []) b=none→H1 b=none:=fun e=>YU (YU e)
  have fos:∀ b∈c::ws,H1 b=none:=fun b hb=>by
   rcases List.mem_cons.mp hb with rfl | hb
   ·exact fr hc
   ·exact fr (hws b hb)
  have los:∀ b∈c::ws,H3 b=some (.lst []):=fun b hb=>by
   rcases List.mem_cons.mp hb with rfl | hb
   ·exact h4
   ·exact hww b hb
  have N:New H1 H3 U1 x (c::ws) [x,D,T,Lw]:=by
   refine ⟨fun b hb=>?_,.head _,hnd,fun b hb hb'=>?_,fun b o _ e=>s3 _ _ e,fun b hb=>?_⟩
   ·rcases hb with hb | hb
    ·exact nU1 (fos b hb)
    ·simp only [List.mem_cons,List.not_mem_nil,or_false] at hb
     rcases hb with rfl | rfl | rfl | rfl
     ·exact nU1 hx
     ·exact hU1
     ·exact nU1 (fr hT3)
     ·exact nU1 (fr hL)
   ·have e1:=los b hb
    have e2:=fos b hb
    simp only [List.mem_cons,List.not_mem_nil,or_false] at hb'
    rcases hb' with rfl | rfl | rfl | rfl
    ·rw [h3] at e1;cases e1
    ·rw [hD1] at e2;cases e2
    ·rw [hTT] at e1;cases e1
    ·rw [hLL] at e1
     injection e1 with e1
     injection e1 with e1
     have:=congrArg List.length e1
     rw [List.length_map,hwl] at this
     simp at this
   ·rcases hb with hb | hb
    ·rw [los b hb];intro z;cases z
    ·simp only [List.mem_cons,List.not_mem_nil,or_false] at hb
     rcases hb with rfl | rfl | rfl | rfl
     ·rw [h3];intro z;cases z
     ·rw [s3 _ _ hD1];intro z;cases z
     ·rw [hTT];intro z;cases z
     ·rw [hLL];intro z;cases z
  have hm:X3 (Cs.mk Z0 Z2 Z4 Z1 Z3) (w1.add x (.row ps) (c::ws)) (t0 (Ua U1 (c::ws) [x,D,T,Lw])) H3 x (.row ps):=by
   refine ⟨dx',c,fR D T,N.un L1.bi _ (.head _),by show _≤w1.M;rw [G1.M];exact hdp,fun s hs=>by show sm (cnt w1.bk _ s);rw [L1.bk];exact VQ L.ob hok hwt hs,Nat.zero_le _,h3,N.dat _ (i:=0) rfl,h4,D,T,dt,Lw,as,ws,rfl,N.un L1.bi _ (.tail _ (.head _)),N.un L1.bi _ (.tail _ (.tail _ (.head _))),N.un L1.bi _ (.tail _ (.tail _ (.tail _ (.head _)))),s3 _ _ hD1,hra.grow (N.wg (H0:=fun _=>none) L1.bi _ fun _ _=>rfl),by omega,hTT,hLL,by omega,fun i y hy=>⟨N.dat _ (i:=i+1) (by simpa using hy),Nat.le_refl _,Nat.zero_le _,hww y (List.mem_of_getElem? hy)⟩,fun i s hs=>?_⟩
   show sm (YI w1.bk _ s)
   rw [L1.bk]
   have:=QE ps i
   exact YbW L.ob (QD i hok'.2) (by omega) hs
  obtain ⟨r1,r2,r3,r4⟩:=L.fin L1 G1 fr1 s3 N (fun b hb=>by
   rcases hb with hb | hb
   ·exact L1.back fr1 (fos b hb)
   ·simp only [List.mem_cons,List.not_mem_nil,or_false] at hb
    rcases hb with rfl | rfl | rfl | rfl
    ·exact L1.back fr1 hx
    ·exact gD
    ·exact L1.back fr1 (fr hT3)
    ·exact L1.back fr1 (fr hL)) hm
  exact q x H3 _ _ xs1 r1 r2 r3 r4 (by omega) nk1
 | pick mk ps =>
  rw [kd] at hkd
  obtain ⟨v,hT,hv⟩:=Vh hkd
  have hok':=hok
  rw [okS] at hok'
  refine ⟨_,hT,_,Yq (j:=0) rfl,Y1 _ _,XT (by decide +kernel) ⟨Y1 _ _,XT (by decide +kernel) (parts (.inr rfl) _ _ fun D as H1 w1 U1 xs1 L1 G1 fr1 gD hU1 hD1 hra hxl1 nk1=>?_)⟩⟩
  have hal:as.length=ps.length:=hra.1
  refine ⟨Y1 _ _,XT (by decide +kernel) ⟨Y1 _ _,Vc rfl ?_⟩⟩
  have hkd1:=(W3 hk fr1 L.hd.at_).den
  rw [kd] at hkd1
  obtain ⟨v1,hT1,hv1⟩:=Vh hkd1
  obtain ⟨b,vs,rfl,hb,hvs⟩:=Xm hv1
  obtain ⟨ts,bs,rfl,hl1,hl2,hts,hbs⟩:=Vg hok'.1 hvs
  have hlz:((mk.zip bs).map fun p=>(V.str (S p.1),V.ref p.2)).length=bs.length:=by rw [List.length_map,List.length_zip];omega
  refine Ur (K:=g.K) (b:=b) (xs:=ts.map V.ref) ((mk.zip bs).map fun p=>(V.str (S p.1),V.ref p.2)) (mk.map fun m=>V.str (S m)) (fun R r=>by walk_at "rd";exact ⟨_,hT1,_,Yq (j:=1) rfl,r⟩) hb ?_ (by rw [hlz,List.length_map];omega) (by rw [List.length_map,List.length_map];omega) (by rw [List.length_map];omega) ?_ ?_
  ·intro i x p hx hp
   rw [List.getElem?_map] at hx hp
   obtain ⟨T,hT',rfl⟩:=Option.map_eq_some_iff.mp hx
   obtain ⟨⟨m,b'⟩,hz,rfl⟩:=Option.map_eq_some_iff.mp hp
   rw [List.getElem?_zip_eq_some] at hz
   exact ⟨T,rfl,hts i T m b' hT' hz.1 hz.2⟩
  ·intro i p y H' hp hy sm R r
   rw [List.getElem?_map] at hp hy
   obtain ⟨⟨m,b'⟩,hz,rfl⟩:=Option.map_eq_some_iff.mp hp
   rw [List.getElem?_zip_eq_some] at hz
   rw [hz.1] at hy
   have:V.str (S m)=y:=Option.some.inj hy
   subst this
   walk_at "rd"
   exact r H' (.refl _)
  ·intro M H2 gM s2 hM x dx' hx hdx hne
   have L2:=L1.same s2
   have nU1:∀ {b:Addr},H2 b=none→¬ U1 b:=fun e z=>L2.bi.al _ z e
   have hUM:¬ U1 M:=fun z=>L1.bi.al _ z gM
   have hD2:=s2 _ _ hD1
   refine ⟨x,dx',M,D,rfl,Yc,fun c H3 hc sb h3 h4=>⟨rfl,?_⟩⟩
   have s3:=Wm hx hdx sb
   have hcH:=YU (YU hc)
   have N:New H2 H3 U1 x [c] [x,M,D]:=by
    refine ⟨fun b hb=>?_,.head _,by simp,fun b hb hb'=>?_,fun b o _ e=>s3 _ _ e,fun b hb=>?_⟩
    ·rcases hb with hb | hb
     ·rw [List.mem_singleton.mp hb];exact nU1 hcH
     ·simp only [List.mem_cons,List.not_mem_nil,or_false] at hb
      rcases hb with rfl | rfl | rfl
      ·exact nU1 hx
      ·exact hUM
      ·exact hU1
    ·have:=List.mem_singleton.mp hb
     subst this
     simp only [List.mem_cons,List.not_mem_nil,or_false] at hb'
     rcases hb' with rfl | rfl | rfl
     ·rw [h3] at h4;cases h4
     ·rw [hM] at hcH;cases hcH
     ·rw [hD2] at hcH;cases hcH
    ·rcases hb with hb | hb
     ·rw [List.mem_singleton.mp hb,h4];intro z;cases z
     ·simp only [List.mem_cons,List.not_mem_nil,or_false] at hb
      rcases hb with rfl | rfl | rfl
      ·rw [h3];intro z;cases z
      ·rw [s3 _ _ hM];intro z;cases z
      ·rw [s3 _ _ hD2];intro z;cases z
   have hm:X3 (Cs.mk Z0 Z2 Z4 Z1 Z3) (w1.add x (.pick mk ps) [c]) (t0 (Ua U1 [c] [x,M,D])) H3 x (.pick mk ps):=⟨dx',c,fP M D,N.un L2.bi _ (.head _),by show _≤w1.M;rw [G1.M];exact hdp,fun s hs=>by show sm (cnt w1.bk _ s);rw [L1.bk];exact VQ L.ob hok hwt hs,Nat.zero_le _,h3,N.dat _ (i:=0) rfl,h4,M,D,as,rfl,N.un L2.bi _ (.tail _ (.head _)),N.un L2.bi _ (.tail _ (.tail _ (.head _))),s3 _ _ hM,s3 _ _ hD2,hra.grow (N.wg (H0:=fun _=>none) L2.bi _ fun _ _=>rfl),by omega⟩
   have fr2:FrB d H H2:=fr1.trans (Vz s2)
   obtain ⟨r1,r2,r3,r4⟩:=L.fin L2 G1 fr2 s3 N (fun b hb=>by
    rcases hb with hb | hb
    ·rw [List.mem_singleton.mp hb];exact L2.back fr2 hcH
    ·simp only [List.mem_cons,List.not_mem_nil,or_false] at hb
     rcases hb with rfl | rfl | rfl
     ·exact L2.back fr2 hx
     ·exact L1.back fr1 gM
     ·exact gD) hm
   exact q x H3 _ _ xs1 r1 r2 r3 r4 (by omega) nk1
 | _=>simp [kind] at hki
theorem X3.updp {C:Cs} {w:Wo} {t:Sw} {H:Hp} {p r cl dxp:Addr} {fp:List (Str×V)} {o:HO} {sh:Sh} {cp:Addr} (hp:H p=some (.ins cl dxp (mf cp fp))) (hD:w.D p=none) (n:r≠p) (h:X3 C w t H r sh):X3 C w t (upd H p o) r sh:=by
 obtain ⟨dx,c,fs,h1,h2,h3,h4,h5,h6,h7,h8⟩:=h
 have no:∀ {b:Addr} {x:Addr×Nat},w.D b=some x→b≠p:=fun e z=>by rw [z,hD] at e;cases e
 have nl:∀ {b:Addr} {vs:List V},H b=some (.lst vs)→b≠p:=fun e z=>by rw [z,hp] at e;cases e
 refine ⟨dx,c,fs,h1,h2,h3,h4,(Yb n).trans h5,h6,(Yb (no h6)).trans h7,?_⟩
 cases sh with
 | w lo span=>exact h8
 | row ps =>
  obtain ⟨P,T,dt,L,as,ws,k1,k2,k3,k4,k5,k6,k7,k8,k9,k10,k11,k12⟩:=h8
  have nT:T≠p:=fun z=>by
   rw [z,hp] at k8
   have e:=Option.some.inj k8
   injection e with _ _ e
   unfold mf WT at e
   injection e with e _
   injection e with e _
   exact n1 (a:=("counts":Str)) (b:=("parts":Str)) (by decide +kernel) e
  refine ⟨P,T,dt,L,as,ws,k1,k2,k3,k4,(Yb (nl k5)).trans k5,k6,k7,(Yb nT).trans k8,(Yb (nl k9)).trans k9,k10,fun i x hx=>?_,k12⟩
  obtain ⟨j1,j2,j3,j4⟩:=k11 i x hx
  exact ⟨j1,j2,j3,(Yb (no j1)).trans j4⟩
 | pick mk ps =>
  obtain ⟨M,P,as,k1,k2,k3,k4,k5,k6,k7⟩:=h8
  exact ⟨M,P,as,k1,k2,k3,(Yb (nl k4)).trans k4,(Yb (nl k5)).trans k5,k6,k7⟩
 | use x=>exact h8
theorem BI.close {C:Cs} {w:Wo} {U O O':Addr→Prop} {H:Hp} (B:BI C w U O' H) {p q:Addr} {x:List Nat} (hO:∀ r,r≠p→(O' r↔O r)) (hp':O' p) (hr:w.reg p=some (.use x)) (hq:w.reg q=some (w.bk x)):∃ dx c,H p=some (.ins C.use dx (mf c (fU .non)))∧(¬ O p→BI C w U O (upd H p (.ins C.use dx (mf c (fU (.ref q)))))):=by
 obtain ⟨x',dx,c,e1,e2,e3,e4,e5,e6⟩:=B.op p hp'
 rw [hr] at e1
 have:=Sh.use.inj (Option.some.inj e1)
 subst this
 refine ⟨dx,c,e4,fun nO=>⟨fun r s hrs ho=>?_,fun r hor=>?_,fun b hb=>?_,B.ow,B.oo,B.inj⟩⟩
 ·by_cases cc:r=p
  ·subst cc
   rw [hr] at hrs
   have:=Option.some.inj hrs
   subst this
   have ncp:c≠r:=fun z=>by rw [z,e2.1] at e5;cases e5
   exact ⟨dx,c,_,e2,by simp [dep],e3,Nat.zero_le _,Yc,e5,(Yb ncp).trans e6,q,rfl,hq⟩
  ·exact (B.at_ r s hrs fun z=>ho ((hO r cc).mp z)).updp e4 e2.1 cc
 ·have cc:r≠p:=fun z=>nO (by rw [← z];exact hor)
  obtain ⟨y,dy,cy,f1,f2,f3,f4,f5,f6⟩:=B.op r ((hO r cc).mpr hor)
  have ncp:cy≠p:=fun z=>by rw [z,e2.1] at f5;cases f5
  exact ⟨y,dy,cy,f1,f2,f3,(Yb cc).trans f4,f5,(Yb ncp).trans f6⟩
 ·by_cases cc:b=p
  ·rw [cc,Yc];intro z;cases z
  ·rw [Yb cc];exact B.al b hb
section
variable {P0:Program} {w0:World} {K:PySem.W.Frag} {C:Cs} {CL:Addr} {prs:Prs} {w:Wo} {U O O':Addr→Prop} {H H':Hp} {ls dx d B:Addr} {xs:Dx}
theorem LS.close (L:LS P0 w0 K C CL prs w U O' H ls dx d B xs) {p q:Addr} {x:List Nat} (hO:∀ r,r≠p→(O' r↔O r)) (hp':O' p) (nO:¬ O p) (hr:w.reg p=some (.use x)) (hq:w.reg q=some (w.bk x)) (nls:ls≠p):∃ dxp c,H p=some (.ins C.use dxp (mf c (fU .non)))∧LS P0 w0 K C CL prs w U O (upd H p (.ins C.use dxp (mf c (fU (.ref q))))) ls dx d B xs:=by
 obtain ⟨dxp,c,h1,h2⟩:=L.bi.close hO hp' hr hq
 have hk:∀ b o,b≠p→H b=some o→upd H p (.ins C.use dxp (mf c (fU (.ref q)))) b=some o:=fun b o n e=>(Yb n).trans e
 have tk:XC H (upd H p (.ins C.use dxp (mf c (fU (.ref q))))):=Xx hk h1 (by intro xs z;cases z) (by intro o v z;cases z)
 obtain ⟨vs,hB,_⟩:=L.hb
 exact ⟨dxp,c,h1,hk _ _ nls L.hl,L.hb.tupk tk fun o e=>hk _ _ (Y3 hB h1 (by intro z;cases z)) e,L.hd.keep tk (hk _ _ (Y3 L.hd.at_ h1 (by intro z;cases z)) L.hd.at_),h2 nO,L.nd,L.nl,L.keys,L.bk,L.ob,L.M2⟩
theorem LS.put (L:LS P0 w0 K C CL prs w U O H ls dx d B xs) {a p:Addr} {sh:Sh} (hk:DK K H a (kd sh)) (hok:okS prs sh) (hn:lookD xs (kd sh)=none) (hl:xs.length<1000) (hr:w.reg p=some sh):LS P0 w0 K C CL prs w U O (upd H d (DDi P0 w0 d (xs++[(kd sh,a,p)]))) ls dx d B (xs++[(kd sh,a,p)]):=by
 have hkk:∀ b o,b≠d→H b=some o→upd H d (DDi P0 w0 d (xs++[(kd sh,a,p)])) b=some o:=fun b o n e=>(Yb n).trans e
 have tk:XC H (upd H d (DDi P0 w0 d (xs++[(kd sh,a,p)]))):=Xx hkk L.hd.at_ (by intro xs z;cases z) (by intro o v z;cases z)
 obtain ⟨vs,hB,_⟩:=L.hb
 refine ⟨hkk _ _ (Y3 L.hl L.hd.at_ (by intro z;cases z)) L.hl,L.hb.tupk tk fun o e=>hkk _ _ (Y3 hB L.hd.at_ (by intro z;cases z)) e,L.hd.put hk hn hl,L.bi.keep fun b o hb e=>hkk b o (fun z=>L.nd (by rw [← z];exact hb)) e,L.nd,L.nl,fun e he=>?_,L.bk,L.ob,L.M2⟩
 rcases List.mem_append.mp he with he | he
 ·exact L.keys e he
 ·have:=List.mem_singleton.mp he
  subst this
  exact ⟨sh,rfl,hok,hr⟩
theorem LS.putX (L:LS P0 w0 K C CL prs w U O H ls dx d B xs) {a p:Addr} {sh:Sh} (hk:DK K H a (kd sh)) (hok:okS prs sh) (hl:xs.length<1000) (hr:w.reg p=some sh):LS P0 w0 K C CL prs w U O (upd H d (DDi P0 w0 d (L2.putX xs (kd sh) a p))) ls dx d B (L2.putX xs (kd sh) a p):=by
 have hkk:∀ b o,b≠d→H b=some o→upd H d (DDi P0 w0 d (L2.putX xs (kd sh) a p)) b=some o:=fun b o n e=>(Yb n).trans e
 have tk:XC H (upd H d (DDi P0 w0 d (L2.putX xs (kd sh) a p))):=Xx hkk L.hd.at_ (by intro xs z;cases z) (by intro o v z;cases z)
 obtain ⟨vs,hB,_⟩:=L.hb
 refine ⟨hkk _ _ (Y3 L.hl L.hd.at_ (by intro z;cases z)) L.hl,L.hb.tupk tk fun o e=>hkk _ _ (Y3 hB L.hd.at_ (by intro z;cases z)) e,L.hd.putX hk hl,L.bi.keep fun b o hb e=>hkk b o (fun z=>L.nd (by rw [← z];exact hb)) e,L.nd,L.nl,fun e he=>?_,L.bk,L.ob,L.M2⟩
 rcases Ycy he with he | ⟨h1,h2⟩
 ·exact L.keys e he
 ·exact ⟨sh,h1,hok,by rw [h2];exact hr⟩
theorem LS.opened (L:LS P0 w0 K C CL prs w U O H ls dx d B xs) (s:Yl H H') {p dxp c:Addr} {x:List Nat} (hx:H p=none) (hc:H c=none) (hok:okS prs (.use x)) (h3:H' p=some (.ins C.use dxp (mf c (fU .non)))) (h4:H' c=some (.lst [])) :
  LS P0 w0 K C CL prs (w.add p (.use x) [c]) (Ua U [c] [p]) (fun r=>O r∨r=p) H' ls dx d B xs∧WG w (w.add p (.use x) [c]) U (Ua U [c] [p]) H∧(w.add p (.use x) [c]).reg p=some (.use x):=by
 have nU:∀ {b:Addr},H b=none→¬ U b:=fun e z=>L.bi.al _ z e
 have N:New H H' U p [c] [p]:=by
  refine ⟨fun b hb=>?_,.head _,by simp,fun b hb hb'=>?_,fun b o _ e=>s _ _ e,fun b hb=>?_⟩
  ·rcases hb with hb | hb
   ·rw [List.mem_singleton.mp hb];exact nU hc
   ·rw [List.mem_singleton.mp hb];exact nU hx
  ·have e1:=List.mem_singleton.mp hb
   have e2:=List.mem_singleton.mp hb'
   rw [← e1,e2,h3] at h4
   cases h4
  ·rcases hb with hb | hb
   ·rw [List.mem_singleton.mp hb,h4];intro z;cases z
   ·rw [List.mem_singleton.mp hb,h3];intro z;cases z
 have h0:∀ b,b∈[c]∨b∈[p]→H b=none:=fun b hb=>by
  rcases hb with hb | hb
  ·rw [List.mem_singleton.mp hb];exact hc
  ·rw [List.mem_singleton.mp hb];exact hx
 have G:=N.wg L.bi (.use x) h0
 have nd:∀ {z:Addr} {o:HO},H z=some o→¬ (z=c∨z=p):=fun e h=>by
  rcases h with h | h
  ·rw [h,hc] at e;cases e
  ·rw [h,hx] at e;cases e
 have bi:BI C (w.add p (.use x) [c]) (Ua U [c] [p]) (fun r=>O r∨r=p) H':=N.bi L.bi (fun r hr=>⟨fun z=>z.resolve_right hr,.inl⟩) (fun z=>absurd (.inr rfl) z) (fun _=>⟨x,dxp,c,rfl,N.un L.bi _ (.head _),fun s' hs=>by rw [L.bk];exact VQ L.ob hok (by simp [wt]) hs,h3,N.dat _ (i:=0) rfl,h4⟩)
 have out:∀ {z:Addr} {o:HO},H z=some o→¬ U z→¬ Ua U [c] [p] z:=fun e hU h=>by
  rcases h with h | h | h
  ·exact hU h
  ·exact nd e (.inl (List.mem_singleton.mp h))
  ·exact nd e (.inr (List.mem_singleton.mp h))
 refine ⟨⟨s _ _ L.hl,L.hb.tupk (YK s) fun o e=>s _ _ e,L.hd.keep (YK s) (s _ _ L.hd.at_),bi,out L.hd.at_ L.nd,out L.hl L.nl,fun e he=>?_,L.bk,L.ob,L.M2⟩,G,if_pos rfl⟩
 obtain ⟨s',h1,h2,h3⟩:=L.keys e he
 exact ⟨s',h1,h2,G.reg _ _ h3⟩
end
theorem Yeh {xs:Dx} {d:PyData} {a p:Addr} (hn:lookD xs d=none):Mo xs (xs++[(d,a,p)]):=fun e h=>by
 rw [Wu _ _ _ _ _ hn]
 split
 ·intro z;cases z
 ·exact h
theorem YdA {xs:Dx} {d:PyData} {a p:Addr}:Mo xs (L2.putX xs d a p):=fun e h=>by
 rw [UW]
 split
 ·intro z;cases z
 ·exact h
theorem YbX (c:Addr) (v v':V):YT "named" v' (mf c (fU v))=mf c (fU v'):=by
 show YT "named" v' [(("counts":Str),V.ref c),(("named":Str),v)]=_
 simp only [YT,if_neg (n1 (a:=("counts":Str)) (b:=("named":Str)) (by decide +kernel))];rfl
theorem Z1f {k:Nat} {Z5 Z1 Z2 Z4 Z3 Z0:Addr} (R:g.RawM Z5 "add_use" "Lister.add_use" Z0G ["self","shape"]) (F_shape_of:g.Fn k "shape_of" ["book","name"] (Z32 g.K)) (ZS:g.Me k Z5 "maker_of" ["self","shape"] (ZX g.P g.w g.K (Cs.mk Z0 Z2 Z4 Z1 Z3) Z5 m)) {j_UseMaker___init__:Nat} (Z2p:g.Ma j_UseMaker___init__ "UseMaker" Z3 ["self"] (Z3e (Cs.mk Z0 Z2 Z4 Z1 Z3))) (h_UseMaker___init__:j_UseMaker___init__+1≤k) (Zp:Cls g.K Z5) (Zs:Ye g.K Z5 "book") (Zn:Ye g.K Z5 "makers") (Zd:Cls g.K Z3) (Z9:Ye g.K Z3 "counts") (Zb:Ye g.K Z3 "named"):g.Me (k+1) Z5 "add_use" ["self","shape"] (Z1k g.P g.w g.K (Cs.mk Z0 Z2 Z4 Z1 Z3) Z5 (m+1)):=by
 refine R.me Z1e (fun vs H Q E h=>by obtain ⟨prs,w,U,O,ls,dx,d,B,a,x,xs,rfl,L,hk,hok,hno,hxl,hl1,hl8,q⟩:=h;rfl) fun f_ cdv A outer s H vs Q E hr h=>?_
 obtain ⟨prs,w,U,O,ls,dx,d,B,a,x,xs,rfl,L,hk,hok,hno,hxl,hl1,hl8,q⟩:=h
 refine ⟨_,(@Yg _ _ _ _ _ (@Yp _ _ (2) _ _ _ _ Z1e.nd rfl (.inl rfl) (@Yea _ _ _ _ _ _ _ _ _ _ Z2p hr (by omega) (by rfl) (by rfl) (by decide)) (by rfl) (by first | exact .inl rfl | exact .inr rfl | assumption)) (@Yg _ _ _ _ _ (@Ycv _ _ _ _ _ _ _ _ _ _ hr (@Yw _ _ _ _ _ (pv 0) rfl) (pv 1) (pv 2) rfl) (@Yi _ _ _ (@XB _ _ _ _ _ _ _ _ (pv 2) (@YC _ _ _ _ _ _ _ _ _ _ _ _ _ _ _ _ ZS Zp hr (pv 0) (@Ya _ _ _ _ _ (@YE _ _ _ _ _ _ _ _ _ _ _ _ F_shape_of hr (@Ya _ _ _ _ _ (@Yw _ _ _ _ _ (pv 0) rfl) (@Ya _ _ _ _ _ (@Yx _ _ _ _ _ _ _ Xc (pv 1) Yf (fun _ _=>rfl)) Yd (by rfl)) (by rfl)) (by omega) (by rfl) (by rfl) (by decide) (by rfl) (by rfl)) Yd (by rfl)) (by omega) (by rfl) (by rfl) (by rfl) (by rfl)) rfl)))),?_⟩
 walk_at "rd"
 intro p dxp gp gdx hne
 refine ⟨p,dxp,rfl,Yc,fun c H1 hc sb h3 h4=>⟨rfl,?_⟩⟩
 have s1:=Wm gp gdx sb
 have hcH:=YU (YU hc)
 obtain ⟨L1,G1,hr1⟩:=L.opened (x:=x) s1 gp hcH hok h3 h4
 have dk1:=hk.keep s1
 have L2:=L1.put dk1 hok hno (by omega) hr1
 have fr2:FrB d H (upd H1 d (DDi g.P g.w d (xs++[(kd (.use x),a,p)]))):=fun b o hb e=>by rw [Yb hb];exact s1 _ _ e
 have dk2:=W3 hk fr2 L.hd.at_
 have hkd:=dk2.den
 rw [kd] at hkd
 obtain ⟨v,hT2,hv⟩:=Vh hkd
 have:=Wc hv
 subst this
 have hok':=hok
 rw [okS] at hok'
 obtain ⟨q0,hf0⟩:=hok'
 obtain ⟨eb,hm0⟩:=Wz hf0
 have mo1:Mo xs (xs++[(kd (.use x),a,p)]):=Yeh hno
 have less:=Ydy mo1 ⟨q0,hf0⟩ hno (by rw [Wu _ _ _ _ _ hno,if_pos rfl];intro z;cases z)
 unfold YbL
 walk_at "rd"
 refine ⟨_,_,_,L1.hl,Zp,Zn,_,XY _ _,d,rfl,xs,L1.hd,kd (.use x),dk1,hno,by omega,?_⟩
 refine ⟨_,_,L2.hl,Ut _ _ (by decide +kernel) (by decide +kernel),_,_,_,L2.hl,Zp,Zs,_,Ydx _ _,_,hT2,_,Yq (j:=1) rfl,prs,B,x,q0,rfl,L2.hb,hf0,fun b dkb=>?_⟩
 have hw0:=L.ob.wt q0 hm0
 have hd0:=L.ob.dp q0 hm0
 have hM:=L2.M2
 refine ⟨prs,_,_,_,ls,dx,d,B,b,q0.2,_,rfl,L2,dkb,L.ob.ok q0 hm0,by rw [hM];exact hd0,by omega,by rw [List.length_append,List.length_singleton];omega,by omega,fun q' H3 w3 U3 xs3 L3 G3 fr3 hr3 hl3' nk3=>?_⟩
 have np:p≠d:=fun z=>by rw [z,L.hd.at_] at gp;cases gp
 have nOp:¬ O p:=fun z=>by
  obtain ⟨_,_,_,_,h,_⟩:=L.bi.op p z
  exact L.bi.al _ h.2 gp
 have hg3:=G3.reg _ _ hr1
 obtain ⟨dxp',c',hp3,L4⟩:=L3.close (p:=p) (q:=q') (x:=x) (O:=O) (fun r hr'=>⟨fun z=>z.resolve_right hr',.inl⟩) (.inr rfl) nOp hg3 (by rw [L3.bk,eb];exact hr3) (Yh L.hl gp)
 refine ⟨_,_,_,hp3,Zd,Zb,X4 (show 2≤3 by decide),?_⟩
 rw [YbX]
 refine q _ w3 U3 xs3 L4 (G1.trans G3 fun z hz=>?_) (fun z o hz e=>?_) (nk3 _ (by rw [Wu _ _ _ _ _ hno,if_pos rfl];intro z;cases z)) ?_ (mo1.trans nk3)
 ·intro e
  exact hz (L2.back fr2 e)
 ·rw [Yb (Yh e gp)]
  exact fr3 _ _ hz (fr2 _ _ hz e)
 ·rw [List.length_append,List.length_singleton] at hl3'
  omega
theorem YdB {K:PySem.W.Frag} {H:Hp} {a:Addr} {sh:Sh} (h:Den K H (.ref a) (kd sh)):∃ r,SqT K H a (.str (kdm (kd sh))::r):=by
 obtain ⟨ds,hd⟩:=QG sh
 have hm:∃ r,ds = .str (kdm (kd sh))::r:=by
  cases sh<;>(rw [kd] at hd ⊢;injection hd with hd;exact ⟨_,hd.symm⟩)
 obtain ⟨r,rfl⟩:=hm
 rw [hd] at h
 obtain ⟨b,vs,e,h1,h2⟩:=Xm h
 have:=V.ref.inj e
 subst this
 obtain ⟨u,r',rfl,h3,_⟩:=YQ h2
 have:=Wc h3
 subst this
 exact ⟨r',h1⟩
theorem Z19 {k:Nat} {Z5 Z1 Z2 Z4 Z3 Z0:Addr} (R:g.RawM Z5 "maker_of" "Lister.maker_of" Z0x ["self","shape"]) (Z39:g.Me k Z5 "add_use" ["self","shape"] (Z1k g.P g.w g.K (Cs.mk Z0 Z2 Z4 Z1 Z3) Z5 m)) (Z2D:g.Me k Z5 "new_maker" ["self","shape"] (Uu g.P g.w g.K (Cs.mk Z0 Z2 Z4 Z1 Z3) Z5 m)) (Zp:Cls g.K Z5) (Zs:Ye g.K Z5 "book") (Zn:Ye g.K Z5 "makers"):g.Me (k+1) Z5 "maker_of" ["self","shape"] (ZX g.P g.w g.K (Cs.mk Z0 Z2 Z4 Z1 Z3) Z5 (m+1)):=by
 refine R.me Z2A (fun vs H Q E h=>by obtain ⟨prs,w,U,O,ls,dx,d,B,a,sh,xs,rfl,L,hk,hok,hdp,hwt,hxl,hnm,q⟩:=h;rfl) fun f_ cdv A outer s H vs Q E hr h=>?_
 obtain ⟨prs,w,U,O,ls,dx,d,B,a,sh,xs,rfl,L,hk,hok,hdp,hwt,hxl,hnm,q⟩:=h
 refine ⟨_,(@Yg _ _ _ _ _ (@Y9 _ _ _ _ _ _ _ _ (@Yz _ _ _ _ _ _ _ _ (YaW hr) (pv 1) (@Yw _ _ _ _ _ (pv 0) rfl) rfl) (@Yi _ _ _ (@Y9 _ _ _ _ _ _ _ _ (@Yz _ _ _ _ _ _ _ _ Xh (@Yx _ _ _ _ _ _ _ Xc (pv 1) Yf (fun _ _=>rfl)) Xg (YD _)) (@Yi _ _ _ (@YZ _ _ _ _ (@YC _ _ _ _ _ _ _ _ _ _ _ _ _ _ _ _ Z39 Zp hr (pv 0) (@Ya _ _ _ _ _ (pv 1) Yd (by rfl)) (by omega) (by rfl) (by rfl) (by rfl) (by rfl)) (by rfl))) (@Yi _ _ _ (Ycz hr (@Yw _ _ _ _ _ (pv 0) rfl) (pv 1) (@YC _ _ _ _ _ _ _ _ _ _ _ _ _ _ _ _ Z2D Zp hr (pv 0) (@Ya _ _ _ _ _ (pv 1) Yd (by rfl)) (by omega) (by rfl) (by rfl) (by rfl) (by rfl)) rfl)))) YR) (@Yi _ _ _ (@Yo _ _ _ _ (@Ycu _ _ _ _ _ _ _ hr (@Yw _ _ _ _ _ (pv 0) rfl) (pv 1) (fun _ _=>rfl))))),?_⟩
 walk_at "rd"
 refine ⟨_,_,_,L.hl,Zp,Zn,_,XY _ _,d,rfl,xs,L.hd,kd sh,hk,?_⟩
 have wp:=W2 sh
 cases hlk:lookD xs (kd sh) with
 | some p =>
  refine XT (by simp) ?_
  unfold Ul
  walk_at "rd"
  exact ⟨_,_,_,L.hl,Zp,Zn,_,XY _ _,d,rfl,xs,L.hd,kd sh,hk,p,hlk,q p H w U xs L (.refl _ _ _) (fun _ _ _ e=>e) (L.reg hok hlk) (by omega) (.refl _)⟩
 | none =>
  refine Vc rfl ?_
  obtain ⟨r,hT⟩:=YdB hk.den
  refine ⟨_,hT,_,Yq (j:=0) rfl,Y1 _ _,?_⟩
  by_cases c:∃ x,sh = .use x
  ·obtain ⟨x,rfl⟩:=c
   have e6:wt (.use x)=1:=by simp [wt]
   have e7:dep (.use x)=0:=by simp [dep]
   refine Vc (by rw [kd];rfl) ⟨_,_,L.hl,Ut _ _ (by decide +kernel) (by decide +kernel),prs,w,U,O,ls,dx,d,B,a,x,xs,rfl,L,hk,hok,hlk,by omega,by omega,by omega,fun H' w' U' xs' L' G' fr' hl' hlen nk=>?_⟩
   unfold Ul
   walk_at "rd"
   obtain ⟨p,hp⟩:=Option.ne_none_iff_exists'.mp hl'
   exact ⟨_,_,_,L'.hl,Zp,Zn,_,XY _ _,d,rfl,xs',L'.hd,kd (.use x),W3 hk fr' L.hd.at_,p,hp,q p H' w' U' xs' L' G' fr' (L'.reg hok hp) (by omega) nk⟩
  ·have hki:kind sh≤4:=by
    cases sh with
    | use x=>exact absurd ⟨x,rfl⟩ c
    | _=>simp [kind]
   refine XT (fun z=>c ?_) ?_
   ·have z:=V.str.inj z
    cases sh with
    | use x=>exact ⟨x,rfl⟩
    | _=>exact absurd z (by simp only [kd,kdm];decide +kernel)
   ·unfold YbQ
    walk_at "rd"
    refine ⟨_,_,L.hl,Ut _ _ (by decide +kernel) (by decide +kernel),prs,w,U,O,ls,dx,d,B,a,sh,xs,rfl,L,hk,hok,hki,hdp,hwt,hxl,by omega,fun p H1 w1 U1 xs1 L1 G1 fr1 hr1 hl1 nk1=>?_⟩
    have dk1:=W3 hk fr1 L.hd.at_
    have LL:=L1.putX dk1 hok (by omega) hr1
    have fr2:FrB d H (upd H1 d (DDi g.P g.w d (_root_.L2.putX xs1 (kd sh) a p))):=fun b o hb e=>by rw [Yb hb];exact fr1 _ _ hb e
    have mo2:Mo xs1 (_root_.L2.putX xs1 (kd sh) a p):=YdA
    have hnn:=UH (prs:=prs) mo2
    have hpl:=Ycx xs1 (kd sh) a p
    refine ⟨_,_,_,L1.hl,Zp,Zn,_,XY _ _,d,a,xs1,kd sh,p,rfl,rfl,rfl,L1.hd,dk1,by omega,?_⟩
    unfold Ul
    walk_at "rd"
    refine ⟨_,_,_,LL.hl,Zp,Zn,_,XY _ _,d,rfl,_,LL.hd,kd sh,W3 hk fr2 L.hd.at_,p,by rw [UW,if_pos rfl],q p _ w1 U1 _ LL G1 fr2 hr1 (by omega) (nk1.trans mo2)⟩
def MW (C:Cs) (prs:Prs) (M:Nat) (H H':Hp) (p:Addr) (sh:Sh):Prop:=∃ (w:Wo) (U:Addr→Prop),WI C w (t0 U) H'∧w.reg p=some sh∧w.bk=bkO prs∧w.M=M∧Yl H H'∧∀ b,U b→H b=none
def Z1n (K:PySem.W.Frag) (C:Cs):Sp:=fun vs H Q _=>∃ (prs:Prs) (B a:Addr) (sh:Sh),vs=[.ref B,.ref a]∧Vi K H B prs∧DK K H a (kd sh)∧okS prs sh∧okB prs∧wt sh≤24∧dep sh≤2∧∀ p H',MW C prs 2 H H' p sh→Q (.ref p) H'
theorem QH {k:Nat} {Z5 Z1 Z2 Z4 Z3 Z0:Addr} (R:g.Raw "maker_for" "maker_for" Z1v ["book","shape"]) {j_Lister___init__:Nat} (Z2S:g.Ma j_Lister___init__ "Lister" Z5 ["self","book"] (Z3g g.P g.w Z5)) (h_Lister___init__:j_Lister___init__+1≤k) (ZS:g.Me k Z5 "maker_of" ["self","shape"] (ZX g.P g.w g.K (Cs.mk Z0 Z2 Z4 Z1 Z3) Z5 60)) (Zp:Cls g.K Z5) (Zs:Ye g.K Z5 "book") (Zn:Ye g.K Z5 "makers"):g.Fn (k+1) "maker_for" ["book","shape"] (Z1n g.K (Cs.mk Z0 Z2 Z4 Z1 Z3)):=by
 refine R.fn Qz (fun vs H Q E h=>by obtain ⟨prs,B,a,sh,rfl,hB,hk,hok,ob,hwt,hdp,q⟩:=h;rfl) fun f_ cdv A outer s H vs Q E hr h=>?_
 obtain ⟨prs,B,a,sh,rfl,hB,hk,hok,ob,hwt,hdp,q⟩:=h
 refine ⟨_,(@Yi _ _ _ (@Yo _ _ _ _ (@YC _ _ _ _ _ _ _ _ _ _ _ _ _ _ _ _ ZS Zp hr (@Ub _ _ _ _ _ _ _ _ _ _ _ _ _ Z2S hr (@Ya _ _ _ _ _ (pv 0) Yd (by rfl)) (by omega) (by rfl) (by rfl) (by decide) (by rfl) (by rfl)) (@Ya _ _ _ _ _ (pv 1) Yd (by rfl)) (by omega) (by rfl) (by rfl) (by rfl) (by rfl)))),?_⟩
 walk_at "rd"
 intro ls dxl gl gdl hne
 refine ⟨ls,dxl,.ref B,rfl,Yc,fun d H1 gd sb h1 h2=>⟨rfl,_,_,h1,Ut _ _ (by decide +kernel) (by decide +kernel),?_⟩⟩
 have s1:=Wm gl gdl sb
 have gd':=YU (YU gd)
 have hnn:=nn_le (prs:=prs) (xs:=[])
 have hpl:=ob.len
 have bi:BI (Cs.mk Z0 Z2 Z4 Z1 Z3) ⟨bkO prs,fun _=>none,fun _=>none,2⟩ (fun _=>False) (fun _=>False) H1:=⟨fun p s' h=>(by cases h),fun p h=>h.elim,fun b h=>h.elim,fun b x h=>(by cases h),fun b q i h=>(by cases h),fun b b' x h=>(by cases h)⟩
 have L1:LS g.P g.w g.K (Cs.mk Z0 Z2 Z4 Z1 Z3) Z5 prs ⟨bkO prs,fun _=>none,fun _=>none,2⟩ (fun _=>False) (fun _=>False) H1 ls dxl d B []:=⟨h1,hB.tupk (YK s1) fun o e=>s1 _ _ e,YbM h2,bi,fun z=>z,fun z=>z,fun e he=>(by cases he),rfl,ob,rfl⟩
 refine ⟨prs,_,_,_,ls,dxl,d,B,a,sh,[],rfl,L1,hk.keep s1,hok,hdp,by omega,by rw [List.length_nil];omega,by omega,fun p H2 w2 U2 xs2 L2 G2 fr2 hr2 _ _=>q p H2 ⟨w2,U2,L2.bi.wi fun _ h=>h,hr2,L2.bk,G2.M,fun b o e=>fr2 _ _ (Yh e gd') (s1 _ _ e),fun b hb=>?_⟩⟩
 rcases G2.u2 b hb with z | z
 ·exact z.elim
 ·exact s1.free z
theorem YbY (w:Wo) (U:Addr→Prop) (s d:Nat):Xa w (t0 U) s d:=fun p sh _ _ i=>rfl
def Z2E (K:PySem.W.Frag) (C:Cs) (lv:Nat):Sp:=fun vs H Q _=>∃ (prs:Prs) (B a:Addr) (sh:Sh) (n:Nat),vs=[.ref B,.ref a,.int n]∧Vi K H B prs∧DK K H a (kd sh)∧okS prs sh∧okB prs∧wt sh≤24∧dep sh≤2∧n≤40∧5*(n*3+dep sh)+5≤lv ∧
 ∀ D H',Yl H H'→H D=none→H' D=some (.lst (Yt (cnt (bkO prs) sh) (n+1)))→Q (.ref D) H'
theorem QI {k:Nat} {Z5 Z1 Z2 Z4 Z3 Z0:Addr} (R:g.Raw "counts_to" "counts_to" Z1w ["book","shape","size"]) (Z0c:g.Fn k "maker_for" ["book","shape"] (Z1n g.K (Cs.mk Z0 Z2 Z4 Z1 Z3))) (Zt:g.Me k Z0 "count_at" ["self","size"] (Zr (Cs.mk Z0 Z2 Z4 Z1 Z3) 0 160)) (Zv:g.Me k Z2 "count_at" ["self","size"] (Zr (Cs.mk Z0 Z2 Z4 Z1 Z3) 2 160)) (Zu:g.Me k Z1 "count_at" ["self","size"] (Zr (Cs.mk Z0 Z2 Z4 Z1 Z3) 3 160)) (Zw:g.Me k Z3 "count_at" ["self","size"] (Zr (Cs.mk Z0 Z2 Z4 Z1 Z3) 5 160)) (Zq:g.mg "range"=none) (Zc:Cls g.K Z1) (Z7:Ye g.K Z1 "counts") (Zg:Ye g.K Z1 "marks") (Zf:Ye g.K Z1 "parts") (Zh:Cls g.K Z2) (Z8:Ye g.K Z2 "counts") (Zk:Ye g.K Z2 "parts") (Zi:Ye g.K Z2 "table") (Zd:Cls g.K Z3) (Z9:Ye g.K Z3 "counts") (Zb:Ye g.K Z3 "named") (Za:Cls g.K Z0) (Z6:Ye g.K Z0 "counts") (Zj:Ye g.K Z0 "low") (Ze:Ye g.K Z0 "span"):g.Fn (k+1) "counts_to" ["book","shape","size"] (Z2E g.K (Cs.mk Z0 Z2 Z4 Z1 Z3) 160):=by
 refine R.fn Z2w (fun vs H Q E h=>by obtain ⟨prs,B,a,sh,n,rfl,hB,hk,hok,ob,hwt,hdp,hn,hlv,q⟩:=h;rfl) fun f_ cdv A outer s H vs Q E hr h=>?_
 obtain ⟨prs,B,a,sh,n,rfl,hB,hk,hok,ob,hwt,hdp,hn,hlv,q⟩:=h
 refine ⟨_,(@Yg _ _ _ _ _ (@Yp _ _ (3) _ _ _ _ Z2w.nd rfl (.inr rfl) (@YE _ _ _ _ _ _ _ _ _ _ _ _ Z0c hr (@Ya _ _ _ _ _ (pv 0) (@Ya _ _ _ _ _ (pv 1) Yd (by rfl)) (by rfl)) (by omega) (by rfl) (by rfl) (by decide) (by rfl) (by rfl)) (by rfl) (by first | exact .inl rfl | exact .inr rfl | assumption)) (@Yi _ _ _ (@Yo _ _ _ _ (@Wh _ _ _ _ _ _ _ ([none,some 3]) ((["each","maker"]:List Str)) _ (Yv 0) _ _ (.own (.cap (i:=3) rfl rfl (by first | exact .inl rfl | exact .inr rfl) .nil)) rfl (@Y8 _ _ _ _ _ _ rfl Zq (@Ya _ _ _ _ _ (@Yk _ _ _ _ _ _ _ _ YJ (pv 2) Yf) Yd (by rfl)) (by rfl)) (fun cl C s₀ H₀ fp pn=>(@Yn _ _ (0) _ (show List.Nodup (["each","maker"]:List Str) by decide +kernel) rfl (.inl rfl) (.inr rfl))) (fun cl C s₀ H₀ fp pn=>Xj) (fun cl C s₀ H₀ fp pn=>(@YO _ _ _ _ (@YC _ _ _ _ _ _ _ _ _ _ _ _ _ _ _ _ Zt Za hr (pv 1) (@Ya _ _ _ _ _ (pv 0) Yd (by rfl)) (by omega) (by rfl) (by rfl) (by rfl) (by rfl)) (@YO _ _ _ _ (@YC _ _ _ _ _ _ _ _ _ _ _ _ _ _ _ _ Zv Zh hr (pv 1) (@Ya _ _ _ _ _ (pv 0) Yd (by rfl)) (by omega) (by rfl) (by rfl) (by rfl) (by rfl)) (@YO _ _ _ _ (@YC _ _ _ _ _ _ _ _ _ _ _ _ _ _ _ _ Zu Zc hr (pv 1) (@Ya _ _ _ _ _ (pv 0) Yd (by rfl)) (by omega) (by rfl) (by rfl) (by rfl) (by rfl)) (@YC _ _ _ _ _ _ _ _ _ _ _ _ _ _ _ _ Zw Zd hr (pv 1) (@Ya _ _ _ _ _ (pv 0) Yd (by rfl)) (by omega) (by rfl) (by rfl) (by rfl) (by rfl)))))) (by intro x hx;simp at hx;first | (subst hx;exact .inl rfl) | (rcases hx with rfl | rfl<;>exact .inl rfl) | (rcases hx with rfl | rfl | rfl<;>exact .inl rfl) | (rcases hx with rfl | rfl | rfl | rfl<;>exact .inl rfl) | (rcases hx with rfl | rfl | rfl | rfl | rfl<;>exact .inl rfl)) (by rfl) (by decide) (by decide +kernel) (by intro _;rfl))))),?_⟩
 walk_at "rd"
 refine ⟨prs,B,a,sh,rfl,hB,hk,hok,ob,hwt,hdp,fun p H1 ⟨w,U,W,hg,hbk,hM,s1,hU⟩=>?_⟩
 refine X2 (n:=n+1) (fun D i zs H'=>∃ t',Tr (Cs.mk Z0 Z2 Z4 Z1 Z3) w (t0 U) H1 t' H' n (dep sh+1)∧zs=Yt (cnt (bkO prs) sh) i∧H' D=some (.lst zs)∧¬ t'.U D) (fun R r=>by walk_at "rd";exact r) (by omega) ?_ ?_ ?_ ?_
 ·intro D hD
  exact ⟨t0 U,(Tr.refl W _ _).put hD (W.new hD).2 _,rfl,Yc,(W.new hD).2⟩
 ·rintro D i zs H' ⟨t',_,rfl,h2,_⟩
  exact ⟨Ys _ _,h2⟩
 ·rintro D i zs H' hD hi ⟨t',T1,rfl,hd,hUD⟩ R r
  have dD:w.D D=none:=(W.new hD).1
  have hf:fu w i (dep sh)+5≤160:=by
   have:=Uo (w:=w) (d:=dep sh) (show i≤n by omega)
   unfold fu at this ⊢
   rw [hM] at this ⊢
   omega
  walk_at "rd"
  refine Ve T1.wi hg (by omega) hf (T1.ready (YbY _ _ _ _)) fun t2 H2 T2 hn2=>?_
  have T12:=T1.trans (T2.mono (by omega))
  have hd2:=T2.fr _ _ dD hd
  have hUD2:=T2.ours hUD hd
  exact r _ _ hd2 ⟨t2,T12.put hD hUD2 _,by rw [Y2,hbk],Yc,hUD2⟩
 ·rintro D zs H' hD ⟨t',T1,rfl,hd,hUD⟩
  refine q D H' (fun b o e=>T1.fr b o ?_ (s1 _ _ e)) (s1.free hD) hd
  cases z:w.D b with
  | none=>rfl
  | some x =>
   have:=hU b (W.ow b x z)
   rw [e] at this
   cases this
def Z3h (K:PySem.W.Frag) (C:Cs) (lv:Nat):Sp:=fun vs H Q _=>∃ (prs:Prs) (B a:Addr) (sh:Sh) (n:Nat),vs=[.ref B,.ref a,.int n]∧Vi K H B prs∧DK K H a (kd sh)∧okS prs sh∧okB prs∧wt sh≤24∧dep sh≤2∧n≤40∧5*(n*3+dep sh)+5≤lv ∧
 ∀ H',Yl H H'→Q (.int (cnt (bkO prs) sh n)) H'
theorem Ya5 {k:Nat} {Z5 Z1 Z2 Z4 Z3 Z0:Addr} (R:g.Raw "counted" "counted" Z2v ["book","shape","size"]) (Z0c:g.Fn k "maker_for" ["book","shape"] (Z1n g.K (Cs.mk Z0 Z2 Z4 Z1 Z3))) (Zt:g.Me k Z0 "count_at" ["self","size"] (Zr (Cs.mk Z0 Z2 Z4 Z1 Z3) 0 160)) (Zv:g.Me k Z2 "count_at" ["self","size"] (Zr (Cs.mk Z0 Z2 Z4 Z1 Z3) 2 160)) (Zu:g.Me k Z1 "count_at" ["self","size"] (Zr (Cs.mk Z0 Z2 Z4 Z1 Z3) 3 160)) (Zw:g.Me k Z3 "count_at" ["self","size"] (Zr (Cs.mk Z0 Z2 Z4 Z1 Z3) 5 160)) (Zc:Cls g.K Z1) (Z7:Ye g.K Z1 "counts") (Zg:Ye g.K Z1 "marks") (Zf:Ye g.K Z1 "parts") (Zh:Cls g.K Z2) (Z8:Ye g.K Z2 "counts") (Zk:Ye g.K Z2 "parts") (Zi:Ye g.K Z2 "table") (Zd:Cls g.K Z3) (Z9:Ye g.K Z3 "counts") (Zb:Ye g.K Z3 "named") (Za:Cls g.K Z0) (Z6:Ye g.K Z0 "counts") (Zj:Ye g.K Z0 "low") (Ze:Ye g.K Z0 "span"):g.Fn (k+1) "counted" ["book","shape","size"] (Z3h g.K (Cs.mk Z0 Z2 Z4 Z1 Z3) 160):=by
 refine R.fn YaY (fun vs H Q E h=>by obtain ⟨prs,B,a,sh,n,rfl,hB,hk,hok,ob,hwt,hdp,hn,hlv,q⟩:=h;rfl) fun f_ cdv A outer s H vs Q E hr h=>?_
 obtain ⟨prs,B,a,sh,n,rfl,hB,hk,hok,ob,hwt,hdp,hn,hlv,q⟩:=h
 refine ⟨_,(@Yi _ _ _ (@Yo _ _ _ _ (@YO _ _ _ _ (@YC _ _ _ _ _ _ _ _ _ _ _ _ _ _ _ _ Zt Za hr (@YE _ _ _ _ _ _ _ _ _ _ _ _ Z0c hr (@Ya _ _ _ _ _ (pv 0) (@Ya _ _ _ _ _ (pv 1) Yd (by rfl)) (by rfl)) (by omega) (by rfl) (by rfl) (by decide) (by rfl) (by rfl)) (@Ya _ _ _ _ _ (pv 2) Yd (by rfl)) (by omega) (by rfl) (by rfl) (by rfl) (by rfl)) (@YO _ _ _ _ (@YC _ _ _ _ _ _ _ _ _ _ _ _ _ _ _ _ Zv Zh hr (@YE _ _ _ _ _ _ _ _ _ _ _ _ Z0c hr (@Ya _ _ _ _ _ (pv 0) (@Ya _ _ _ _ _ (pv 1) Yd (by rfl)) (by rfl)) (by omega) (by rfl) (by rfl) (by decide) (by rfl) (by rfl)) (@Ya _ _ _ _ _ (pv 2) Yd (by rfl)) (by omega) (by rfl) (by rfl) (by rfl) (by rfl)) (@YO _ _ _ _ (@YC _ _ _ _ _ _ _ _ _ _ _ _ _ _ _ _ Zu Zc hr (@YE _ _ _ _ _ _ _ _ _ _ _ _ Z0c hr (@Ya _ _ _ _ _ (pv 0) (@Ya _ _ _ _ _ (pv 1) Yd (by rfl)) (by rfl)) (by omega) (by rfl) (by rfl) (by decide) (by rfl) (by rfl)) (@Ya _ _ _ _ _ (pv 2) Yd (by rfl)) (by omega) (by rfl) (by rfl) (by rfl) (by rfl)) (@YC _ _ _ _ _ _ _ _ _ _ _ _ _ _ _ _ Zw Zd hr (@YE _ _ _ _ _ _ _ _ _ _ _ _ Z0c hr (@Ya _ _ _ _ _ (pv 0) (@Ya _ _ _ _ _ (pv 1) Yd (by rfl)) (by rfl)) (by omega) (by rfl) (by rfl) (by decide) (by rfl) (by rfl)) (@Ya _ _ _ _ _ (pv 2) Yd (by rfl)) (by omega) (by rfl) (by rfl) (by rfl) (by rfl))))))),?_⟩
 have key:∀ p H1,MW (Cs.mk Z0 Z2 Z4 Z1 Z3) prs 2 H H1 p sh→Cal (Cs.mk Z0 Z2 Z4 Z1 Z3) (VY (Cs.mk Z0 Z2 Z4 Z1 Z3) sh) (kind sh) 160 H1 p n Q:=fun p H1 ⟨w,U,W,hg,hbk,hM,s1,hU⟩=>by
  obtain ⟨dx,c,fs,hU',hd,hsm,hns,hp,hDc,hc,hsub⟩:=W.at_ p sh hg
  have hf:fu w n (dep sh)+5≤160:=by
   unfold fu
   rw [hM]
   omega
  refine ⟨dx,_,hp,WL (by decide +kernel) hsub,w,t0 U,p,sh,n,rfl,rfl,W,hg,by omega,hn,fun h=>absurd h (Nat.not_lt_zero _),fun _=>⟨hf,YbY _ _ _ _,fun t' H' T1 _=>?_⟩⟩
  rw [hbk]
  refine q H' fun b o e=>T1.fr b o ?_ (s1 _ _ e)
  cases z:w.D b with
  | none=>rfl
  | some x =>
   have:=hU b (W.ow b x z)
   rw [e] at this
   cases this
 walk_at "rd"
 cases sh with
 | w lo span=>exact .inl ⟨prs,B,a,_,rfl,hB,hk,hok,ob,hwt,hdp,fun p H1 mw=>⟨p,rfl,key p H1 mw⟩⟩
 | row ps=>exact .inr (.inl ⟨prs,B,a,_,rfl,hB,hk,hok,ob,hwt,hdp,fun p H1 mw=>⟨p,rfl,key p H1 mw⟩⟩)
 | pick mk ps=>exact .inr (.inr (.inl ⟨prs,B,a,_,rfl,hB,hk,hok,ob,hwt,hdp,fun p H1 mw=>⟨p,rfl,key p H1 mw⟩⟩))
 | use x=>exact .inr (.inr (.inr ⟨prs,B,a,_,rfl,hB,hk,hok,ob,hwt,hdp,fun p H1 mw=>⟨p,rfl,key p H1 mw⟩⟩))
theorem SameBut.upd {p:Addr} {H H':Hp} (a:SameBut p H H') (o:HO):SameBut p H (L2.upd H' p o):=fun q u n h=>by rw [Yb n];exact a q u n h
theorem Ya6 {g:TG} {tb:TS} {D:Ends} {σ:St} {H:Hp} {K:PySem.W.Frag} {tl:TE} (Pv:List V→Addr→Nat→St→Hp→Prop) (ha:∀ R:V→Hp→Prop,(∀ ys c H1,Pv ys c 0 σ H1→R (.ref c) H1)→tl σ H R) (hl:∀ ys c i σ H,i≤ys.length→Pv ys c i σ H→SqL K H c ys)
  (hs:∀ ys c (i:Nat) x σ H,ys[i]?=some x→Pv ys c i σ H→g x σ H fun σ2 H2=>tb { D with nx:=Pv ys c (i+1),ct:=Pv ys c (i+1),bk:=D.nx } σ2 H2) (hd:∀ ys c σ H,Pv ys c ys.length σ H→D.nx σ H):Vn (Wq K tl) g tb D σ H:=by
 refine ha _ fun ys c H1 h0=>⟨c,rfl,⟨ys,hl ys c 0 σ H1 (Nat.zero_le _) h0⟩,?_⟩
 exact VV (Pv ys c) h0 (hl ys c) (hs ys c) (hd ys c)
def Z2F:Sp:=fun vs H Q _=>∃ i:Int,vs=[.int i]∧Q (.bl true) H
theorem QJ {Z5 Z1 Z2 Z4 Z3 Z0:Addr} (R:g.Raw "_law_whole" "_law_whole" Z1x ["_law_found"]) (b_bool:g.mg "bool"=none) (b_int:g.mg "int"=none) (ZJ:g.mg "isinstance"=none):g.Fn (1) "_law_whole" ["_law_found"] (Z2F):=by
 refine R.fn QA (fun vs H Q E h=>by obtain ⟨i,rfl,q⟩:=h;rfl) fun f_ cdv A outer s H vs Q E hr h=>?_
 obtain ⟨i,rfl,q⟩:=h
 refine ⟨_,(@Yi _ _ _ (@Yo _ _ _ _ (@YdQ _ _ _ _ _ _ _ (@YX _ _ _ _ _ _ _ _ _ _ ZJ WS (@Ya _ _ _ _ _ (pv 0) (@Ya _ _ _ _ _ (@YaP _ _ _ _ ("int") b_int (by decide +kernel) (by rfl) (by rfl) (by decide) (by decide)) Yd (by rfl)) (by rfl)) (by decide +kernel) (by rfl) (by rfl) (by decide) (by decide) (by rfl) (by rfl)) (@YdP _ _ _ _ _ (@YdR _ _ _ _ (@YX _ _ _ _ _ _ _ _ _ _ ZJ WS (@Ya _ _ _ _ _ (pv 0) (@Ya _ _ _ _ _ (@YaP _ _ _ _ ("bool") b_bool (by decide +kernel) (by rfl) (by rfl) (by decide) (by decide)) Yd (by rfl)) (by rfl)) (by decide +kernel) (by rfl) (by rfl) (by decide) (by decide) (by rfl) (by rfl))))))),?_⟩
 walk_at "rd"
 exact ⟨_,rfl,_,.int _,true,rfl,iteT ⟨_,rfl,_,.int _,false,rfl,q⟩⟩
def Z3i (K:PySem.W.Frag):Sp:=fun vs H Q _=>∃ (a:Addr) (ns:List Int) (k st:Nat),vs=[.ref a,.int k,.int st]∧SqL K H a (ns.map V.int)∧ns.length≤63∧k≤60∧0<st∧st≤60∧∀ (x:Nat) H',x<2^210→Yl H H'→Q (.int x) H'
theorem Ya7 {Z5 Z1 Z2 Z4 Z3 Z0:Addr} (R:g.Raw "_law_mix" "_law_mix" Z2x ["_law_script","_law_k","_law_step"]):g.Fn (1) "_law_mix" ["_law_script","_law_k","_law_step"] (Z3i g.K):=by
 refine R.fn Z1h (fun vs H Q E h=>by obtain ⟨a,ns,k,st,rfl,hS,hl,hk,h0,hst,q⟩:=h;rfl) fun f_ cdv A outer s H vs Q E hr h=>?_
 obtain ⟨a,ns,k,st,rfl,hS,hl,hk,h0,hst,q⟩:=h
 refine ⟨_,(@Yg _ _ _ _ _ (@Yp _ _ (3) _ _ _ _ Z1h.nd rfl (.inl rfl) (@Yk _ _ _ _ _ _ _ _ YJ (@Yk _ _ _ _ _ _ _ _ XG (pv 1) (pv 1)) Yf) (by rfl) (by first | exact .inl rfl | exact .inr rfl | assumption)) (@Yg _ _ _ _ _ (@Xn _ _ _ _ _ _ _ _ PassesOwn.never rfl (@Xr _ _ _ _ (@YbJ _ _ _ _ _ _ _ _ _ (pv 0) (pv 1) (pv 2))) (@Yn _ _ (4) _ Z1h.nd rfl (.inl rfl) (by first | exact .inl rfl | exact .inr rfl | assumption)) (@Yi _ _ _ (@Yp _ _ (3) _ _ _ _ Z1h.nd rfl (.inl rfl) (@Yk _ _ _ _ _ _ _ _ YW (@Yk _ _ _ _ _ _ _ _ YJ (@Yk _ _ _ _ _ _ _ _ XG (pv 3) Yf) (@Yk _ _ _ _ _ _ _ _ YW (pv 4) (@Yk _ _ _ _ _ _ _ _ YJ (@Yk _ _ _ _ _ _ _ _ Vo Yf Yf) Yf))) (@Yk _ _ _ _ _ _ _ _ YJ (@Yk _ _ _ _ _ _ _ _ Vo Yf Yf) Yf)) (by rfl) (by first | exact .inl rfl | exact .inr rfl | assumption))) (by intro _;rfl)) (@Yi _ _ _ (@Yo _ _ _ _ (pv 3))))),?_⟩
 walk_at "rd"
 refine ⟨.inl (cm (m:=8) (n:=8) (by rw [Int.natAbs_natCast];omega) (by rw [Int.natAbs_natCast];omega)),?_⟩
 refine Ya6 (K:=g.K) (fun ys c i σ H'=>(∀ v∈ys,v∈ns.map V.int)∧Yl H H'∧H' c=some (.lst ys)∧∃ (x:Nat) (o:Option V),σ=[some (.ref a),some (.int k),some (.int st),some (.int x),o]∧x<2^210) (fun R r=>?_) (fun ys c i σ H' _ h=>SqL.of h.2.2.1) ?_ ?_
 ·walk_at "rd"
  refine ⟨by omega,by omega,_,hS,fun p ys hp hm hle=>r ys p _ ⟨hm,.upd_new hp _,Yc,k*k+3,none,by rw [Int.natCast_add,Int.natCast_mul];rfl,?_⟩⟩
  have:k*k≤60*60:=Nat.mul_le_mul hk hk
  exact Nat.lt_of_le_of_lt (show k*k+3≤3603 by omega) (by decide)
 ·rintro ys c i v σ H' hv ⟨hm,sm,hc,x,o,rfl,hx⟩
  obtain ⟨z,_,rfl⟩:=List.mem_map.mp (hm v (List.mem_of_getElem? hv))
  walk_at "rd"
  have hp:(0:Int)<10^Int.toNat 61+51:=by decide +kernel
  obtain ⟨r,hr1,hr2⟩:=UC ((x:Int)*48271+z%(10^Int.toNat 60+7)) hp
  refine ⟨.inl (cm (m:=210) (n:=16) (by rw [Int.natAbs_natCast];exact hx) (by decide)),QB,by decide +kernel,QB,hp,hm,sm,hc,r,hr1,?_⟩
  have hb:(10:Int)^Int.toNat 61+51<((2^210:Nat):Int):=by decide +kernel
  exact Int.ofNat_lt.mp (Int.lt_trans hr2 hb)
 ·rintro ys c σ H' ⟨hm,sm,hc,x,o,rfl,hx⟩
  walk_at "rd"
  exact q x H' hx sm
def Wk (xs:List Nat):List V:=xs.map fun (x:Nat)=>V.int (x:Int)
theorem UZ (xs:List Nat):(Wk xs).length=xs.length:=by simp [Wk]
def Y5 (H:Hp) (D:Addr):Prop:=∃ xs:List Nat,H D=some (.lst (Wk xs))∧(∀ x∈xs,x<2^210)∧xs.length≤60
def Z34 (K:PySem.W.Frag):Sp:=fun vs H Q _=>∃ (a:Addr) (ns:List Int) (n:Nat),vs=[.ref a,.int n]∧SqL K H a (ns.map V.int)∧ns.length≤63∧n≤60∧∀ (D:Addr) H',Y5 H' D→Q (.ref D) H'
theorem Q4 {k:Nat} {Z5 Z1 Z2 Z4 Z3 Z0:Addr} (R:g.Raw "_law_feed" "_law_feed" Z1V ["_law_script","_law_many"]) (F_law_mix:g.Fn k "_law_mix" ["_law_script","_law_k","_law_step"] (Z3i g.K)) (Zq:g.mg "range"=none):g.Fn (k+1) "_law_feed" ["_law_script","_law_many"] (Z34 g.K):=by
 refine R.fn QZ (fun vs H Q E h=>by obtain ⟨a,ns,n,rfl,hS,hl,hn,q⟩:=h;rfl) fun f_ cdv A outer s H vs Q E hr h=>?_
 obtain ⟨a,ns,n,rfl,hS,hl,hn,q⟩:=h
 refine ⟨_,(@Yi _ _ _ (@Yo _ _ _ _ (@Wh _ _ _ _ _ _ _ ([none,some 0,some 1]) ((["_law_k","_law_script","_law_many"]:List Str)) _ (Yv 0) _ _ (.own (.cap (i:=0) rfl rfl (by first | exact .inl rfl | exact .inr rfl) (.cap (i:=1) rfl rfl (by first | exact .inl rfl | exact .inr rfl) .nil))) rfl (@Y8 _ _ _ _ _ _ rfl Zq (@Ya _ _ _ _ _ (pv 1) Yd (by rfl)) (by rfl)) (fun cl C s₀ H₀ fp pn=>(@Yn _ _ (0) _ (show List.Nodup (["_law_k","_law_script","_law_many"]:List Str) by decide +kernel) rfl (.inl rfl) (.inr rfl))) (fun cl C s₀ H₀ fp pn=>Xj) (fun cl C s₀ H₀ fp pn=>(@YE _ _ _ _ _ _ _ _ _ _ _ _ F_law_mix hr (@Ya _ _ _ _ _ (pv 1) (@Ya _ _ _ _ _ (@Yk _ _ _ _ _ _ _ _ Xb (@Yk _ _ _ _ _ _ _ _ Xb (pv 2) Yf) (pv 0)) (@Ya _ _ _ _ _ (pv 2) Yd (by rfl)) (by rfl)) (by rfl)) (by omega) (by rfl) (by rfl) (by decide) (by rfl) (by rfl))) (by intro x hx;simp at hx;first | (subst hx;exact .inl rfl) | (rcases hx with rfl | rfl<;>exact .inl rfl) | (rcases hx with rfl | rfl | rfl<;>exact .inl rfl) | (rcases hx with rfl | rfl | rfl | rfl<;>exact .inl rfl) | (rcases hx with rfl | rfl | rfl | rfl | rfl<;>exact .inl rfl)) (by rfl) (by decide) (by decide +kernel) (by intro _;rfl)))),?_⟩
 walk_at "rd"
 refine X2 (n:=n) (fun D i zs H'=>Yl H H'∧H' D=some (.lst zs)∧∃ xs:List Nat,zs=Wk xs∧(∀ x∈xs,x<2^210)∧xs.length=i) (fun R r=>by walk_at "rd";exact r) (by omega) ?_ ?_ ?_ ?_
 ·intro D hD
  exact ⟨.upd_new hD _,Yc,[],rfl,fun x hx=>absurd hx (by simp),rfl⟩
 ·rintro D i zs H' ⟨sm,hd,xs,rfl,hx,he⟩
  exact ⟨by rw [UZ];exact he,hd⟩
 ·rintro D i zs H' hD hi ⟨sm,hd,xs,rfl,hx,he⟩ R r
  walk_at "rd"
  refine ⟨a,ns,n - 1 - i,n,by rw [show (n:Int) - 1 - (i:Int)=((n - 1 - i:Nat):Int) by omega],Yl.seq sm hS,hl,by omega,by omega,hn,fun y H2 hy s2=>r _ _ (s2 _ _ hd) ⟨.upd_over hD (sm.trans s2) _,Yc,xs++[y],by simp [Wk],?_,by rw [List.length_append,he];rfl⟩⟩
  intro x hx'
  rcases List.mem_append.mp hx' with h | h
  ·exact hx x h
  ·rw [List.mem_singleton.mp h];exact hy
 ·rintro D zs H' hD ⟨sm,hd,xs,rfl,hx,he⟩
  exact q D H' ⟨xs,hd,hx,by omega⟩
theorem Y5.new {H:Hp} {D p:Addr} {o:HO} (h:Y5 H D) (hp:H p=none):Y5 (upd H p o) D:=by
 obtain ⟨xs,h1,h2⟩:=h
 exact ⟨xs,by rw [Yb (Yh h1 hp)];exact h1,h2⟩
def Z18 (K:PySem.W.Frag):Sp:=fun vs H Q _=>∃ (D:Addr),vs=[.ref D]∧Y5 H D∧∀ (y:Nat) H',y<2^210→SameBut D H H'→Y5 H' D→Q (.int y) H'
theorem Q5 {Z5 Z1 Z2 Z4 Z3 Z0:Addr} (R:g.Raw "_law_next" "_law_next" Z1W ["_law_feed_here"]) (b_len:g.mg "len"=none):g.Fn (1) "_law_next" ["_law_feed_here"] (Z18 g.K):=by
 refine R.fn Q0 (fun vs H Q E h=>by obtain ⟨D,rfl,⟨xs,hD,hx,hl⟩,q⟩:=h;rfl) fun f_ cdv A outer s H vs Q E hr h=>?_
 obtain ⟨D,rfl,⟨xs,hD,hx,hl⟩,q⟩:=h
 refine ⟨_,(@Yg _ _ _ _ _ (@Y9 _ _ _ _ _ _ _ _ (@Yz _ _ _ _ _ _ _ _ Xh (@YX _ _ _ _ _ _ _ _ _ _ b_len YA (@Ya _ _ _ _ _ (pv 0) Yd (by rfl)) (by decide +kernel) (by rfl) (by rfl) (by decide) (by decide) (by rfl) (by rfl)) Yf (YD _)) (@Yi _ _ _ (@Yo _ _ _ _ Yf)) YR) (@Yi _ _ _ (@Yo _ _ _ _ (@YdX _ _ _ _ _ _ _ _ _ PySem.F.plainAttrs_list PySem.F.slot_list_pop PySem.F.type_list_pop YdY (pv 0) (by rfl) (by rfl))))),?_⟩
 walk_at "rd"
 refine ⟨_,.inl (SqL.of hD),?_⟩
 rw [UZ]
 refine W8 (fun c=>?_) (fun c=>?_)
 ·exact q 0 H (by decide) (.refl _ _) ⟨xs,hD,hx,hl⟩
 ·obtain ⟨ys,y,rfl⟩:∃ ys y,xs=ys++[y]:=⟨xs.dropLast,xs.getLast (by intro e;subst e;exact c rfl),(List.dropLast_concat_getLast _).symm⟩
  refine ⟨.inl ⟨rfl,_,SqL.of hD⟩,D,_,.int y,rfl,rfl,hD,by simp [Wk],?_⟩
  refine q y _ (hx y (by simp)) (SameBut.upd (.refl _ _) _) ⟨ys,?_,fun x h=>hx x (List.mem_append_left _ h),by rw [List.length_append] at hl;omega⟩
  rw [Yc]
  simp [Wk]
def Z1a (K:PySem.W.Frag):Sp:=fun vs H Q _=>∃ (D:Addr),vs=[.ref D]∧Y5 H D∧∀ (p:Addr) (lo:Int) (span:Nat) H',SameBut D H H'→Y5 H' D→H' p=some (.tup [.str "whole",.int lo,.int (lo+span)])→Q (.ref p) H'
theorem Z2G {k:Nat} {Z5 Z1 Z2 Z4 Z3 Z0:Addr} (R:g.Raw "_law_whole_shape" "_law_whole_shape" Z0u ["_law_feed_here"]) (ZT:g.Fn k "_law_next" ["_law_feed_here"] (Z18 g.K)) (b_max:g.mg "max"=none):g.Fn (k+1) "_law_whole_shape" ["_law_feed_here"] (Z1a g.K):=by
 refine R.fn ZC (fun vs H Q E h=>by obtain ⟨D,rfl,hD,q⟩:=h;rfl) fun f_ cdv A outer s H vs Q E hr h=>?_
 obtain ⟨D,rfl,hD,q⟩:=h
 refine ⟨_,(@Yg _ _ _ _ _ (@Yp _ _ (1) _ _ _ _ ZC.nd rfl (.inl rfl) (@YE _ _ _ _ _ _ _ _ _ _ _ _ ZT hr (@Ya _ _ _ _ _ (pv 0) Yd (by rfl)) (by omega) (by rfl) (by rfl) (by decide) (by rfl) (by rfl)) (by rfl) (by first | exact .inl rfl | exact .inr rfl | assumption)) (@Yg _ _ _ _ _ (@Yp _ _ (2) _ _ _ _ ZC.nd rfl (.inl rfl) (@Yk _ _ _ _ _ _ _ _ Xb (@Yk _ _ _ _ _ _ _ _ YW (@YE _ _ _ _ _ _ _ _ _ _ _ _ ZT hr (@Ya _ _ _ _ _ (pv 0) Yd (by rfl)) (by omega) (by rfl) (by rfl) (by decide) (by rfl) (by rfl)) (@Yk _ _ _ _ _ _ _ _ Vo Yf Yf)) (@Yk _ _ _ _ _ _ _ _ XG Yf (@Yk _ _ _ _ _ _ _ _ Vo Yf Yf))) (by rfl) (by first | exact .inl rfl | exact .inr rfl | assumption)) (@Yg _ _ _ _ _ (@Y9 _ _ _ _ _ _ _ _ (@Yz _ _ _ _ _ _ _ _ Xh (@Yk _ _ _ _ _ _ _ _ YW (pv 1) Yf) Yf (YD _)) (@Yi _ _ _ (@Yp _ _ (2) _ _ _ _ ZC.nd rfl (.inl rfl) (@Yk _ _ _ _ _ _ _ _ Xb (@Yk _ _ _ _ _ _ _ _ YW (@Yk _ _ _ _ _ _ _ _ Y4 (pv 1) Yf) Yf) Yf) (by rfl) (by first | exact .inl rfl | exact .inr rfl | assumption))) YR) (@Yg _ _ _ _ _ (@Yp _ _ (3) _ _ _ _ ZC.nd rfl (.inl rfl) (@Yk _ _ _ _ _ _ _ _ YW (@Yk _ _ _ _ _ _ _ _ Y4 (pv 1) Yf) Yf) (by rfl) (by first | exact .inl rfl | exact .inr rfl | assumption)) (@Yg _ _ _ _ _ (@Y9 _ _ _ _ _ _ _ _ (@Yz _ _ _ _ _ _ _ _ Xh (@Yk _ _ _ _ _ _ _ _ YW (@Yk _ _ _ _ _ _ _ _ Y4 (pv 1) Yf) Yf) Yf (YD _)) (@Yi _ _ _ (@Yp _ _ (3) _ _ _ _ ZC.nd rfl (.inl rfl) (@YX _ _ _ _ _ _ _ _ _ _ b_max (UM rfl) (@Ya _ _ _ _ _ Yf (@Ya _ _ _ _ _ (@Yk _ _ _ _ _ _ _ _ YJ (@Yk _ _ _ _ _ _ _ _ Xb (@Yk _ _ _ _ _ _ _ _ Ql Yf (@Yk _ _ _ _ _ _ _ _ YW (@Yk _ _ _ _ _ _ _ _ Y4 (pv 1) Yf) Yf)) Yf) (@Yk _ _ _ _ _ _ _ _ YW (@Yk _ _ _ _ _ _ _ _ Y4 (pv 1) Yf) Yf)) Yd (by rfl)) (by rfl)) (by decide +kernel) (by rfl) (by rfl) (by decide) (by decide) (by rfl) (by rfl)) (by rfl) (by first | exact .inl rfl | exact .inr rfl | assumption))) YR) (@Yg _ _ _ _ _ (@Y9 _ _ _ _ _ _ _ _ (@Yz _ _ _ _ _ _ _ _ Xh (@Yk _ _ _ _ _ _ _ _ YW (@Yk _ _ _ _ _ _ _ _ Y4 (pv 1) Yf) Yf) Yf (YD _)) (@Yi _ _ _ (@Yp _ _ (3) _ _ _ _ ZC.nd rfl (.inl rfl) (@Yk _ _ _ _ _ _ _ _ YW (@YE _ _ _ _ _ _ _ _ _ _ _ _ ZT hr (@Ya _ _ _ _ _ (pv 0) Yd (by rfl)) (by omega) (by rfl) (by rfl) (by decide) (by rfl) (by rfl)) (@Yk _ _ _ _ _ _ _ _ Vo Yf Yf)) (by rfl) (by first | exact .inl rfl | exact .inr rfl | assumption))) YR) (@Yi _ _ _ (@Yo _ _ _ _ (@Xs _ _ _ _ _ (@Ya _ _ _ _ _ Xg (@Ya _ _ _ _ _ (pv 2) (@Ya _ _ _ _ _ (@Yk _ _ _ _ _ _ _ _ YJ (pv 2) (pv 3)) Yd (by rfl)) (by rfl)) (by rfl))))))))))),?_⟩
 refine cut2 (fun σ H'=>∃ (c:Nat) (lo:Int),σ=[some (.ref D),some (.int c),some (.int lo),none]∧c<2^210∧SameBut D H H'∧Y5 H' D) ?_ (fun N hN=>?_)
 rotate_left
 ·walk_at "rd"
  exact ⟨D,rfl,hD,fun c H1 hc s1 f1=>⟨D,rfl,f1,fun y H2 hy s2 f2=>⟨QB,_,rfl,by decide +kernel,QB,.inl (cm (m:=3) (n:=200) (by decide) (by decide +kernel)),hN _ _ ⟨c,_,rfl,hc,s1.trans s2,f2⟩⟩⟩⟩
 rintro σ H1 ⟨c,lo,rfl,hc,s1,f1⟩
 refine WF (fun σ H'=>∃ (lo:Int),σ=[some (.ref D),some (.int c),some (.int lo),none]∧SameBut D H H'∧Y5 H' D) ?_ (fun N hN=>?_)
 rotate_left
 ·walk_at "rd"
  exact ⟨by decide,W8 (fun _=>⟨YV (by decide) (by decide),by decide,hN _ _ ⟨_,rfl,s1,f1⟩⟩) (fun _=>hN _ _ ⟨_,rfl,s1,f1⟩)⟩
 rintro σ H2 ⟨lo,rfl,s2,f2⟩
 refine WF (fun σ H'=>∃ (n:Nat),σ=[some (.ref D),some (.int c),some (.int lo),some (.int n)]∧SameBut D H H'∧Y5 H' D) ?_ (fun N hN=>?_)
 rotate_left
 ·walk_at "rd"
  obtain ⟨r,h1,h2⟩:=UC ((c:Int) / 21) (j:=9) (by decide)
  exact ⟨YV (by decide) (by decide),by decide,hN _ _ ⟨r,by rw [h1],s2,f2⟩⟩
 rintro σ H3 ⟨n,rfl,s3,f3⟩
 refine WF (fun σ H'=>∃ (n:Nat),σ=[some (.ref D),some (.int c),some (.int lo),some (.int n)]∧SameBut D H H'∧Y5 H' D) ?_ (fun N hN=>?_)
 rotate_left
 ·walk_at "rd"
  refine ⟨YV (by decide) (by decide),by decide,W8 (fun _=>?_) (fun _=>hN _ _ ⟨n,rfl,s3,f3⟩)⟩
  refine ⟨YV (by decide) (by decide),by decide,⟨by omega,by omega,by decide⟩,YV (by decide) (by decide),by decide,?_⟩
  have e:∀ z:Int,∃ r:Nat,(if z>0 then z else 0)=(r:Int):=fun z=>⟨z.toNat,by split<;>omega⟩
  obtain ⟨r,hr1⟩:=e (1*2^((c:Int) / 756%18).toNat - 2+(c:Int) / 13608%4)
  exact hN _ _ ⟨r,by rw [hr1],s3,f3⟩
 rintro σ H4 ⟨n,rfl,s4,f4⟩
 refine WF (fun σ H'=>∃ (n:Nat),σ=[some (.ref D),some (.int c),some (.int lo),some (.int n)]∧SameBut D H H'∧Y5 H' D) ?_ (fun N hN=>?_)
 rotate_left
 ·walk_at "rd"
  refine ⟨YV (by decide) (by decide),by decide,W8 (fun _=>?_) (fun _=>hN _ _ ⟨n,rfl,s4,f4⟩)⟩
  refine ⟨D,rfl,f4,fun y H5 hy s5 f5=>⟨QB,_,rfl,by decide +kernel,?_⟩⟩
  obtain ⟨r,h1,h2⟩:=UC (y:Int) (j:=10^Int.toNat 59) (by decide +kernel)
  exact hN _ _ ⟨r,by rw [h1],s4.trans s5,f5⟩
 rintro σ H5 ⟨n,rfl,s5,f5⟩
 walk_at "rd"
 exact ⟨few (by decide),fun p hp=>q p lo n _ (fun x o h1 h2=>by rw [Yb (Yh (s5 _ _ h1 h2) hp)];exact s5 _ _ h1 h2) (f5.new hp) Yc⟩
theorem W4 {l:List Nat} (h:∀ c∈l,c<1000):PyData.strOk (S l)=true:=by
 simp only [PyData.strOk,S,Array.all_eq_true',decide_eq_true_eq]
 intro x hx
 have:=h x (by simpa using hx)
 omega
theorem SameBut.upd_new {D:Addr} {H H':Hp} {p:Addr} (s:SameBut D H H') (hp:H' p=none) (o:HO):SameBut D H (L2.upd H' p o):=fun x u h1 h2=>by rw [Yb (Yh (s _ _ h1 h2) hp)];exact s _ _ h1 h2
theorem QK (f:Nat→Int) {n i:Nat} {x:V} (h:(Yt f n)[i]?=some x):∃ z:Int,x = .int z:=by
 obtain ⟨k,_,rfl⟩:=List.mem_map.mp (List.mem_of_getElem? h)
 exact ⟨_,rfl⟩
def Z2i (K:PySem.W.Frag):Sp:=fun vs H Q _=>∃ (a b:Addr) (zs:List V),vs=[.ref a,.ref b]∧H a=some (.lst zs)∧H b=some (.lst zs)∧(∀ (i:Nat) x,zs[i]?=some x→∃ z:Int,x = .int z)∧∀ H',Yl H H'→Q (.bl true) H'
theorem U9 {k:Nat} {Z5 Z1 Z2 Z4 Z3 Z0:Addr} (R:g.Raw "_law_counts" "_law_counts" Z1m ["_law_found","_law_due_here"]) (F_law_whole:g.Fn k "_law_whole" ["_law_found"] (Z2F)) (ZJ:g.mg "isinstance"=none) (b_len:g.mg "len"=none) (b_list:g.mg "list"=none) (b_zip:g.mg "zip"=none):g.Fn (k+1) "_law_counts" ["_law_found","_law_due_here"] (Z2i g.K):=by
 refine R.fn Z1d (fun vs H Q E h=>by obtain ⟨a,b,zs,rfl,ha,hb,hz,q⟩:=h;rfl) fun f_ cdv A outer s H vs Q E hr h=>?_
 obtain ⟨a,b,zs,rfl,ha,hb,hz,q⟩:=h
 refine ⟨_,(@Yg _ _ _ _ _ (@Y9 _ _ _ _ _ _ _ _ (@YcJ _ _ _ _ _ _ _ (@Vm _ _ _ _ (@Vl _ _ _ (@YX _ _ _ _ _ _ _ _ _ _ ZJ WS (@Ya _ _ _ _ _ (pv 0) (@Ya _ _ _ _ _ (@YaP _ _ _ _ ("list") b_list (by decide +kernel) (by rfl) (by rfl) (by decide) (by decide)) Yd (by rfl)) (by rfl)) (by decide +kernel) (by rfl) (by rfl) (by decide) (by decide) (by rfl) (by rfl)) (by intro _;rfl))) (@Ybi _ _ _ _ (@Yz _ _ _ _ _ _ _ _ YcO (@YX _ _ _ _ _ _ _ _ _ _ b_len YA (@Ya _ _ _ _ _ (pv 0) Yd (by rfl)) (by decide +kernel) (by rfl) (by rfl) (by decide) (by decide) (by rfl) (by rfl)) (@YX _ _ _ _ _ _ _ _ _ _ b_len YA (@Ya _ _ _ _ _ (pv 1) Yd (by rfl)) (by decide +kernel) (by rfl) (by rfl) (by decide) (by decide) (by rfl) (by rfl)) (YD _)))).pt (@Yi _ _ _ (@Yo _ _ _ _ VE)) YR) (@Yg _ _ _ _ _ (@Xn _ _ _ _ _ _ _ _ PassesOwn.never rfl (@Ydl _ _ _ _ _ _ _ _ _ rfl b_zip (@Ya _ _ _ _ _ (pv 0) (@Ya _ _ _ _ _ (pv 1) Yd (by rfl)) (by rfl)) (by rfl) (by rfl)) (@XZ _ _ _ _ _ (2) rfl (@YL _ _ _ _ _ (@Yn _ _ (2) _ Z1d.nd rfl (.inl rfl) (by first | exact .inl rfl | exact .inr rfl | assumption)) (@YL _ _ _ _ _ (@Yn _ _ (3) _ Z1d.nd rfl (.inl rfl) (by first | exact .inl rfl | exact .inr rfl | assumption)) XO (by rfl)) (by rfl)) (by rfl) (by rfl)) (@Yi _ _ _ (@Y9 _ _ _ _ _ _ _ _ (@YcJ _ _ _ _ _ _ _ (@Vm _ _ _ _ (@Vl _ _ _ (@YE _ _ _ _ _ _ _ _ _ _ _ _ F_law_whole hr (@Ya _ _ _ _ _ (pv 2) Yd (by rfl)) (by omega) (by rfl) (by rfl) (by decide) (by rfl) (by rfl)) (by intro _;rfl))) (@Ybi _ _ _ _ (@Yz _ _ _ _ _ _ _ _ YcO (pv 2) (pv 3) (YD _)))).pt (@Yi _ _ _ (@Yo _ _ _ _ VE)) YR)) (by intro _;rfl)) (@Yi _ _ _ (@Yo _ _ _ _ VE)))),?_⟩
 walk_at "rd"
 refine ⟨_,rfl,_,.lst ha,true,rfl,XT (by decide) ⟨_,.inl (SqL.of ha),_,.inl (SqL.of hb),XT (fun h=>h rfl) ?_⟩⟩
 refine YbI (K:=g.K) 2 3 (xs:=zs) (ys:=zs) (fun a' b' n σ H'=>a'=a∧b'=b∧(∃ o2 o3,σ=[some (.ref a),some (.ref b),o2,o3])∧Yl H H') (fun R r=>by walk_at "rd";exact r a b H ⟨rfl,rfl,⟨_,_,rfl⟩,.refl _⟩) (fun a' b' n σ H' _ ⟨e1,e2,_,s⟩=>by subst e1 e2;exact ⟨SqL.of (s _ _ ha),SqL.of (s _ _ hb)⟩) ?_ ?_
 ·rintro a' b' n x y σ H' T hx hy ⟨rfl,rfl,⟨o2,o3,rfl⟩,s1⟩ hT
  obtain ⟨z,rfl⟩:=hz n x hx
  rw [hx] at hy
  cases hy
  walk_at "rd"
  exact ⟨z,rfl,_,rfl,XT (by decide) (s1.trans (.upd_new hT _))⟩
 ·rintro a' b' σ H' ⟨rfl,rfl,⟨o2,o3,rfl⟩,s1⟩
  walk_at "rd"
  exact q H' s1
theorem Yaq {D:Addr} {H H':Hp} (s:SameBut D H H') {xs:List V} (h:H D=some (.lst xs)):XC H H':=Xx s h (by intro xs z;cases z) (by intro o v z;cases z)
theorem Y5.lst {H:Hp} {D:Addr} (h:Y5 H D):∃ xs,H D=some (.lst xs):=by
 obtain ⟨xs,h,_⟩:=h
 exact ⟨_,h⟩
theorem dk_w {K:PySem.W.Frag} {H:Hp} {p:Addr} {lo:Int} {span:Nat} (h:H p=some (.tup [.str "whole",.int lo,.int (lo+span)])):DK K H p (kd (.w lo span)):=by
 refine ⟨?_,WN _,by simp [kd,PyData.depth,PyData.depthAll]⟩
 rw [kd]
 exact .tup (SqT.of h) (.cons (.str _ (by decide +kernel)) (.cons (.int _) (.cons (.int _) .nil)))
def sg (n:Nat) (f:Nat→Int):Int:=((List.range n).map f).sum
theorem W5 (f:Nat→Int):sg 0 f=0:=rfl
theorem Y7 (n:Nat) (f:Nat→Int):sg (n+1) f=sg n f+f n:=by simp [sg,List.range_succ]
theorem Xy {n:Nat} {f g:Nat→Int} (h:∀ i,i<n→f i=g i):sg n f=sg n g:=by
 unfold sg
 rw [List.map_congr_left fun i hi=>h i (List.mem_range.mp hi)]
theorem Yei (n:Nat) (f g:Nat→Int):sg n (fun i=>f i+g i)=sg n f+sg n g:=by
 induction n with
 | zero=>rfl
 | succ n ih=>rw [Y7,Y7,Y7,ih];omega
theorem YbZ (n:Nat) (c:Int) (f:Nat→Int):sg n (fun i=>c*f i)=c*sg n f:=by
 induction n with
 | zero=>rw [W5,W5,Int.mul_zero]
 | succ n ih=>rw [Y7,Y7,ih,Int.mul_add]
theorem YdC (n:Nat) (c:Int) (f:Nat→Int):sg n (fun i=>f i*c)=sg n f*c:=by
 rw [Int.mul_comm,← YbZ]
 exact Xy fun i _=>Int.mul_comm _ _
theorem QL (n:Nat) (f:Nat→Int):sg (n+1) f=f 0+sg n fun i=>f (i+1):=by
 induction n with
 | zero=>rw [Y7,W5,W5];omega
 | succ n ih=>rw [Y7,ih,Y7];omega
theorem QM:∀ (n:Nat) (f:Nat→Int),sg (n+1) (fun j=>f (n - j))=sg (n+1) f
 | 0,f=>rfl
 | n+1,f=>by
  rw [QL,Y7 (n+1) f,← QM n f]
  have:sg (n+1) (fun i=>f (n+1 - (i+1)))=sg (n+1) fun j=>f (n - j):=Xy fun i _=>by rw [show n+1 - (i+1)=n - i by omega]
  rw [this,Nat.sub_zero]
  omega
theorem Yb0 (F:Nat→Nat→Int):∀ n,sg n (fun j=>sg (n - j) fun i=>F i j)=sg n fun m=>sg (m+1) fun i=>F i (m - i)
 | 0=>rfl
 | n+1=>by
  rw [Y7,Y7 n (fun m=>sg (m+1) fun i=>F i (m - i)),← Yb0 F n]
  have e1:sg n (fun j=>sg (n+1 - j) fun i=>F i j)=sg n (fun j=>(sg (n - j) fun i=>F i j)+F (n - j) j):=Xy fun j hj=>by
   rw [show n+1 - j=(n - j)+1 by omega,Y7]
  have e2:sg (n+1) (fun i=>F i (n - i))=sg (n+1) (fun j=>F (n - j) j):=by
   rw [← QM n (fun i=>F i (n - i))]
   exact Xy fun j hj=>by rw [show n - (n - j)=j by omega]
  rw [e1,Yei,e2,Y7 n (fun j=>F (n - j) j),show n+1 - n=1 by omega,Y7 0,W5,Nat.sub_self]
  omega
def Xq (k:Nat):Int:=if k=0 then 1 else 0
def XX (a b:Nat→Int) (k:Nat):Int:=sg (k+1) fun j=>a (k - j)*b j
def X5:(Nat→Int)→List (Nat→Int)→Nat→Int
 | d,[]=>d
 | d,f::fs=>X5 (XX d f) fs
def Ya8:List (Nat→Int)→Nat→Int
 | []=>Xq
 | f::fs=>fun k=>sg (k+1) fun i=>f i*Ya8 fs (k - i)
theorem Uv (d:Nat→Int):XX d Xq=d:=by
 funext k
 unfold XX
 rw [QL]
 have:sg k (fun i=>d (k - (i+1))*Xq (i+1))=sg k fun _=>0:=Xy fun i _=>by rw [Xq,if_neg (by omega),Int.mul_zero]
 have z:sg k (fun _=>0)=0:=by
  induction k with
  | zero=>rfl
  | succ k ih=>rw [Y7];rw [show sg k (fun _=>0)=0 from by clear ih this;induction k with | zero=>rfl | succ k ih=>rw [Y7,ih];rfl];rfl
 rw [this,z,Xq,if_pos rfl,Nat.sub_zero,Int.mul_one,Int.add_zero]
theorem Ya9 (g:Nat→Int):XX Xq g=g:=by
 have e:∀ k,XX Xq g k=XX g Xq k:=fun k=>by
  unfold XX
  rw [← QM k fun j=>Xq (k - j)*g j]
  exact Xy fun j hj=>by rw [show k - (k - j)=j by omega,Int.mul_comm]
 funext k
 rw [e k,Uv]
theorem Yba (d f g:Nat→Int):XX (XX d f) g=XX d fun k=>sg (k+1) fun i=>f i*g (k - i):=by
 funext k
 unfold XX
 have e1:sg (k+1) (fun j=>(sg (k - j+1) fun i=>d (k - j - i)*f i)*g j)=sg (k+1) (fun j=>sg (k+1 - j) fun i=>d (k - (i+j))*(f i*g j)):=Xy fun j hj=>by
  rw [← YdC,show k - j+1=k+1 - j by omega]
  exact Xy fun i _=>by rw [show k - j - i=k - (i+j) by omega,Int.mul_assoc]
 have e2:sg (k+1) (fun m=>d (k - m)*sg (m+1) fun i=>f i*g (m - i))=sg (k+1) (fun m=>sg (m+1) fun i=>d (k - (i+(m - i)))*(f i*g (m - i))):=Xy fun m hm=>by
  rw [← YbZ]
  exact Xy fun i hi=>by rw [show i+(m - i)=m by omega]
 rw [e1,e2]
 exact Yb0 (fun i j=>d (k - (i+j))*(f i*g j)) (k+1)
theorem Yar:∀ (fs:List (Nat→Int)) (d:Nat→Int),X5 d fs=XX d (Ya8 fs)
 | [],d=>(Uv d).symm
 | f::fs,d=>by
  rw [X5,Yar fs,Yba]
  rfl
theorem YdD (fs:List (Nat→Int)):X5 Xq fs=Ya8 fs:=by rw [Yar,Ya9]
theorem QN (bk:List Nat→Sh):∀ ps:List Sh,YI bk ps=Ya8 (ps.map (cnt bk))
 | []=>by funext k;rw [WJ];rfl
 | p::ps=>by
  funext k
  rw [Wl,QN bk ps]
  rfl
theorem U0:∀ (fs:List (Nat→Int)) (d f:Nat→Int),X5 d (fs++[f])=XX (X5 d fs) f
 | [],d,f=>rfl
 | g::fs,d,f=>by rw [List.cons_append,X5,X5,U0]
theorem Ybb (n:Nat):Yt Xq (n+1)=[V.int 1]++List.replicate n (.int 0):=by
 induction n with
 | zero=>rfl
 | succ n ih=>rw [Y2,ih,List.append_assoc,List.replicate_succ',Xq,if_neg (by omega)]
theorem UJ {prs:Prs}:∀ {ps:List Sh},(∀ p∈ps,okS prs p)→Xo prs ps
 | [],_=>by rw [Xo];trivial
 | p::ps,h=>by rw [Xo];exact ⟨h p (.head _),UJ fun q hq=>h q (.tail _ hq)⟩
theorem UK {n:Nat}:∀ {ps:List Sh},(∀ p∈ps,dep p≤n)→YH ps≤n
 | [],_=>by simp [YH]
 | p::ps,h=>by
  have h1:=h p (.head _)
  have h2:=UK (ps:=ps) fun q hq=>h q (.tail _ hq)
  rw [YH]
  omega
theorem Yb1 {n:Nat}:∀ {ps:List Sh},(∀ p∈ps,wt p≤n)→wts ps≤n*ps.length
 | [],_=>by simp [wts]
 | p::ps,h=>by
  have h1:=h p (.head _)
  have h2:=Yb1 (ps:=ps) fun q hq=>h q (.tail _ hq)
  rw [wts,List.length_cons,Nat.mul_succ]
  omega
def ltr:List Nat:=[97,98,99,100,101,102,103,104,105,106,107,108,109,110,111,112,113,114,115,116,117,118,119,120,121,122]
theorem YdE:Str.ofString "abcdefghijklmnopqrstuvwxyz"=S ltr:=by decide +kernel
def wsz (c:Int):Nat:=(1+c%8).toNat
def wat (c:Int):Int:=c / 8%(1+c%8)
def wbs (c:Int) (j:Nat):Int:=c / 64+j*(c / 1664%26)
def wch (c:Int) (k j:Nat):Nat:=ltr.getD ((wbs c j+k*(if (j:Int)=wat c then 1 else 0))%26).toNat 0
def wd (c:Int) (k:Nat):List Nat:=(List.range (wsz c)).map (wch c k)
theorem Yej (c:Int) (k j:Nat):wch c k j<1000:=by
 have h:∀ x∈ltr,x<1000:=by decide
 have h1:((wbs c j+k*(if (j:Int)=wat c then 1 else 0))%26).toNat<ltr.length:=by show _<26;omega
 unfold wch
 rw [List.getD_eq_getElem?_getD,List.getElem?_eq_getElem h1]
 exact h _ (List.getElem_mem _)
theorem VR (c:Int) (k:Nat):∀ x∈wd c k,x<1000:=fun x hx=>by
 obtain ⟨j,_,rfl⟩:=List.mem_map.mp hx
 exact Yej c k j
theorem YdF:∀ i<26,∀ j<26,ltr.getD i 0=ltr.getD j 0→i=j:=by decide +kernel
theorem QO {c:Int} {k k':Nat} (hk:k<26) (hk':k'<26) (h:wd c k=wd c k'):k=k':=by
 have p0:0<1+c%8:=by omega
 have a0:0≤wat c:=Int.emod_nonneg _ (by omega)
 have a1:wat c<1+c%8:=Int.emod_lt_of_pos _ p0
 obtain ⟨j,hj⟩:∃ j:Nat,wat c=j:=⟨(wat c).toNat,by omega⟩
 have hjs:j<wsz c:=by unfold wsz;omega
 have e:wch c k j=wch c k' j:=by
  have:=congrArg (fun l=>l[j]?) h
  simp only [wd,List.getElem?_map,List.getElem?_range hjs] at this
  exact Option.some.inj this
 unfold wch at e
 rw [if_pos hj.symm] at e
 have:=YdF _ (by omega) _ (by omega) e
 omega
def Z1o:Sp:=fun vs H Q _=>∃ (c:Int) (n:Nat),vs=[.int c,.int (n:Nat)]∧n≤5∧∀ D H',Yl H H'→H D=none→H' D=some (.lst ((List.range n).map fun k=>V.str (S (wd c k))))→Q (.ref D) H'
theorem QP {Z5 Z1 Z2 Z4 Z3 Z0:Addr} (R:g.Raw "_law_words" "_law_words" Z1y ["_law_cell","_law_many"]) (b_int:g.mg "int"=none) (Zq:g.mg "range"=none):g.Fn (1) "_law_words" ["_law_cell","_law_many"] (Z1o):=by
 refine R.fn ZD (fun vs H Q E h=>by obtain ⟨c,n,rfl,hn,q⟩:=h;rfl) fun f_ cdv A outer s H vs Q E hr h=>?_
 obtain ⟨c,n,rfl,hn,q⟩:=h
 refine ⟨_,(@Yg _ _ _ _ _ (@Yp _ _ (2) _ _ _ _ ZD.nd rfl (.inl rfl) Xg (by rfl) (by first | exact .inl rfl | exact .inr rfl | assumption)) (@Yg _ _ _ _ _ (@Yp _ _ (3) _ _ _ _ ZD.nd rfl (.inl rfl) (@Yk _ _ _ _ _ _ _ _ YJ Yf (@Yk _ _ _ _ _ _ _ _ YW (pv 0) Yf)) (by rfl) (by first | exact .inl rfl | exact .inr rfl | assumption)) (@Yg _ _ _ _ _ (@Yp _ _ (4) _ _ _ _ ZD.nd rfl (.inl rfl) (@Yk _ _ _ _ _ _ _ _ YW (@Yk _ _ _ _ _ _ _ _ Y4 (pv 0) Yf) (pv 3)) (by rfl) (by first | exact .inl rfl | exact .inr rfl | assumption)) (@Yg _ _ _ _ _ (@VN _ (5) _ _ _ _ _ _ _ _ _ ([none,some 0]) ((["_law_j","_law_cell"]:List Str)) _ (Yv 0) _ _ ZD.nd rfl (.inl rfl) (.own (.cap (i:=0) rfl rfl (by first | exact .inl rfl | exact .inr rfl) .nil)) rfl (@Y8 _ _ _ _ _ _ rfl Zq (@Ya _ _ _ _ _ (pv 3) Yd (by rfl)) (by rfl)) (fun cl C s₀ H₀ fp pn=>(@Yn _ _ (0) _ (show List.Nodup (["_law_j","_law_cell"]:List Str) by decide +kernel) rfl (.inl rfl) (.inr rfl))) (fun cl C s₀ H₀ fp pn=>Xj) (fun cl C s₀ H₀ fp pn=>(@Yk _ _ _ _ _ _ _ _ YJ (@Yk _ _ _ _ _ _ _ _ Y4 (pv 1) Yf) (@Yk _ _ _ _ _ _ _ _ XG (pv 0) (@Yk _ _ _ _ _ _ _ _ YW (@Yk _ _ _ _ _ _ _ _ Y4 (pv 1) Yf) Yf)))) (by intro x hx;simp at hx;first | (subst hx;exact .inl rfl) | (rcases hx with rfl | rfl<;>exact .inl rfl) | (rcases hx with rfl | rfl | rfl<;>exact .inl rfl) | (rcases hx with rfl | rfl | rfl | rfl<;>exact .inl rfl) | (rcases hx with rfl | rfl | rfl | rfl | rfl<;>exact .inl rfl)) (by rfl) (by decide) (by decide +kernel) (by intro _;rfl) (by rfl) (by first | exact .inl rfl | exact .inr rfl | assumption)) (@Yg _ _ _ _ _ (@Yp _ _ (6) _ _ _ _ ZD.nd rfl (.inl rfl) (@XL _ _ _ _ Yd) (by rfl) (by first | exact .inl rfl | exact .inr rfl | assumption)) (@Yg _ _ _ _ _ (@Xn _ _ _ _ _ _ _ _ PassesOwn.never rfl (@Y8 _ _ _ _ _ _ rfl Zq (@Ya _ _ _ _ _ (pv 1) Yd (by rfl)) (by rfl)) (@Yn _ _ (7) _ ZD.nd rfl (.inl rfl) (by first | exact .inl rfl | exact .inr rfl | assumption)) (@Yg _ _ _ _ _ (@Yp _ _ (8) _ _ _ _ ZD.nd rfl (.inl rfl) Xg (by rfl) (by first | exact .inl rfl | exact .inr rfl | assumption)) (@Yg _ _ _ _ _ (@Xn _ _ _ _ _ _ _ _ PassesOwn.never rfl (@Y8 _ _ _ _ _ _ rfl Zq (@Ya _ _ _ _ _ (pv 3) Yd (by rfl)) (by rfl)) (@Yn _ _ (9) _ ZD.nd rfl (.inl rfl) (by first | exact .inl rfl | exact .inr rfl | assumption)) (@Yi _ _ _ (@Yp _ _ (8) _ _ _ _ ZD.nd rfl (.inl rfl) (@Yk _ _ _ _ _ _ _ _ YaA (pv 8) (@Yx _ _ _ _ _ _ _ YdW (pv 2) (@Yk _ _ _ _ _ _ _ _ YW (@Yk _ _ _ _ _ _ _ _ YJ (@Yx _ _ _ _ _ _ _ YM (pv 5) (pv 9) (fun _ _=>rfl)) (@Yk _ _ _ _ _ _ _ _ XG (pv 7) (@Uc _ _ _ _ _ _ _ _ _ _ b_int Ybp (@Ya _ _ _ _ _ (@Q9 _ _ _ _ _ _ _ _ Xh (pv 9) (pv 4) (YD _)) Yd (by rfl)) (by decide +kernel) (by rfl) (by rfl) (by decide) (by decide) (by rfl) (by rfl)))) Yf) (fun _ _=>rfl))) (by rfl) (by first | exact .inl rfl | exact .inr rfl | assumption))) (by intro _;rfl)) (@Yi _ _ _ (@YZ _ _ _ _ (@X0 _ _ _ _ _ _ _ _ _ _ _ _ PySem.F.plainAttrs_list PySem.F.slot_list_append PySem.F.type_list_append Y0 (pv 6) (@Ya _ _ _ _ _ (pv 8) Yd (by rfl)) (by rfl) (by rfl) (by rfl) (by rfl) (by rfl)) (by rfl))))) (by intro _;rfl)) (@Yi _ _ _ (@Yo _ _ _ _ (pv 6))))))))),?_⟩
 have p0:0<1+c%8:=by omega
 have hsz:1+c%8=(wsz c:Nat):=by unfold wsz;omega
 have hs8:wsz c≤8:=by unfold wsz;omega
 walk_at "rd"
 refine ⟨by decide,YV (by decide) (by decide),p0,?_⟩
 rw [hsz,YdE]
 rw [show c / 8%((wsz c:Nat):Int)=wat c by rw [← hsz];rfl]
 refine YaS (n:=wsz c) ((List.range (wsz c)).map fun j=>V.int (wbs c j)) (fun R r=>by walk_at "rd";exact r) (by simp) (by omega) ?_ ?_
 ·intro k y H' hk hy sm R r
  rw [List.getElem?_map,List.getElem?_range hk] at hy
  have:V.int (wbs c k)=y:=Option.some.inj hy
  subst this
  walk_at "rd"
  have p1:0≤c / 1664%26:=Int.emod_nonneg _ (by decide)
  have p2:c / 1664%26<26:=Int.emod_lt_of_pos _ (by decide)
  exact ⟨YV (by decide) (by decide),YV (by decide) (by decide),by decide,.inl (cm (m:=5) (n:=5) (by omega) (by omega)),r H' (.refl _)⟩
 ·intro B H1 hB s1 hb
  refine ⟨few (by decide),fun D hD=>?_⟩
  have w:=Yl.upd_new hD (.lst [])
  have nBD:B≠D:=Yh hb hD
  refine Wi (n:=n) (fun i σ H'=>∃ o7 o8 o9,σ=[some (.int c),some (.int n),some (.str (S ltr)),some (.int (wsz c)),some (.int (wat c)),some (.ref B),some (.ref D),o7,o8,o9]∧SameBut D H1 H'∧H' D=some (.lst ((List.range i).map fun k=>V.str (S (wd c k))))) (fun R r=>by walk_at "rd";exact r) (by omega) ⟨none,none,none,rfl,fun x o nx e=>by rw [Yb nx];exact e,by rw [Yc];rfl⟩ ?_ ?_
  ·rintro k σ H' hk ⟨o7,o8,o9,rfl,sb,hd⟩
   walk_at "rd"
   refine Wi (n:=wsz c) (fun j σ H2=>∃ o9,H2=H'∧σ=[some (.int c),some (.int n),some (.str (S ltr)),some (.int (wsz c)),some (.int (wat c)),some (.ref B),some (.ref D),some (.int k),some (.str (S ((List.range j).map (wch c k)))),o9]) (fun R r=>by walk_at "rd";exact r) (by omega) ⟨o9,rfl,by rfl⟩ ?_ ?_
   ·rintro j σ H2 hj ⟨o9',rfl,rfl⟩
    walk_at "rd"
    refine ⟨_,SqL.of (sb _ _ nBD hb),.int (wbs c j),Yq (by rw [List.getElem?_map,List.getElem?_range hj];rfl),.inr ⟨.inl (cm (m:=5) (n:=1) (by omega) (by split<;>decide)),_,rfl,by decide,?_⟩⟩
    have h1:((wbs c j+k*(if (j:Int)=wat c then 1 else 0))%26).toNat<ltr.length:=by show _<26;omega
    refine ⟨S ltr,_,wch c k j,rfl,rfl,by rw [YaQ];exact few (by decide),?_,S [wch c k j],rfl,by rw [YaQ,YaQ,List.length_map,List.length_range];exact few (by simp;omega),rfl,?_⟩
    ·rw [YbC,show (wbs c j+k*(if (j:Int)=wat c then 1 else 0))%26=((((wbs c j+k*(if (j:Int)=wat c then 1 else 0))%26).toNat:Nat):Int) by omega]
     refine Yq ?_
     rw [wch,List.getD_eq_getElem?_getD,List.getElem?_eq_getElem h1]
     rfl
    ·rw [List.range_succ,List.map_append,S_app]
     rfl
   ·rintro σ H2 ⟨o9',rfl,rfl⟩
    walk_at "rd"
    refine ⟨.inl ⟨rfl,_,SqL.of hd⟩,_,hd,few (by simp;omega),fun x o nx e=>by rw [Yb nx];exact sb x o nx e,?_⟩
    rw [Yc,List.range_succ,List.map_append]
    rfl
  ·rintro σ H' ⟨o7,o8,o9,rfl,sb,hd⟩
   walk_at "rd"
   exact q D H' (fun x o e=>sb _ _ (Yh (s1 _ _ e) hD) (s1 _ _ e)) (s1.free hD) hd
theorem XN {K:PySem.W.Frag} {H H':Hp} (t:XC H H'):∀ {ds:List PyData} {vs:List V},KOs ds→Dens K H vs ds→Dens K H' vs ds
 | [],_,_,h=>by cases h;exact .nil
 | d::ds,_,.cons k ks,h=>by
  obtain ⟨v,r,rfl,h1,h2⟩:=YQ h
  exact .cons (Vd t k h1) (XN t ks h2)
theorem VA {K:PySem.W.Frag} {H:Hp} {d:PyData} {v:V} (h2:Den K H v d):∀ {ds:List PyData} {vs:List V},Dens K H vs ds→Dens K H (vs++[v]) (ds++[d])
 | [],_,h=>by cases h;exact .cons h2 .nil
 | e::ds,_,h=>by
  obtain ⟨u,r,rfl,h1,h3⟩:=YQ h
  exact .cons h1 (VA h2 h3)
theorem QQ (p:Sh):∀ ps:List Sh,kds (ps++[p])=kds ps++[kd p]
 | []=>by simp [kds]
 | q::ps=>by rw [List.cons_append,kds,kds,QQ p ps];rfl
theorem QR (m:List Nat) (p:Sh):∀ (mk:List (List Nat)) (ps:List Sh),mk.length=ps.length→kdp (mk++[m]) (ps++[p])=kdp mk ps++[.tuple [.str (S m),kd p]]
 | [],[],_=>by simp [kdp]
 | a::mk,q::ps,h=>by
  rw [List.cons_append,List.cons_append,kdp,kdp,QR m p mk ps (by simpa using h)];rfl
 | [],_::_,h=>by simp at h
 | _::_,[],h=>by simp at h
def usN (n0 n1:List Nat) (us:List Bool):List Sh:=us.map fun b=>Sh.use (if b then n1 else n0)
def Br (n0 n1:List Nat) (p:Sh):Prop:=(∃ lo span,p = .w lo span)∨∃ us:List Bool,us.length≤3∧p = .row (usN n0 n1 us)
structure Brs (n0 n1:List Nat) (mk:List (List Nat)) (ps:List Sh):Prop where
 len:mk.length=ps.length
 few:ps.length≤5
 br:∀ p∈ps,Br n0 n1 p
theorem U4 {n:Nat} {n0 n1:List Nat}:∀ us:List Bool,PyData.depthAll (kds (usN n0 n1 us))≤1
 | []=>by simp [usN,kds,PyData.depthAll]
 | b::us=>by
  have:=U4 (n:=n) (n0:=n0) (n1:=n1) us
  rw [show usN n0 n1 (b::us)=Sh.use (if b then n1 else n0)::usN n0 n1 us from rfl,kds]
  simp only [PyData.depthAll,kd,PyData.depth]
  omega
theorem QS {n0 n1:List Nat} {p:Sh} (h:Br n0 n1 p):(kd p).depth≤3:=by
 rcases h with ⟨lo,span,rfl⟩ | ⟨us,hl,rfl⟩
 ·simp [kd,PyData.depth,PyData.depthAll]
 ·rw [kd]
  have:=U4 (n:=0) (n0:=n0) (n1:=n1) us
  simp only [PyData.depth,PyData.depthAll]
  omega
theorem U5 {n0 n1:List Nat}:∀ {mk:List (List Nat)} {ps:List Sh},mk.length=ps.length→(∀ p∈ps,Br n0 n1 p)→PyData.depthAll (kdp mk ps)≤4
 | [],[],_,_=>by simp [kdp,PyData.depthAll]
 | m::mk,p::ps,h,hb=>by
  have h1:=QS (hb p (.head _))
  have h2:=U5 (mk:=mk) (ps:=ps) (by simpa using h) fun q hq=>hb q (.tail _ hq)
  rw [kdp]
  simp only [PyData.depthAll,PyData.depth]
  omega
 | [],_::_,h,_=>by simp at h
 | _::_,[],h,_=>by simp at h
def PvB (K:PySem.W.Frag) (D F:Addr) (H1:Hp) (c cc:Int) (i:Nat) (H':Hp):Prop:=∃ (ps:List Sh) (vs:List V),ps.length=i∧vs.length=i∧(∀ p∈ps,Br (wd c 0) (wd c 1) p)∧Y5 H' D∧(∀ b o,b≠D→b≠F→H1 b=some o→H' b=some o)∧H' F=some (.lst vs)∧Dens K H' vs (kdp ((List.range i).map fun k=>wd (cc / 5) k) ps)
theorem PvB.snoc {K:PySem.W.Frag} {D F T X:Addr} {H1 H' H5:Hp} {c cc:Int} {i:Nat} {sh:Sh} (h:PvB K D F H1 c cc i H') (nFD:F≠D) (hi:i≤10) (fr:SameBut D H' H5) (f5:Y5 H5 D) (hT:H5 T=some (.tup [.str (S (wd (cc / 5) i)),.ref X])) (hX:DK K H5 X (kd sh)) (hb:Br (wd c 0) (wd c 1) sh) :
  ∃ vs,H5 F=some (.lst vs)∧vs.length<sizeLine∧PvB K D F H1 c cc (i+1) (upd H5 F (.lst (vs++[.ref T]))):=by
 obtain ⟨ps,vs,h1,h2,h3,h4,h5,h6,h7⟩:=h
 obtain ⟨zs,hz⟩:=h4.lst
 have t1:=Yaq fr hz
 have hF:=fr _ _ nFD h6
 have t2:XC H5 (upd H5 F (.lst (vs++[.ref T]))):=Xx (fun b o hb e=>by rw [Yb hb];exact e) hF (by intro xs z;cases z) (by intro o v z;cases z)
 refine ⟨vs,hF,few (by omega),ps++[sh],vs++[.ref T],by simp [h1],by simp [h2],fun p hp=>?_,?_,fun b o n1 n2 e=>by rw [Yb n2];exact fr _ _ n1 (h5 _ _ n1 n2 e),Yc,?_⟩
 ·rcases List.mem_append.mp hp with hp | hp
  ·exact h3 p hp
  ·rw [List.mem_singleton.mp hp];exact hb
 ·obtain ⟨xs,k1,k2⟩:=f5
  exact ⟨xs,by rw [Yb (Ne.symm nFD)];exact k1,k2⟩
 ·rw [List.range_succ,List.map_append,List.map_singleton,QR _ _ _ _ (by simp [h1])]
  exact VA (Vd t2 (.tup (.cons (.str _) (.cons hX.ko .nil))) (.tup (SqT.of hT) (.cons (.str _ (W4 (VR _ _))) (.cons hX.den .nil)))) (XN t2 (Vy _ _) (XN t1 (Vy _ _) h7))
def Nam (H:Hp) (N:Addr) (c:Int):Prop:=H N=some (.lst ((List.range 3).map fun k=>V.str (S (wd c k))))
def Z1t (K:PySem.W.Frag):Sp:=fun vs H Q _=>∃ (D N:Addr) (c:Int),vs=[.ref D,.ref N]∧Y5 H D∧Nam H N c∧∀ p mk ps H',SameBut D H H'→Y5 H' D→Brs (wd c 0) (wd c 1) mk ps→DK K H' p (kd (.pick mk ps))→Q (.ref p) H'
theorem Z3j {k:Nat} {Z5 Z1 Z2 Z4 Z3 Z0:Addr} (R:g.Raw "_law_branches" "_law_branches" Z16 ["_law_feed_here","_law_names"]) (ZT:g.Fn k "_law_next" ["_law_feed_here"] (Z18 g.K)) (Z2T:g.Fn k "_law_whole_shape" ["_law_feed_here"] (Z1a g.K)) (Z1E:g.Fn k "_law_words" ["_law_cell","_law_many"] (Z1o)) (Zq:g.mg "range"=none) (Z1l:g.mg "tuple"=none):g.Fn (k+1) "_law_branches" ["_law_feed_here","_law_names"] (Z1t g.K):=by
 refine R.fn ZI (fun vs H Q E h=>by obtain ⟨D,N,c,rfl,hD,hN,q⟩:=h;rfl) fun f_ cdv A outer s H vs Q E hr h=>?_
 obtain ⟨D,N,c,rfl,hD,hN,q⟩:=h
 refine ⟨_,(@Yg _ _ _ _ _ (@Yp _ _ (2) _ _ _ _ ZI.nd rfl (.inl rfl) (@YE _ _ _ _ _ _ _ _ _ _ _ _ ZT hr (@Ya _ _ _ _ _ (pv 0) Yd (by rfl)) (by omega) (by rfl) (by rfl) (by decide) (by rfl) (by rfl)) (by rfl) (by first | exact .inl rfl | exact .inr rfl | assumption)) (@Yg _ _ _ _ _ (@Yp _ _ (3) _ _ _ _ ZI.nd rfl (.inl rfl) (@YE _ _ _ _ _ _ _ _ _ _ _ _ Z1E hr (@Ya _ _ _ _ _ (@Yk _ _ _ _ _ _ _ _ Y4 (pv 2) Yf) (@Ya _ _ _ _ _ (@Yk _ _ _ _ _ _ _ _ YJ Yf (@Yk _ _ _ _ _ _ _ _ YW (pv 2) Yf)) Yd (by rfl)) (by rfl)) (by omega) (by rfl) (by rfl) (by decide) (by rfl) (by rfl)) (by rfl) (by first | exact .inl rfl | exact .inr rfl | assumption)) (@Yg _ _ _ _ _ (@Yp _ _ (4) _ _ _ _ ZI.nd rfl (.inl rfl) (@XL _ _ _ _ Yd) (by rfl) (by first | exact .inl rfl | exact .inr rfl | assumption)) (@Yg _ _ _ _ _ (@Xn _ _ _ _ _ _ _ _ PassesOwn.never rfl (@Xr _ _ _ _ (pv 3)) (@Yn _ _ (5) _ ZI.nd rfl (.inl rfl) (by first | exact .inl rfl | exact .inr rfl | assumption)) (@Yg _ _ _ _ _ (@Yp _ _ (6) _ _ _ _ ZI.nd rfl (.inr rfl) (@YE _ _ _ _ _ _ _ _ _ _ _ _ ZT hr (@Ya _ _ _ _ _ (pv 0) Yd (by rfl)) (by omega) (by rfl) (by rfl) (by decide) (by rfl) (by rfl)) (by rfl) (by first | exact .inl rfl | exact .inr rfl | assumption)) (@Yi _ _ _ (@Y9 _ _ _ _ _ _ _ _ (@Yz _ _ _ _ _ _ _ _ Xh (@Yk _ _ _ _ _ _ _ _ YW (pv 6) Yf) Yf (YD _)) (@Yi _ _ _ (@YZ _ _ _ _ (@X0 _ _ _ _ _ _ _ _ _ _ _ _ PySem.F.plainAttrs_list PySem.F.slot_list_append PySem.F.type_list_append Y0 (pv 4) (@Ya _ _ _ _ _ (@Xs _ _ _ _ _ (@Ya _ _ _ _ _ (pv 5) (@Ya _ _ _ _ _ (@YE _ _ _ _ _ _ _ _ _ _ _ _ Z2T hr (@Ya _ _ _ _ _ (pv 0) Yd (by rfl)) (by omega) (by rfl) (by rfl) (by decide) (by rfl) (by rfl)) Yd (by rfl)) (by rfl))) Yd (XW _ _ _ _ _)) (by rfl) (by rfl) (by rfl) (by rfl) (by rfl)) (by rfl))) (@Yg _ _ _ _ _ (@VN _ (7) _ _ _ _ _ _ _ _ _ ([none,some 1,some 6]) ((["_law_k","_law_names","_law_way"]:List Str)) _ (Yv 0) _ _ ZI.nd rfl (.inl rfl) (.own (.cap (i:=1) rfl rfl (by first | exact .inl rfl | exact .inr rfl) (.cap (i:=6) rfl rfl (by first | exact .inl rfl | exact .inr rfl) .nil))) rfl (@Y8 _ _ _ _ _ _ rfl Zq (@Ya _ _ _ _ _ (@Yk _ _ _ _ _ _ _ _ YW (@Yk _ _ _ _ _ _ _ _ Y4 (pv 6) Yf) Yf) Yd (by rfl)) (by rfl)) (fun cl C s₀ H₀ fp pn=>(@Yn _ _ (0) _ (show List.Nodup (["_law_k","_law_names","_law_way"]:List Str) by decide +kernel) rfl (.inl rfl) (.inr rfl))) (fun cl C s₀ H₀ fp pn=>Xj) (fun cl C s₀ H₀ fp pn=>(@Xs _ _ _ _ _ (@Ya _ _ _ _ _ Xg (@Ya _ _ _ _ _ (@Yx _ _ _ _ _ _ _ (VX (K:=g.K)) (pv 1) (@Yk _ _ _ _ _ _ _ _ YW (@Yk _ _ _ _ _ _ _ _ Y4 (@Yk _ _ _ _ _ _ _ _ Y4 (pv 2) Yf) (@Yk _ _ _ _ _ _ _ _ YJ Yf (@Yk _ _ _ _ _ _ _ _ XG Yf (pv 0)))) Yf) (fun _ _=>rfl)) Yd (by rfl)) (by rfl)))) (by intro x hx;simp at hx;first | (subst hx;exact .inl rfl) | (rcases hx with rfl | rfl<;>exact .inl rfl) | (rcases hx with rfl | rfl | rfl<;>exact .inl rfl) | (rcases hx with rfl | rfl | rfl | rfl<;>exact .inl rfl) | (rcases hx with rfl | rfl | rfl | rfl | rfl<;>exact .inl rfl)) (by rfl) (by decide) (by decide +kernel) (by intro _;rfl) (by rfl) (by first | exact .inl rfl | exact .inr rfl | assumption)) (@Yi _ _ _ (@YZ _ _ _ _ (@X0 _ _ _ _ _ _ _ _ _ _ _ _ PySem.F.plainAttrs_list PySem.F.slot_list_append PySem.F.type_list_append Y0 (pv 4) (@Ya _ _ _ _ _ (@Xs _ _ _ _ _ (@Ya _ _ _ _ _ (pv 5) (@Ya _ _ _ _ _ (@Xs _ _ _ _ _ (@Ya _ _ _ _ _ Xg (@Ya _ _ _ _ _ (@Uc _ _ _ _ _ _ _ _ _ _ Z1l Vj (@Ya _ _ _ _ _ (pv 7) Yd (by rfl)) (by decide +kernel) (by rfl) (by rfl) (by decide) (by decide) (by rfl) (by rfl)) Yd (by rfl)) (by rfl))) Yd (XW _ _ _ _ _)) (by rfl))) Yd (XW _ _ _ _ _)) (by rfl) (by rfl) (by rfl) (by rfl) (by rfl)) (by rfl))))))) (by intro _;rfl)) (@Yi _ _ _ (@Yo _ _ _ _ (@Xs _ _ _ _ _ (@Ya _ _ _ _ _ Xg (@Ya _ _ _ _ _ (@Uc _ _ _ _ _ _ _ _ _ _ Z1l Vj (@Ya _ _ _ _ _ (pv 4) Yd (by rfl)) (by decide +kernel) (by rfl) (by rfl) (by decide) (by decide) (by rfl) (by rfl)) Yd (by rfl)) (by rfl))))))))),?_⟩
 have nND:∀ {H:Hp},Y5 H D→Nam H N c→N≠D:=fun f n z=>by
  obtain ⟨xs,h,_⟩:=f
  rw [Nam,z,h] at n
  have n:=HO.lst.inj (Option.some.inj n)
  cases xs<;>simp [Wk,List.range_succ] at n
 have nd:=nND hD hN
 refine cut3 (fun σ H'=>∃ (cc:Int) (n:Nat) (M F:Addr),n≤5∧σ=[some (.ref D),some (.ref N),some (.int cc),some (.ref M),some (.ref F),none,none,none]∧Y5 H' D∧SameBut D H H'∧H F=none∧M≠D∧M≠F∧H' F=some (.lst [])∧H' M=some (.lst ((List.range n).map fun k=>V.str (S (wd (cc / 5) k))))) ?_ (fun N' hN'=>?_)
 rotate_left
 ·walk_at "rd"
  refine ⟨D,rfl,hD,fun y H1 hy s1 f1=>⟨_,rfl,YV (by decide) (by decide),_,rfl,by decide,(y:Int) / 5,(1+(y:Int)%5).toNat,by rw [Int.toNat_of_nonneg (by omega)],by omega,fun M H2 s2 gM hM=>⟨few (by decide),fun F gF=>?_⟩⟩⟩
  obtain ⟨zs,hz⟩:=f1.lst
  have w:=Yl.upd_new gF (.lst [])
  have f2:Y5 H2 D:=by
   obtain ⟨xs,h1,h2⟩:=f1
   exact ⟨xs,s2 _ _ h1,h2⟩
  have hFn:H F=none:=by
   cases e:H F with
   | none=>rfl
   | some o =>
    exfalso
    by_cases z:F=D
    ·rw [z,s2 _ _ hz] at gF;cases gF
    ·rw [s2 _ _ (s1 _ _ z e)] at gF;cases gF
  exact hN' _ _ ⟨y,_,M,F,by omega,rfl,f2.new gF,fun x o nx e=>w _ _ (s2 _ _ (s1 _ _ nx e)),hFn,Ne.symm (Yh hz gM),Yh hM gF,Yc,w _ _ hM⟩
 rintro σ H1 ⟨cc,n,M,F,hn,rfl,f1,s1,gF,nMD,nMF,hF,hM⟩
 have nFD:F≠D:=fun z=>by
  obtain ⟨xs,h,_⟩:=hD
  rw [z,h] at gF;cases gF
 have hN1:Nam H1 N c:=s1 _ _ nd hN
 have nNF:N≠F:=fun z=>by rw [Nam,z,gF] at hN;cases hN
 walk_at "rd"
 refine WM (K:=g.K) (a:=M) (xs:=(List.range n).map fun k=>V.str (S (wd (cc / 5) k))) (fun i σ H'=>∃ (o5 o6 o7:Option V),σ=[some (.ref D),some (.ref N),some (.int cc),some (.ref M),some (.ref F),o5,o6,o7]∧PvB g.K D F H1 c cc i H') (fun R r=>by walk_at "rd";exact r) ⟨none,none,none,rfl,[],[],rfl,rfl,(fun p h=>by cases h),f1,(fun _ _ _ _ e=>e),hF,by rw [show kdp ((List.range 0).map fun k=>wd (cc / 5) k) []=[] by simp [kdp]];exact .nil⟩ (fun i σ H' _ ⟨o5,o6,o7,_,_,_,_,_,_,_,fr,_⟩=>SqL.of (fr _ _ nMD nMF hM)) ?_ ?_
 ·rintro i x σ H' hx ⟨o5,o6,o7,rfl,hP⟩
  have hi:i<n:=by
   have:=(List.getElem?_eq_some_iff.mp hx).1
   simpa using this
  rw [List.getElem?_map,List.getElem?_range hi] at hx
  have:V.str (S (wd (cc / 5) i))=x:=Option.some.inj hx
  subst this
  obtain ⟨_,vs,_,_,_,f2,fr2,hF2,_⟩:=id hP
  have hN2:Nam H' N c:=fr2 _ _ nd nNF hN1
  walk_at "rd"
  refine ⟨D,rfl,f2,fun y H3 hy s3 f3=>⟨_,rfl,by decide,W8 (fun z=>?_) (fun z=>?_)⟩⟩
  ·refine ⟨.inl ⟨rfl,_,SqL.of (s3 _ _ nFD hF2)⟩,D,rfl,f3,fun p lo span H4 s4 f4 h4=>⟨few (by decide),fun T gT=>?_⟩⟩
   have w:=Yl.upd_new gT (.tup [.str (S (wd (cc / 5) i)),.ref p])
   obtain ⟨us,e1,e2,e3⟩:=hP.snoc nFD (by omega) ((s3.trans s4).upd_new gT _) (f4.new gT) Yc ((dk_w h4).keep w) (.inl ⟨lo,span,rfl⟩)
   exact ⟨us,e1,e2,e3⟩
  ·have hN3:Nam H3 N c:=s3 _ _ nd hN2
   obtain ⟨m,hm,em⟩:∃ m:Nat,m≤3∧(y:Int) / 5%4=m:=⟨((y:Int) / 5%4).toNat,by omega,by omega⟩
   refine X2 (n:=m) (fun L j zs H4=>Yl H3 H4∧H4 L=some (.lst zs)∧∃ us:List Bool,us.length=j∧zs.length=j∧Dens g.K H4 zs (kds (usN (wd c 0) (wd c 1) us))) (fun R r=>by walk_at "rd";exact ⟨YV (by decide) (by decide),by decide,by rw [em];exact r⟩) (by omega) ?_ ?_ ?_ ?_
   ·intro L hL
    exact ⟨.upd_new hL _,Yc,[],rfl,rfl,by rw [show kds (usN (wd c 0) (wd c 1) [])=[] by simp [usN,kds]];exact .nil⟩
   ·rintro L j zs H4 ⟨_,h2,us,_,h3,_⟩
    exact ⟨h3,h2⟩
   ·rintro L j zs H4 hL hj ⟨s4,hL4,us,u1,u2,u3⟩ R r
    walk_at "rd"
    obtain ⟨b,hb⟩:∃ b:Bool,(y:Int) / 20 / (1+7*(j:Int))%2=((if b then 1 else 0:Nat):Int):=by
     have:(y:Int) / 20 / (1+7*(j:Int))%2=0∨(y:Int) / 20 / (1+7*(j:Int))%2=1:=by omega
     rcases this with h | h
     ·exact ⟨false,h⟩
     ·exact ⟨true,h⟩
    refine ⟨YV (by decide) (by decide),.inl (cm (m:=3) (n:=4) (by decide) (by omega)),YV (by omega) (by omega),by decide,_,SqL.of (s4 _ _ hN3),.str (S (if b then wd c 1 else wd c 0)),?_,few (by decide),fun p gp=>?_⟩
    ·rw [hb]
     refine Yq ?_
     cases b<;>rfl
    ·have w:=Yl.upd_new gp (.tup [V.str (Str.ofString "use"),.str (S (if b then wd c 1 else wd c 0))])
     have hok:PyData.strOk (S (if b then wd c 1 else wd c 0))=true:=by
      cases b
      ·exact W4 (VR c 0)
      ·exact W4 (VR c 1)
     have nLp:L≠p:=Yh hL4 gp
     have t2:XC (upd H4 p (.tup [V.str (Str.ofString "use"),.str (S (if b then wd c 1 else wd c 0))])) (upd (upd H4 p (.tup [V.str (Str.ofString "use"),.str (S (if b then wd c 1 else wd c 0))])) L (.lst (zs++[.ref p]))):=Xx (fun b o hb e=>by rw [Yb hb];exact e) (w _ _ hL4) (by intro xs z;cases z) (by intro o v z;cases z)
     refine r _ _ (w _ _ hL4) ⟨.upd_over hL (s4.trans w) _,Yc,us++[b],by simp [u1],by simp [u2],?_⟩
     rw [show usN (wd c 0) (wd c 1) (us++[b])=usN (wd c 0) (wd c 1) us++[Sh.use (if b then wd c 1 else wd c 0)] by simp [usN],QQ]
     refine VA (Vd t2 (WN _) ?_) (XN t2 (Vx _) (XN (YK w) (Vx _) u3))
     rw [kd]
     exact .tup (SqT.of Yc) (.cons (.str _ (by decide +kernel)) (.cons (.str _ hok) .nil))
   ·rintro L zs H4 hL ⟨s4,hL4,us,u1,u2,u3⟩
    refine ⟨.inl ⟨rfl,_,SqL.of (s4 _ _ (s3 _ _ nFD hF2))⟩,L,rfl,zs,.inl ⟨SqL.of hL4,fun l gl=>⟨few (by decide),fun p gp=>⟨few (by decide),fun T gT=>?_⟩⟩⟩⟩
    have w1:=Yl.upd_new gl (.tup zs)
    have w2:=Yl.upd_new gp (.tup [V.str (Str.ofString "row"),V.ref l])
    have w3:=Yl.upd_new gT (.tup [V.str (S (wd (cc / 5) i)),V.ref p])
    have f4:Y5 H4 D:=by
     obtain ⟨xs,k1,k2⟩:=f3
     exact ⟨xs,s4 _ _ k1,k2⟩
    have dkr:DK g.K (upd (upd (upd H4 l (.tup zs)) p (.tup [V.str (Str.ofString "row"),V.ref l])) T (.tup [V.str (S (wd (cc / 5) i)),V.ref p])) p (kd (.row (usN (wd c 0) (wd c 1) us))):=by
     refine ⟨?_,WN _,?_⟩
     ·rw [kd]
      exact .tup (SqT.of (w3 _ _ Yc)) (.cons (.str _ (by decide +kernel)) (.cons (.tup (SqT.of ((w2.trans w3) _ _ Yc)) (XN (YK ((w1.trans w2).trans w3)) (Vx _) u3)) .nil))
     ·have:=QS (n0:=wd c 0) (n1:=wd c 1) (p := .row (usN (wd c 0) (wd c 1) us)) (.inr ⟨us,by omega,rfl⟩)
      omega
    obtain ⟨vs',e1,e2,e3⟩:=hP.snoc (T:=T) (X:=p) nFD (by omega) (H5:=upd (upd (upd H4 l (.tup zs)) p (.tup [V.str (Str.ofString "row"),V.ref l])) T (.tup [V.str (S (wd (cc / 5) i)),V.ref p])) (fun b o nb e=>((w1.trans w2).trans w3) _ _ (s4 _ _ (s3 _ _ nb e))) (((f4.new gl).new gp).new gT) Yc dkr (.inr ⟨us,by omega,rfl⟩)
    exact ⟨vs',e1,e2,e3⟩
 ·rintro σ H' ⟨o5,o6,o7,rfl,ps,vs,hpl,hvl,hbr,f2,fr,hF2,hvs⟩
  walk_at "rd"
  refine ⟨vs,.inl ⟨SqL.of hF2,fun l gl=>⟨few (by decide),fun p gp=>?_⟩⟩⟩
  have w1:=Yl.upd_new gl (.tup vs)
  have w2:=Yl.upd_new gp (.tup [V.str (Str.ofString "pick"),V.ref l])
  rw [List.length_map,List.length_range] at hpl hvl
  rw [List.length_map,List.length_range] at hvs
  refine q p ((List.range n).map fun k=>wd (cc / 5) k) ps _ (fun b o nb e=>(w1.trans w2) _ _ (fr _ _ nb (Yh e gF) (s1 _ _ nb e))) ((f2.new gl).new gp) ⟨by simp [hpl],by omega,hbr⟩ ⟨?_,WN _,?_⟩
  ·rw [kd]
   exact .tup (SqT.of Yc) (.cons (.str _ (by decide +kernel)) (.cons (.tup (SqT.of (w2 _ _ Yc)) (XN (YK (w1.trans w2)) (Vy _ _) hvs)) .nil))
  ·have:=U5 (mk:=(List.range n).map fun k=>wd (cc / 5) k) (by simp [hpl]) hbr
   rw [kd]
   simp only [PyData.depth,PyData.depthAll]
   omega
theorem YdG (span:Nat):wc span 0=1:=by
 unfold wc
 have:(1*2^0 / 2^1:Int)=0:=by decide
 rw [this]
 split<;>split<;>omega
theorem YdH (span j:Nat):wc span (j+1)=(if 2*(2:Int)^j<(span:Int)+1 then 2*(2:Int)^j else (span:Int)+1) - (if (2:Int)^j<(span:Int)+1 then (2:Int)^j else (span:Int)+1):=by
 unfold wc
 have e1:(1*2^(j+1):Int)=2*2^j:=by rw [Int.pow_succ];omega
 have p:(0:Int)<2^j:=Int.pow_pos (by decide)
 rw [e1,show (2^1:Int)=2 from rfl]
 generalize (2:Int)^j=x at p ⊢
 have e2:2*x / 2=x:=by omega
 rw [e2]
 split<;>split<;>split<;>split<;>omega
def Z1b:Sp:=fun vs H Q _=>∃ (span s:Nat),vs=[.int (span:Nat),.int (s:Nat)]∧s≤20∧Q (.int (wc span s)) H
theorem Z2H {Z5 Z1 Z2 Z4 Z3 Z0:Addr} (R:g.Raw "_law_whole_count" "_law_whole_count" Z0v ["_law_span","_law_size"]) (b_min:g.mg "min"=none) (Zq:g.mg "range"=none):g.Fn (1) "_law_whole_count" ["_law_span","_law_size"] (Z1b):=by
 refine R.fn ZW (fun vs H Q E h=>by obtain ⟨span,s',rfl,hs,q⟩:=h;rfl) fun f_ cdv A outer s H vs Q E hr h=>?_
 obtain ⟨span,s',rfl,hs,q⟩:=h
 refine ⟨_,(@Yg _ _ _ _ _ (@Y9 _ _ _ _ _ _ _ _ (@Yz _ _ _ _ _ _ _ _ Xh (pv 1) Yf (YD _)) (@Yi _ _ _ (@Yo _ _ _ _ Yf)) YR) (@Yg _ _ _ _ _ (@Yp _ _ (2) _ _ _ _ ZW.nd rfl (.inl rfl) Yf (by rfl) (by first | exact .inl rfl | exact .inr rfl | assumption)) (@Yg _ _ _ _ _ (@Xn _ _ _ _ _ _ _ _ PassesOwn.never rfl (@Y8 _ _ _ _ _ _ rfl Zq (@Ya _ _ _ _ _ (@Yk _ _ _ _ _ _ _ _ Xb (pv 1) Yf) Yd (by rfl)) (by rfl)) (@Yn _ _ (3) _ ZW.nd rfl (.inl rfl) (by first | exact .inl rfl | exact .inr rfl | assumption)) (@Yi _ _ _ (@Yp _ _ (2) _ _ _ _ ZW.nd rfl (.inl rfl) (@Yk _ _ _ _ _ _ _ _ XG Yf (pv 2)) (by rfl) (by first | exact .inl rfl | exact .inr rfl | assumption))) (by intro _;rfl)) (@Yi _ _ _ (@Yo _ _ _ _ (@Yk _ _ _ _ _ _ _ _ Xb (@YX _ _ _ _ _ _ _ _ _ _ b_min (Vq rfl) (@Ya _ _ _ _ _ (@Yk _ _ _ _ _ _ _ _ YJ (pv 0) Yf) (@Ya _ _ _ _ _ (@Yk _ _ _ _ _ _ _ _ XG Yf (pv 2)) Yd (by rfl)) (by rfl)) (by decide +kernel) (by rfl) (by rfl) (by decide) (by decide) (by rfl) (by rfl)) (@YX _ _ _ _ _ _ _ _ _ _ b_min (Vq rfl) (@Ya _ _ _ _ _ (@Yk _ _ _ _ _ _ _ _ YJ (pv 0) Yf) (@Ya _ _ _ _ _ (pv 2) Yd (by rfl)) (by rfl)) (by decide +kernel) (by rfl) (by rfl) (by decide) (by decide) (by rfl) (by rfl)))))))),?_⟩
 walk_at "rd"
 refine W8 (fun z=>?_) (fun z=>?_)
 ·have e:s'=0:=by omega
  subst e
  rw [YdG] at q
  exact q
 ·obtain ⟨j,rfl⟩:∃ j,s'=j+1:=⟨s' - 1,by omega⟩
  rw [YdH] at q
  refine Wi (n:=j) (fun i σ H'=>H'=H∧∃ o,σ=[some (.int span),some (.int (j+1:Nat)),some (.int (2^i)),o]) (fun R r=>by walk_at "rd";rw [show ((j+1:Nat):Int) - 1=(j:Int) by omega];exact r) (by omega) ⟨rfl,none,rfl⟩ ?_ ?_
  ·rintro i σ H' hi ⟨rfl,o,rfl⟩
   walk_at "rd"
   have:((2:Int)^i).natAbs<2^21:=by
    rw [Int.natAbs_pow]
    exact Nat.pow_lt_pow_right (by decide) (by omega)
   refine ⟨.inl (cm (m:=2) (n:=21) (by decide) this),?_⟩
   rw [Int.pow_succ,Int.mul_comm]
  ·rintro σ H' ⟨rfl,o,rfl⟩
   walk_at "rd"
   have:((2:Int)^j).natAbs<2^21:=by
    rw [Int.natAbs_pow]
    exact Nat.pow_lt_pow_right (by decide) (by omega)
   exact ⟨.inl (cm (m:=2) (n:=21) (by decide) this),q⟩
theorem UL (n0 n1:List Nat):∀ us:List Bool,wts (usN n0 n1 us)=us.length
 | []=>by simp [usN,wts]
 | b::us=>by
  rw [show usN n0 n1 (b::us)=Sh.use (if b then n1 else n0)::usN n0 n1 us from rfl,wts,UL n0 n1 us]
  simp [wt];omega
theorem Yb2 {prs:Prs} {n0 n1:List Nat} (h0:okS prs (.use n0)) (h1:okS prs (.use n1)) (us:List Bool):Xo prs (usN n0 n1 us):=UJ fun p hp=>by
 obtain ⟨b,_,rfl⟩:=List.mem_map.mp hp
 cases b
 ·exact h0
 ·exact h1
def uF (prs:Prs) (n0 n1:List Nat) (b:Bool):Nat→Int:=cnt (bkO prs) (.use (if b then n1 else n0))
theorem Yb3 (prs:Prs) (n0 n1:List Nat) (us:List Bool):X5 Xq (us.map (uF prs n0 n1))=YI (bkO prs) (usN n0 n1 us):=by
 rw [YdD,QN,usN,List.map_map]
 rfl
def Z1p (K:PySem.W.Frag):Sp:=fun vs H Q _=>∃ (P Ud L0 L1:Addr) (prs:Prs) (n:Nat) (n0 n1:List Nat) (us:List Bool) (kvs:List (Key×V)),vs=[.ref P,.ref Ud,.int (n:Nat)]∧n≤20∧okB prs∧us.length≤3∧okS prs (.use n0)∧okS prs (.use n1)∧Den K H (.ref P) (.tuple (kds (usN n0 n1 us)))∧H Ud=some (.dK kvs)∧X1 kvs (.inr (S n0))=some (.ref L0)∧X1 kvs (.inr (S n1))=some (.ref L1)∧H L0=some (.lst (Yt (uF prs n0 n1 false) (n+1)))∧H L1=some (.lst (Yt (uF prs n0 n1 true) (n+1)))∧∀ H',Yl H H'→Q (.int (YI (bkO prs) (usN n0 n1 us) n)) H'
theorem Z3a {Z5 Z1 Z2 Z4 Z3 Z0:Addr} (R:g.Raw "_law_row_count" "_law_row_count" Z0Q ["_law_parts","_law_uses","_law_size"]) (Zq:g.mg "range"=none) (b_sum:g.mg "sum"=none):g.Fn (1) "_law_row_count" ["_law_parts","_law_uses","_law_size"] (Z1p g.K):=by
 refine R.fn ZU (fun vs H Q E h=>by obtain ⟨P,Ud,L0,L1,prs,n,n0,n1,us,kvs,rfl,hn,ob,hus,k0,k1,hP,hU,v0,v1,h0,h1,q⟩:=h;rfl) fun f_ cdv A outer s H vs Q E hr h=>?_
 obtain ⟨P,Ud,L0,L1,prs,n,n0,n1,us,kvs,rfl,hn,ob,hus,k0,k1,hP,hU,v0,v1,h0,h1,q⟩:=h
 have hu:=XU hr
 refine ⟨_,(@Yg _ _ _ _ _ (@Yp _ _ (3) _ _ _ _ ZU.nd rfl (.inr rfl) (@Yk _ _ _ _ _ _ _ _ Qq (@XL _ _ _ _ (@Ya _ _ _ _ _ Yf Yd (by rfl))) (@Yk _ _ _ _ _ _ _ _ YdZ (@XL _ _ _ _ (@Ya _ _ _ _ _ Yf Yd (by rfl))) (pv 2))) (by rfl) (by first | exact .inl rfl | exact .inr rfl | assumption)) (@Yg _ _ _ _ _ (@Xn _ _ _ _ _ _ _ _ PassesOwn.never rfl (@V0 _ _ _ _ (pv 0)) (@Yn _ _ (4) _ ZU.nd rfl (.inl rfl) (by first | exact .inl rfl | exact .inr rfl | assumption)) (@Yg _ _ _ _ _ (@Yp _ _ (5) _ _ _ _ ZU.nd rfl (.inr rfl) (@X7 _ _ _ _ _ _ (XU hr) (pv 1) (@Yx _ _ _ _ _ _ _ Xc (pv 4) Yf (fun _ _=>rfl)) (fun _ _=>rfl)) (by rfl) (by first | exact .inl rfl | exact .inr rfl | assumption)) (@Yi _ _ _ (@Yp _ _ (3) _ _ _ _ ZU.nd rfl (.inr rfl) (@Yeb _ (("_law_k":Str)) _ _ _ _ _ _ ([none,some 3,some 5]) ((["_law_k","_law_ways","_law_some"]:List Str)) _ (Yv 0) _ _ (.own (.cap (i:=3) rfl rfl (by first | exact .inl rfl | exact .inr rfl) (.cap (i:=5) rfl rfl (by first | exact .inl rfl | exact .inr rfl) .nil))) rfl (@Y8 _ _ _ _ _ _ rfl Zq (@Ya _ _ _ _ _ (@Yk _ _ _ _ _ _ _ _ YJ (pv 2) Yf) Yd (by rfl)) (by rfl)) (fun cl C s₀ H₀ fp pn=>(@Yn _ _ (0) _ (show List.Nodup (["_law_k","_law_ways","_law_some"]:List Str) by decide +kernel) rfl (.inr rfl) (.inl rfl))) (fun cl C s₀ H₀ fp pn=>Xj) (fun cl C s₀ H₀ fp pn=>(@YX _ _ _ _ _ _ _ _ _ _ b_sum (UB (K:=g.K) rfl) (@Ya _ _ _ _ _ (@Wh _ _ _ _ _ _ _ ([none,some 1,some 2,some 0]) ((["_law_j","_law_ways","_law_some","_law_k"]:List Str)) _ (Yv 0) _ _ (.own (.cap (i:=1) rfl rfl (by first | exact .inl rfl | exact .inr rfl) (.cap (i:=2) rfl rfl (by first | exact .inl rfl | exact .inr rfl) (.cap (i:=0) rfl rfl (by first | exact .inl rfl | exact .inr rfl) .nil)))) rfl (@Y8 _ _ _ _ _ _ rfl Zq (@Ya _ _ _ _ _ (@Yk _ _ _ _ _ _ _ _ YJ (pv 0) Yf) Yd (by rfl)) (by rfl)) (fun cl C s₀ H₀ fp pn=>(@Yn _ _ (0) _ (show List.Nodup (["_law_j","_law_ways","_law_some","_law_k"]:List Str) by decide +kernel) rfl (.inl rfl) (.inr rfl))) (fun cl C s₀ H₀ fp pn=>Xj) (fun cl C s₀ H₀ fp pn=>(@Yk _ _ _ _ _ _ _ _ XG (@Yx _ _ _ _ _ _ _ (VX (K:=g.K)) (pv 1) (@Yk _ _ _ _ _ _ _ _ Xb (pv 3) (pv 0)) (fun _ _=>rfl)) (@Yx _ _ _ _ _ _ _ (VX (K:=g.K)) (pv 2) (pv 0) (fun _ _=>rfl)))) (by intro x hx;simp at hx;first | (subst hx;(first | exact .inl rfl | exact .inr rfl)) | (rcases hx with rfl | rfl<;>(first | exact .inl rfl | exact .inr rfl)) | (rcases hx with rfl | rfl | rfl<;>(first | exact .inl rfl | exact .inr rfl)) | (rcases hx with rfl | rfl | rfl | rfl<;>(first | exact .inl rfl | exact .inr rfl)) | (rcases hx with rfl | rfl | rfl | rfl | rfl<;>(first | exact .inl rfl | exact .inr rfl))) (by rfl) (by decide) (by decide +kernel) (by intro _;rfl)) Yd (by rfl)) (by decide +kernel) (by rfl) (by rfl) (by decide) (by decide) (by rfl) (by rfl))) (by intro x hx;simp at hx;first | (subst hx;(first | exact .inl rfl | exact .inr rfl)) | (rcases hx with rfl | rfl<;>(first | exact .inl rfl | exact .inr rfl)) | (rcases hx with rfl | rfl | rfl<;>(first | exact .inl rfl | exact .inr rfl)) | (rcases hx with rfl | rfl | rfl | rfl<;>(first | exact .inl rfl | exact .inr rfl)) | (rcases hx with rfl | rfl | rfl | rfl | rfl<;>(first | exact .inl rfl | exact .inr rfl))) (by rfl) (by intro _ _;rfl) (by rfl) (by decide +kernel) (by decide +kernel) (by intro _;rfl)) (by rfl) (by first | exact .inl rfl | exact .inr rfl | assumption)))) (by intro _;rfl)) (@Yi _ _ _ (@Yo _ _ _ _ (@Yx _ _ _ _ _ _ _ YM (pv 3) (pv 2) (fun _ _=>rfl)))))),?_⟩
 obtain ⟨P',vs,e,hPv,hvs⟩:=Xm hP
 cases V.ref.inj e
 obtain ⟨bs,rfl,hbl,hbs⟩:=VZ hvs
 have hbl':bs.length=us.length:=by rw [hbl];simp [usN]
 have smf:∀ b k,k≤n→sm (uF prs n0 n1 b k):=fun b k hk=>by
  cases b
  ·exact VQ ob k0 (by simp [wt]) (by omega)
  ·exact VQ ob k1 (by simp [wt]) (by omega)
 have smd:∀ i k,k≤n→sm (X5 Xq ((us.take i).map (uF prs n0 n1)) k):=fun i k hk=>by
  rw [Yb3]
  exact YbW ob (Yb2 k0 k1 _) (by rw [UL,List.length_take];omega) (by omega)
 walk_at "rd"
 refine ⟨few (by decide),fun p1 g1=>⟨few (by decide),fun p2 g2=>?_⟩⟩
 have w1:=Yl.upd_new g1 (.lst [.int 1])
 have w2:=Yl.upd_new g2 (.lst [.int 0])
 refine ⟨p2,n,[.int 0],rfl,rfl,Yc,by omega,by omega,few (by simp;omega),fun p3 g3=>?_⟩
 rw [show (List.replicate (n:Int).toNat [V.int 0]).flatten=List.replicate n (.int 0) by simp]
 have w3:=Yl.upd_new g3 (.lst (List.replicate n (.int 0)))
 have w13:=(w1.trans w2).trans w3
 refine ⟨p3,rfl,_,(w2.trans w3) _ _ Yc,_,Yc,few (by simp;omega),fun p4 g4=>?_⟩
 have w4:=Yl.upd_new g4 (.lst ([V.int 1]++List.replicate n (.int 0)))
 have w14:=w13.trans w4
 refine Qw (K:=g.K) (a:=P) (xs:=bs.map V.ref) (fun i σ H'=>Yl H H'∧∃ (D:Addr) (o o':Option V),σ=[some (.ref P),some (.ref Ud),some (.int n),some (.ref D),o,o']∧H' D=some (.lst (Yt (X5 Xq ((us.take i).map (uF prs n0 n1))) (n+1)))) (fun R r=>by walk_at "rd";exact r) ⟨w14,p4,none,none,rfl,by rw [Yc];exact congrArg (fun l=>some (HO.lst l)) (Ybb n).symm⟩ (fun i σ H' _ ⟨s,_⟩=>s.tup hPv) ?_ ?_
 ·rintro i x σ H' hx ⟨s1,D,o,o',rfl,hd⟩
  rw [List.getElem?_map] at hx
  obtain ⟨b,hb,rfl⟩:=Option.map_eq_some_iff.mp hx
  have hi:=(List.getElem?_eq_some_iff.mp hb).1
  have hu:us[i]?=some (us[i]'(by omega)):=List.getElem?_eq_getElem _
  generalize us[i]'(by omega)=u at hu
  have hbk:=hbs i b (.use (if u then n1 else n0)) hb (by rw [usN,List.getElem?_map,hu];rfl)
  rw [kd] at hbk
  obtain ⟨v,hT,hv⟩:=Vh (hbk.keep s1)
  have:=Wc hv
  subst this
  obtain ⟨L,hvL,hL⟩:∃ L,X1 kvs (.inr (S (if u then n1 else n0)))=some (.ref L)∧H L=some (.lst (Yt (uF prs n0 n1 u) (n+1))):=by
   cases u
   ·exact ⟨L0,v0,h0⟩
   ·exact ⟨L1,v1,h1⟩
  have hL':=s1 _ _ hL
  walk_at "rd"
  refine ⟨_,hT,_,Yq (j:=1) rfl,.ref L,.inl ⟨kvs,.inr (S (if u then n1 else n0)),.inl (s1 _ _ hU),rfl,hvL.symm⟩,?_⟩
  refine Ug (n:=n+1) (fun k=>V.int (XX (X5 Xq ((us.take i).map (uF prs n0 n1))) (uF prs n0 n1 u) k)) (fun R r=>by walk_at "rd";exact r H' (.refl _)) (by omega) ?_ ?_
  ·intro k H2 hk s2 R r
   walk_at "rd"
   refine Ug (n:=k+1) (fun j=>V.int (X5 Xq ((us.take i).map (uF prs n0 n1)) (k - j)*uF prs n0 n1 u j)) (fun R r=>by walk_at "rd";exact r H2 (.refl _)) (by omega) ?_ ?_
   ·intro j H3 hj s3 R r
    obtain ⟨n1',b0,b1⟩:=smd i (k - j) (by omega)
    obtain ⟨n2,b2,b3⟩:=smf u j (by omega)
    walk_at "rd"
    rw [show (k:Int) - (j:Int)=((k - j:Nat):Int) by omega]
    exact ⟨_,SqL.of (s3 _ _ (s2 _ _ hd)),_,Xk _ (by omega),_,SqL.of (s3 _ _ (s2 _ _ hL')),_,Xk _ (by omega),_,rfl,_,rfl,.inl (cm b1 b3 (by omega)),r H3 (.refl _)⟩
   ·intro E0' H3 hE s3 hd3
    refine ⟨E0',rfl,(List.range (k+1)).map fun j=>X5 Xq ((us.take i).map (uF prs n0 n1)) (k - j)*uF prs n0 n1 u j,SqL.of (by rw [hd3,List.map_map];rfl),?_⟩
    exact r H3 s3
  ·intro D2 H2 hD2 s2 hd2
   refine ⟨s1.trans s2,D2,rfl,?_⟩
   rw [hd2,Xu hu,List.map_append,List.map_singleton,U0]
   rfl
 ·rintro σ H' ⟨s1,D,o,o',rfl,hd⟩
  walk_at "rd"
  rw [List.length_map,hbl',List.take_length,Yb3] at hd
  exact ⟨_,SqL.of hd,_,Xk _ (by omega),q H' s1⟩
abbrev dl (nb:Bool→List Nat) (A:Bool→Addr):List (Key×V):=[(.inr (S (nb false)),.ref (A false)),(.inr (S (nb true)),.ref (A true))]
theorem WO {nb:Bool→List Nat} (hne:nb false≠nb true) (A:Bool→Addr) (b:Bool):X1 (dl nb A) (.inr (S (nb b)))=some (.ref (A b)):=by
 cases b
 ·exact WD rfl
 ·exact (W9 fun z=>hne (Vb (Sum.inr.inj z))).trans (WD rfl)
structure DSt (f u:Bool→Nat→Int) (nb:Bool→List Nat) (H0 H':Hp) (Sd Ud:Addr) (A L:Bool→Addr) (a l:Bool→Nat):Prop where
 sd:H' Sd=some (.dK (dl nb A))
 ud:H' Ud=some (.dK (dl nb L))
 fa:∀ b,H' (A b)=some (.lst (Yt (f b) (a b)))
 ul:∀ b,H' (L b)=some (.lst (Yt (u b) (l b)))
 na:∀ b,H0 (A b)=none
 nl:∀ b,H0 (L b)=none
 fr:Yl H0 H'
 ia:A false≠A true
 il:L false≠L true
 ial:∀ b c,A b≠L c
def inc (a:Bool→Nat) (b:Bool):Bool→Nat:=fun c=>if c=b then a c+1 else a c
section
variable {f u:Bool→Nat→Int} {nb:Bool→List Nat} {H0 H' H2:Hp} {Sd Ud:Addr} {A L:Bool→Addr} {a l:Bool→Nat}
theorem DSt.iA (h:DSt f u nb H0 H' Sd Ud A L a l) {b c:Bool} (n:c≠b):A c≠A b:=by
 have:=h.ia
 cases b<;>cases c<;>first | exact absurd rfl n | exact this | exact Ne.symm this
theorem DSt.iL (h:DSt f u nb H0 H' Sd Ud A L a l) {b c:Bool} (n:c≠b):L c≠L b:=by
 have:=h.il
 cases b<;>cases c<;>first | exact absurd rfl n | exact this | exact Ne.symm this
theorem DSt.same (h:DSt f u nb H0 H' Sd Ud A L a l) (s:Yl H' H2):DSt f u nb H0 H2 Sd Ud A L a l:=⟨s _ _ h.sd,s _ _ h.ud,fun b=>s _ _ (h.fa b),fun b=>s _ _ (h.ul b),h.na,h.nl,h.fr.trans s,h.ia,h.il,h.ial⟩
theorem DSt.addA (h:DSt f u nb H0 H' Sd Ud A L a l) (b:Bool):DSt f u nb H0 (upd H' (A b) (.lst (Yt (f b) (a b)++[.int (f b (a b))]))) Sd Ud A L (inc a b) l:=by
 refine ⟨by rw [Yb (Y3 h.sd (h.fa b) (by intro z;cases z))];exact h.sd,by rw [Yb (Y3 h.ud (h.fa b) (by intro z;cases z))];exact h.ud,fun c=>?_,fun c=>by rw [Yb (Ne.symm (h.ial b c))];exact h.ul c,h.na,h.nl,fun x o e=>by rw [Yb (Yh e (h.na b))];exact h.fr _ _ e,h.ia,h.il,h.ial⟩
 unfold inc
 by_cases e:c=b
 ·subst e
  rw [if_pos rfl,Yc,Y2]
 ·rw [if_neg e,Yb (h.iA e)];exact h.fa c
theorem DSt.addL (h:DSt f u nb H0 H' Sd Ud A L a l) (b:Bool):DSt f u nb H0 (upd H' (L b) (.lst (Yt (u b) (l b)++[.int (u b (l b))]))) Sd Ud A L a (inc l b):=by
 refine ⟨by rw [Yb (Y3 h.sd (h.ul b) (by intro z;cases z))];exact h.sd,by rw [Yb (Y3 h.ud (h.ul b) (by intro z;cases z))];exact h.ud,fun c=>by rw [Yb (h.ial c b)];exact h.fa c,fun c=>?_,h.na,h.nl,fun x o e=>by rw [Yb (Yh e (h.nl b))];exact h.fr _ _ e,h.ia,h.il,h.ial⟩
 unfold inc
 by_cases e:c=b
 ·subst e
  rw [if_pos rfl,Yc,Y2]
 ·rw [if_neg e,Yb (h.iL e)];exact h.ul c
end
def st (i:Nat) (b:Bool):Nat:=if b then (if 2≤i then 1 else 0) else (if 1≤i then 1 else 0)
def bi (i:Nat):Bool:=decide (i=1)
theorem Yb4 (k:Nat) {i:Nat} (h:i<2):inc (fun b=>k+st i b) (bi i)=fun b=>k+st (i+1) b:=by
 funext c
 have:i=0∨i=1:=by omega
 rcases this with rfl | rfl<;>cases c<;>rfl
theorem Yc1 {i:Nat} (h:i<2):st i (bi i)=0:=by
 have:i=0∨i=1:=by omega
 rcases this with rfl | rfl<;>rfl
structure BkL (K:PySem.W.Frag) (H:Hp) (B:Addr) (nb:Bool→List Nat) (mk:Bool→List (List Nat)) (ps:Bool→List Sh):Prop where
 bk:Vi K H B [(nb false,.pick (mk false) (ps false)),(nb true,.pick (mk true) (ps true))]
 br:∀ b,Brs (nb false) (nb true) (mk b) (ps b)
 ne:nb false≠nb true
def YS (nb:Bool→List Nat) (mk:Bool→List (List Nat)) (ps:Bool→List Sh):Prs:=[(nb false,.pick (mk false) (ps false)),(nb true,.pick (mk true) (ps true))]
theorem Yek (nb:Bool→List Nat) (mk:Bool→List (List Nat)) (ps:Bool→List Sh) {i:Nat} (h:i<2):(YS nb mk ps)[i]?=some (nb (bi i),.pick (mk (bi i)) (ps (bi i))):=by
 have:i=0∨i=1:=by omega
 rcases this with rfl | rfl<;>rfl
theorem We {nb:Bool→List Nat} (hne:nb false≠nb true) (mk:Bool→List (List Nat)) (ps:Bool→List Sh) (b:Bool):((YS nb mk ps).find? fun q=>decide (q.1=nb b))=some (nb b,.pick (mk b) (ps b)):=by
 cases b
 ·simp [YS]
 ·simp [YS,hne]
def fS (nb:Bool→List Nat) (mk:Bool→List (List Nat)) (ps:Bool→List Sh) (b:Bool):Nat→Int:=cnt (bkO (YS nb mk ps)) (.pick (mk b) (ps b))
def fU2 (nb:Bool→List Nat) (mk:Bool→List (List Nat)) (ps:Bool→List Sh) (b:Bool):Nat→Int:=cnt (bkO (YS nb mk ps)) (.use (nb b))
theorem YcF (nb:Bool→List Nat) (mk:Bool→List (List Nat)) (ps:Bool→List Sh) (b:Bool):fU2 nb mk ps b 0=0:=Wb _ _
theorem YcG {nb:Bool→List Nat} (hne:nb false≠nb true) (mk:Bool→List (List Nat)) (ps:Bool→List Sh) (b:Bool) (k:Nat):fU2 nb mk ps b (k+1)=fS nb mk ps b k:=by
 unfold fU2 fS
 rw [Wy,(Wz (We hne mk ps b)).1]
theorem Ybc {prs:Prs} {n0 n1:List Nat} (h0:okS prs (.use n0)) (h1:okS prs (.use n1)) {p:Sh} (h:Br n0 n1 p):okS prs p∧wt p≤4∧dep p≤1:=by
 rcases h with ⟨lo,span,rfl⟩ | ⟨us,hl,rfl⟩
 ·exact ⟨by rw [okS];trivial,by simp [wt],by simp [dep]⟩
 ·refine ⟨by rw [okS];exact ⟨by simp [usN];omega,Yb2 h0 h1 us⟩,by rw [wt,UL];omega,?_⟩
  rw [dep]
  have:YH (usN n0 n1 us)≤0:=UK fun p hp=>by
   obtain ⟨b,_,rfl⟩:=List.mem_map.mp hp
   simp [dep]
  omega
theorem Wn {prs:Prs} {n0 n1:List Nat} (h0:okS prs (.use n0)) (h1:okS prs (.use n1)) {mk:List (List Nat)} {ps:List Sh} (h:Brs n0 n1 mk ps):okS prs (.pick mk ps)∧wt (.pick mk ps)≤24∧dep (.pick mk ps)≤2:=by
 have hf:=h.few
 refine ⟨by rw [okS];exact ⟨h.len,by omega,UJ fun p hp=>(Ybc h0 h1 (h.br p hp)).1⟩,?_,?_⟩
 ·rw [wt]
  have:=Yb1 (n:=4) (ps:=ps) fun p hp=>(Ybc h0 h1 (h.br p hp)).2.1
  omega
 ·rw [dep]
  have:=UK (n:=1) (ps:=ps) fun p hp=>(Ybc h0 h1 (h.br p hp)).2.2
  omega
theorem Yas {nb:Bool→List Nat} {mk:Bool→List (List Nat)} {ps:Bool→List Sh} (hne:nb false≠nb true) (hb:∀ b,Brs (nb false) (nb true) (mk b) (ps b)):okB (YS nb mk ps):=by
 have hu:∀ b,okS (YS nb mk ps) (.use (nb b)):=fun b=>by rw [okS];exact ⟨_,We hne mk ps b⟩
 have key:∀ q∈YS nb mk ps,∃ b,q=(nb b,.pick (mk b) (ps b)):=fun q hq=>by
  simp only [YS,List.mem_cons,List.not_mem_nil,or_false] at hq
  rcases hq with rfl | rfl
  ·exact ⟨false,rfl⟩
  ·exact ⟨true,rfl⟩
 refine ⟨by simp [YS],fun q hq=>?_,fun q hq=>?_,fun q hq=>?_⟩<;>obtain ⟨b,rfl⟩:=key q hq
 ·exact (Wn (hu false) (hu true) (hb b)).1
 ·exact (Wn (hu false) (hu true) (hb b)).2.1
 ·exact (Wn (hu false) (hu true) (hb b)).2.2
def Z3k (K:PySem.W.Frag):Sp:=fun vs H Q _=>∃ (B:Addr) (n:Nat) (nb:Bool→List Nat) (mk:Bool→List (List Nat)) (ps:Bool→List Sh),vs=[.ref B,.int (n:Nat)]∧n≤9∧BkL K H B nb mk ps∧∀ t Sd Ud A L H',DSt (fS nb mk ps) (fU2 nb mk ps) nb H H' Sd Ud A L (fun _=>n+1) (fun _=>n+2)→H' t=some (.tup [.ref Sd,.ref Ud])→Q (.ref t) H'
theorem put0 (k:Key) (v:V):X6 ([]:List (Key×V)) k v=[(k,v)]:=rfl
theorem Yc2 {k k':Key} (v v':V) (h:k≠k'):X6 [(k,v)] k' v'=[(k,v),(k',v')]:=by simp [X6,h]
theorem st0 (k:Nat):(fun b=>k+st 0 b)=fun _=>k:=by funext b;cases b<;>rfl
theorem st2 (k:Nat):(fun b=>k+st 2 b)=fun _=>k+1:=by funext b;cases b<;>rfl
def Pv0 (nb:Bool→List Nat) (H0:Hp) (Sd Ud:Addr) (i:Nat) (H':Hp):Prop:=Yl H0 H'∧match i with
 | 0=>H' Sd=some (.dK [])∧H' Ud=some (.dK [])
 | 1=>∃ A0 L0,H' Sd=some (.dK [(.inr (S (nb false)),.ref A0)])∧H' Ud=some (.dK [(.inr (S (nb false)),.ref L0)])∧H0 A0=none∧H0 L0=none∧A0≠L0∧H' A0=some (.lst [])∧H' L0=some (.lst [.int 0])
 | _=>∃ A L:Bool→Addr,H' Sd=some (.dK (dl nb A))∧H' Ud=some (.dK (dl nb L))∧(∀ b,H0 (A b)=none)∧(∀ b,H0 (L b)=none)∧A false≠A true∧L false≠L true∧(∀ b c,A b≠L c)∧(∀ b,H' (A b)=some (.lst []))∧∀ b,H' (L b)=some (.lst [.int 0])
theorem Ybd {k:Nat} {Z5 Z1 Z2 Z4 Z3 Z0:Addr} (R:g.Raw "_law_due" "_law_due" Z2y ["_law_book","_law_size"]) (Z2U:g.Fn k "_law_whole_count" ["_law_span","_law_size"] (Z1b)) (Z3l:g.Fn k "_law_row_count" ["_law_parts","_law_uses","_law_size"] (Z1p g.K)) (Zq:g.mg "range"=none):g.Fn (k+1) "_law_due" ["_law_book","_law_size"] (Z3k g.K):=by
 refine R.fn Zy (fun vs H Q E h=>by obtain ⟨B,n,nb,mk,ps,rfl,hn,hB,q⟩:=h;rfl) fun f_ cdv A outer s H vs Q E hr h=>?_
 obtain ⟨B,n,nb,mk,ps,rfl,hn,hB,q⟩:=h
 have hu:=XU hr
 refine ⟨_,(@Yg _ _ _ _ _ (@Yp _ _ (2) _ _ _ _ Zy.nd rfl (.inl rfl) Qu (by rfl) (by first | exact .inl rfl | exact .inr rfl | assumption)) (@Yg _ _ _ _ _ (@Yp _ _ (3) _ _ _ _ Zy.nd rfl (.inl rfl) Qu (by rfl) (by first | exact .inl rfl | exact .inr rfl | assumption)) (@Yg _ _ _ _ _ (@Xn _ _ _ _ _ _ _ _ PassesOwn.never rfl (@Xr _ _ _ _ (pv 0)) (@XZ _ _ _ _ _ (2) rfl (@YL _ _ _ _ _ (@Yn _ _ (4) _ Zy.nd rfl (.inl rfl) (by first | exact .inl rfl | exact .inr rfl | assumption)) (@YL _ _ _ _ _ (@Yn _ _ (5) _ Zy.nd rfl (.inl rfl) (by first | exact .inl rfl | exact .inr rfl | assumption)) XO (by rfl)) (by rfl)) (by rfl) (by rfl)) (@Yg _ _ _ _ _ (@Yad _ _ _ _ _ _ _ _ _ (XU hr) (pv 2) (pv 4) (@XL _ _ _ _ Yd) rfl) (@Yi _ _ _ (@Yad _ _ _ _ _ _ _ _ _ (XU hr) (pv 3) (pv 4) (@XL _ _ _ _ (@Ya _ _ _ _ _ Yf Yd (by rfl))) rfl))) (by intro _;rfl)) (@Yg _ _ _ _ _ (@Xn _ _ _ _ _ _ _ _ PassesOwn.never rfl (@Y8 _ _ _ _ _ _ rfl Zq (@Ya _ _ _ _ _ (@Yk _ _ _ _ _ _ _ _ YJ (pv 1) Yf) Yd (by rfl)) (by rfl)) (@Yn _ _ (6) _ Zy.nd rfl (.inl rfl) (by first | exact .inl rfl | exact .inr rfl | assumption)) (@Yg _ _ _ _ _ (@Xn _ _ _ _ _ _ _ _ PassesOwn.never rfl (@Xr _ _ _ _ (pv 0)) (@XZ _ _ _ _ _ (2) rfl (@YL _ _ _ _ _ (@Yn _ _ (4) _ Zy.nd rfl (.inl rfl) (by first | exact .inl rfl | exact .inr rfl | assumption)) (@YL _ _ _ _ _ (@Yn _ _ (5) _ Zy.nd rfl (.inl rfl) (by first | exact .inl rfl | exact .inr rfl | assumption)) XO (by rfl)) (by rfl)) (by rfl) (by rfl)) (@Yg _ _ _ _ _ (@Yp _ _ (7) _ _ _ _ Zy.nd rfl (.inl rfl) Yf (by rfl) (by first | exact .inl rfl | exact .inr rfl | assumption)) (@Yg _ _ _ _ _ (@Xn _ _ _ _ _ _ _ _ PassesOwn.never rfl (@V0 _ _ _ _ (@Yx _ _ _ _ _ _ _ Xc (pv 5) Yf (fun _ _=>rfl))) (@XZ _ _ _ _ _ (2) rfl (@YL _ _ _ _ _ (@Yn _ _ (8) _ Zy.nd rfl (.inl rfl) (by first | exact .inl rfl | exact .inr rfl | assumption)) (@YL _ _ _ _ _ (@Yn _ _ (9) _ Zy.nd rfl (.inl rfl) (by first | exact .inl rfl | exact .inr rfl | assumption)) XO (by rfl)) (by rfl)) (by rfl) (by rfl)) (@Yi _ _ _ (@Y9 _ _ _ _ _ _ _ _ (@Yz _ _ _ _ _ _ _ _ Xh (@Yx _ _ _ _ _ _ _ Xc (pv 9) Yf (fun _ _=>rfl)) Xg (YD _)) (@Yi _ _ _ (@Yp _ _ (7) _ _ _ _ Zy.nd rfl (.inl rfl) (@Yk _ _ _ _ _ _ _ _ YJ (pv 7) (@YE _ _ _ _ _ _ _ _ _ _ _ _ Z2U hr (@Ya _ _ _ _ _ (@Yk _ _ _ _ _ _ _ _ Xb (@Yx _ _ _ _ _ _ _ Xc (pv 9) Yf (fun _ _=>rfl)) (@Yx _ _ _ _ _ _ _ Xc (pv 9) Yf (fun _ _=>rfl))) (@Ya _ _ _ _ _ (pv 6) Yd (by rfl)) (by rfl)) (by omega) (by rfl) (by rfl) (by decide) (by rfl) (by rfl))) (by rfl) (by first | exact .inl rfl | exact .inr rfl | assumption))) (@Yi _ _ _ (@Yp _ _ (7) _ _ _ _ Zy.nd rfl (.inl rfl) (@Yk _ _ _ _ _ _ _ _ YJ (pv 7) (@YE _ _ _ _ _ _ _ _ _ _ _ _ Z3l hr (@Ya _ _ _ _ _ (@Yx _ _ _ _ _ _ _ Xc (pv 9) Yf (fun _ _=>rfl)) (@Ya _ _ _ _ _ (pv 3) (@Ya _ _ _ _ _ (pv 6) Yd (by rfl)) (by rfl)) (by rfl)) (by omega) (by rfl) (by rfl) (by decide) (by rfl) (by rfl))) (by rfl) (by first | exact .inl rfl | exact .inr rfl | assumption))))) (by intro _;rfl)) (@Yi _ _ _ (@YZ _ _ _ _ (@X0 _ _ _ _ _ _ _ _ _ _ _ _ PySem.F.plainAttrs_list PySem.F.slot_list_append PySem.F.type_list_append Y0 (@X7 _ _ _ _ _ _ (XU hr) (pv 2) (pv 4) (fun _ _=>rfl)) (@Ya _ _ _ _ _ (pv 7) Yd (by rfl)) (by rfl) (by rfl) (by rfl) (by rfl) (by rfl)) (by rfl))))) (by intro _;rfl)) (@Yi _ _ _ (@Xn _ _ _ _ _ _ _ _ PassesOwn.never rfl (@Xr _ _ _ _ (pv 0)) (@XZ _ _ _ _ _ (2) rfl (@YL _ _ _ _ _ (@Yn _ _ (4) _ Zy.nd rfl (.inl rfl) (by first | exact .inl rfl | exact .inr rfl | assumption)) (@YL _ _ _ _ _ (@Yn _ _ (5) _ Zy.nd rfl (.inl rfl) (by first | exact .inl rfl | exact .inr rfl | assumption)) XO (by rfl)) (by rfl)) (by rfl) (by rfl)) (@Yi _ _ _ (@YZ _ _ _ _ (@X0 _ _ _ _ _ _ _ _ _ _ _ _ PySem.F.plainAttrs_list PySem.F.slot_list_append PySem.F.type_list_append Y0 (@X7 _ _ _ _ _ _ (XU hr) (pv 3) (pv 4) (fun _ _=>rfl)) (@Ya _ _ _ _ _ (@Yx _ _ _ _ _ _ _ YM (@X7 _ _ _ _ _ _ (XU hr) (pv 2) (pv 4) (fun _ _=>rfl)) (pv 6) (fun _ _=>rfl)) Yd (by rfl)) (by rfl) (by rfl) (by rfl) (by rfl) (by rfl)) (by rfl))) (by intro _;rfl)))) (by intro _;rfl)) (@Yi _ _ _ (@Yo _ _ _ _ (@Xs _ _ _ _ _ (@Ya _ _ _ _ _ (pv 2) (@Ya _ _ _ _ _ (pv 3) Yd (by rfl)) (by rfl))))))))),?_⟩
 have hne:=hB.ne
 have ob:=Yas hne hB.br
 have hu:∀ b,okS (YS nb mk ps) (.use (nb b)):=fun b=>by rw [okS];exact ⟨_,We hne mk ps b⟩
 obtain ⟨vs,hBv,hvl,hve⟩:=hB.bk
 have hvl:vs.length=2:=hvl
 have ent:∀ {i:Nat} {x:V},vs[i]?=some x→i<2∧∃ T a,x = .ref T∧SqT g.K H T [.str (S (nb (bi i))),.ref a]∧DK g.K H a (kd (.pick (mk (bi i)) (ps (bi i)))):=fun {i x} hx=>by
  have hi:=(List.getElem?_eq_some_iff.mp hx).1
  exact ⟨by omega,hve i x _ hx (Yek nb mk ps (by omega))⟩
 refine cut3 (fun σ H'=>∃ Sd Ud A L o4 o5,σ=[some (.ref B),some (.int n),some (.ref Sd),some (.ref Ud),o4,o5,none,none,none,none]∧DSt (fS nb mk ps) (fU2 nb mk ps) nb H H' Sd Ud A L (fun _=>0) (fun _=>1)) ?_ (fun N hN=>?_)
 rotate_left
 ·walk_at "rd"
  intro Sd gS
  have wS:=Yl.upd_new gS (.dK [])
  intro Ud gU
  have wU:=Yl.upd_new gU (.dK [])
  have nSU:Sd≠Ud:=Yh Yc gU
  have gU0:H Ud=none:=wS.free gU
  refine WM (K:=g.K) (a:=B) (xs:=vs) (fun i σ H'=>∃ o4 o5,σ=[some (.ref B),some (.int n),some (.ref Sd),some (.ref Ud),o4,o5,none,none,none,none]∧Pv0 nb H Sd Ud i H') (fun R r=>by walk_at "rd";exact r) ⟨none,none,rfl,wS.trans wU,wU _ _ Yc,Yc⟩ (fun i σ H' _ ⟨_,_,_,s,_⟩=>SqL.of (s _ _ hBv)) ?_ ?_
  ·rintro i x σ H' hx ⟨o4,o5,rfl,s1,hP⟩
   obtain ⟨hi,T,a,rfl,hT,ha⟩:=ent hx
   walk_at "rd"
   refine ⟨_,s1.tup hT,rfl,_,_,rfl,_,_,rfl,rfl,few (by decide),fun A0 gA=>?_⟩
   have wA:=Yl.upd_new gA (.lst [])
   have i2:i=0∨i=1:=by omega
   rcases i2 with rfl | rfl
   ·obtain ⟨h1,h2⟩:=hP
    have nAS:A0≠Sd:=Ne.symm (Yh h1 gA)
    have nAU:A0≠Ud:=Ne.symm (Yh h2 gA)
    refine ⟨_,.inl ⟨[],.inr (S (nb false)),wA _ _ h1,rfl,by decide,rfl⟩,few (by decide),fun L0 gL=>?_⟩
    rw [put0] at gL ⊢
    have gL1:=YU gL
    have nLS:L0≠Sd:=fun z=>by rw [z,Yc] at gL;cases gL
    have nLA:L0≠A0:=fun z=>by rw [z,Yc] at gL1;cases gL1
    have nLU:L0≠Ud:=Ne.symm (Yh (wA _ _ h2) gL1)
    refine ⟨_,.inl ⟨[],.inr (S (nb false)),by rw [Yb (Ne.symm nLU),Yb (Ne.symm nSU)];exact wA _ _ h2,rfl,by decide,rfl⟩,?_⟩
    rw [put0]
    refine ⟨fun x o e=>?_,A0,L0,?_,Yc,s1.free gA,s1.free (YU gL1),Ne.symm nLA,?_,?_⟩
    ·rw [Yb (Yh e gU0),Yb (Yh (s1 _ _ e) (YU gL1)),Yb (Yh e gS)]
     exact wA _ _ (s1 _ _ e)
    ·rw [Yb nSU,Yb (Ne.symm nLS),Yc]
    ·rw [Yb nAU,Yb (Ne.symm nLA),Yb nAS,Yc]
    ·rw [Yb nLU,Yc]
   ·obtain ⟨A1,L1,h1,h2,h3,h4,h5,h6,h7⟩:=hP
    have nAS:A0≠Sd:=Ne.symm (Yh h1 gA)
    have nAU:A0≠Ud:=Ne.symm (Yh h2 gA)
    have nA1S:A1≠Sd:=Y3 h6 h1 (by intro z;cases z)
    have nA1U:A1≠Ud:=Y3 h6 h2 (by intro z;cases z)
    have nL1S:L1≠Sd:=Y3 h7 h1 (by intro z;cases z)
    have nL1U:L1≠Ud:=Y3 h7 h2 (by intro z;cases z)
    have nAA:A1≠A0:=Yh h6 gA
    have nLA1:L1≠A0:=Yh h7 gA
    have kne:(Sum.inr (S (nb false)):Key) ≠ .inr (S (nb true)):=fun z=>hne (Vb (Sum.inr.inj z))
    refine ⟨_,.inl ⟨_,.inr (S (nb true)),wA _ _ h1,rfl,(show 1<sizeLine by decide),rfl⟩,few (by decide),fun L0 gL=>?_⟩
    rw [Yc2 _ _ kne] at gL ⊢
    have gL1:=YU gL
    have nLS:L0≠Sd:=fun z=>by rw [z,Yc] at gL;cases gL
    have nLA:L0≠A0:=fun z=>by rw [z,Yc] at gL1;cases gL1
    have nLU:L0≠Ud:=Ne.symm (Yh (wA _ _ h2) gL1)
    have nLL:L1≠L0:=Yh (wA _ _ h7) gL1
    have nLA2:A1≠L0:=Yh (wA _ _ h6) gL1
    refine ⟨_,.inl ⟨[(.inr (S (nb false)),.ref L1)],.inr (S (nb true)),by rw [Yb (Ne.symm nLU),Yb (Ne.symm nSU)];exact wA _ _ h2,rfl,(show 1<sizeLine by decide),rfl⟩,?_⟩
    rw [Yc2 _ _ kne]
    refine ⟨fun x o e=>?_,fun b=>if b then A0 else A1,fun b=>if b then L0 else L1,?_,Yc,fun b=>?_,fun b=>?_,nAA,nLL,fun b c=>?_,fun b=>?_,fun b=>?_⟩
    ·rw [Yb (Yh e gU0),Yb (Yh (s1 _ _ e) (YU gL1)),Yb (Yh e gS)]
     exact wA _ _ (s1 _ _ e)
    ·rw [Yb nSU,Yb (Ne.symm nLS),Yc];rfl
    ·cases b
     ·exact h3
     ·exact s1.free gA
    ·cases b
     ·exact h4
     ·exact s1.free (YU gL1)
    ·cases b<;>cases c
     ·exact h5
     ·exact nLA2
     ·exact Ne.symm nLA1
     ·exact Ne.symm nLA
    ·cases b
     ·show upd _ _ _ A1=_
      rw [Yb nA1U,Yb nLA2,Yb nA1S];exact wA _ _ h6
     ·show upd _ _ _ A0=_
      rw [Yb nAU,Yb (Ne.symm nLA),Yb nAS,Yc]
    ·cases b
     ·show upd _ _ _ L1=_
      rw [Yb nL1U,Yb nLL,Yb nL1S];exact wA _ _ h7
     ·show upd _ _ _ L0=_
      rw [Yb nLU,Yc]
  ·rintro σ H' ⟨o4,o5,rfl,s1,hP⟩
   rw [hvl] at hP
   obtain ⟨A,L,p1,p2,p3,p4,p5,p6,p7,p8,p9⟩:=hP
   refine hN _ _ ⟨Sd,Ud,A,L,o4,o5,rfl,p1,p2,fun b=>p8 b,fun b=>?_,p3,p4,s1,p5,p6,p7⟩
   rw [p9 b,Y2,YcF];rfl
 rintro σ H1 ⟨Sd,Ud,A,L,o4,o5,rfl,d1⟩
 walk_at "rd"
 refine Wi (n:=n+1) (fun k σ H'=>∃ o4 o5 o6 o7 o8 o9,σ=[some (.ref B),some (.int n),some (.ref Sd),some (.ref Ud),o4,o5,o6,o7,o8,o9]∧DSt (fS nb mk ps) (fU2 nb mk ps) nb H H' Sd Ud A L (fun _=>k) (fun _=>k+1)) (fun R r=>by walk_at "rd";exact r) (by omega) ⟨o4,o5,none,none,none,none,rfl,d1⟩ ?_ ?_
 ·rintro k σ H2 hk ⟨o4,o5,o6,o7,o8,o9,rfl,d2⟩
  refine WF (fun σ H'=>∃ o4 o5 o7 o8 o9,σ=[some (.ref B),some (.int n),some (.ref Sd),some (.ref Ud),o4,o5,some (.int k),o7,o8,o9]∧DSt (fS nb mk ps) (fU2 nb mk ps) nb H H' Sd Ud A L (fun _=>k+1) (fun _=>k+1)) ?_ (fun N hN=>?_)
  rotate_left
  ·walk_at "rd"
   refine WM (K:=g.K) (a:=B) (xs:=vs) (fun i σ H'=>∃ o4 o5 o7 o8 o9,σ=[some (.ref B),some (.int n),some (.ref Sd),some (.ref Ud),o4,o5,some (.int k),o7,o8,o9]∧DSt (fS nb mk ps) (fU2 nb mk ps) nb H H' Sd Ud A L (fun b=>k+st i b) (fun _=>k+1)) (fun R r=>by walk_at "rd";exact r) ⟨o4,o5,o7,o8,o9,rfl,by rw [st0];exact d2⟩ (fun i σ H' _ ⟨_,_,_,_,_,_,d⟩=>SqL.of (d.fr _ _ hBv)) ?_ ?_
   ·rintro i x σ H' hx ⟨o4,o5,o7,o8,o9,rfl,d3⟩
    obtain ⟨hi,T,a,rfl,hT,ha⟩:=ent hx
    have hd:=(ha.keep d3.fr).den
    rw [kd] at hd
    obtain ⟨v,hTa,hv⟩:=Vh hd
    obtain ⟨pt,us,rfl,hpt,hus⟩:=Xm hv
    obtain ⟨ts,bs,rfl,hl1,hl2,hts,hbs⟩:=Vg (hB.br (bi i)).len hus
    walk_at "rd"
    refine ⟨_,d3.fr.tup hT,rfl,_,_,rfl,_,_,rfl,rfl,?_⟩
    refine Qw (K:=g.K) (a:=pt) (xs:=ts.map V.ref) (fun j σ H''=>Yl H' H''∧∃ o8 o9,σ=[some (.ref B),some (.int n),some (.ref Sd),some (.ref Ud),some (.str (S (nb (bi i)))),some (.ref a),some (.int k),some (.int (((ps (bi i)).take j).map fun p=>cnt (bkO (YS nb mk ps)) p k).sum),o8,o9]) (fun R r=>by walk_at "rd";exact ⟨_,hTa,_,Yq (j:=1) rfl,r⟩) ⟨.refl _,o8,o9,by rfl⟩ (fun j σ H'' _ ⟨s,_⟩=>s.tup hpt) ?_ ?_
    ·rintro j x σ H'' hx ⟨s2,o8',o9',rfl⟩
     rw [List.getElem?_map] at hx
     obtain ⟨Tj,hTj,rfl⟩:=Option.map_eq_some_iff.mp hx
     have hj:=(List.getElem?_eq_some_iff.mp hTj).1
     have hml:=(hB.br (bi i)).len
     have hpj:(ps (bi i))[j]?=some ((ps (bi i))[j]'(by omega)):=List.getElem?_eq_getElem _
     have hmj:(mk (bi i))[j]?=some ((mk (bi i))[j]'(by omega)):=List.getElem?_eq_getElem _
     have hbj:bs[j]?=some (bs[j]'(by omega)):=List.getElem?_eq_getElem _
     generalize (ps (bi i))[j]'(by omega)=pj at hpj
     generalize (mk (bi i))[j]'(by omega)=mj at hmj
     generalize bs[j]'(by omega)=bj at hbj
     have sT:=hts j Tj mj bj hTj hmj hbj
     have dB:=(hbs j bj pj hbj hpj).keep s2
     have esum:(((ps (bi i)).take (j+1)).map fun p=>cnt (bkO (YS nb mk ps)) p k).sum=(((ps (bi i)).take j).map fun p=>cnt (bkO (YS nb mk ps)) p k).sum+cnt (bkO (YS nb mk ps)) pj k:=by
      rw [Xu hpj,List.map_append,List.sum_append]
      simp
     rw [esum]
     have d4:=d3.same s2
     walk_at "rd"
     refine ⟨_,s2.tup sT,rfl,_,_,rfl,_,_,rfl,rfl,?_⟩
     rcases (hB.br (bi i)).br pj (List.mem_of_getElem? hpj) with ⟨lo,span,rfl⟩ | ⟨us',hus',rfl⟩
     ·rw [kd] at dB
      obtain ⟨b',ws,e,hW,hws⟩:=Xm dB
      cases V.ref.inj e
      obtain ⟨u1,r1,rfl,h5,h6⟩:=YQ hws
      obtain ⟨u2,r2,rfl,h7,h8⟩:=YQ h6
      obtain ⟨u3,r3,rfl,h9,h10⟩:=YQ h8
      cases Wd h10
      cases Wc h5
      cases VP h7
      cases VP h9
      refine ⟨bj,rfl,_,hW,_,Yq (j:=0) rfl,Y1 _ _,Vc rfl ⟨bj,rfl,_,hW,_,Yq (j:=2) rfl,bj,rfl,_,hW,_,Yq (j:=1) rfl,_,rfl,_,rfl,span,k,?_,by omega,_,rfl,s2,?_⟩⟩
      ·rw [show lo+(span:Int) - lo=(span:Int) by omega]
      ·rw [Um]
     ·rw [kd] at dB
      obtain ⟨v',hW,hv'⟩:=Vh dB
      obtain ⟨r',ws,rfl,hr',hws⟩:=Xm hv'
      refine ⟨bj,rfl,_,hW,_,Yq (j:=0) rfl,Y1 _ _,XT (by decide +kernel) ⟨bj,rfl,_,hW,_,Yq (j:=1) rfl,r',Ud,L false,L true,YS nb mk ps,k,nb false,nb true,us',dl nb L,rfl,by omega,ob,hus',hu false,hu true,.tup hr' hws,d4.ud,WO hne L false,WO hne L true,d4.ul false,d4.ul true,fun H4 s4=>?_⟩⟩
      refine ⟨_,rfl,s2.trans s4,?_⟩
      rw [Wx]
    ·rintro σ H'' ⟨s2,o8',o9',rfl⟩
     walk_at "rd"
     have d4:=d3.same s2
     have hA:=d4.fa (bi i)
     have hst:=Yc1 hi
     refine ⟨.ref (A (bi i)),.inl ⟨_,.inr (S (nb (bi i))),.inl d4.sd,rfl,(WO hne A (bi i)).symm⟩,.inl ⟨rfl,_,SqL.of hA⟩,A (bi i),rfl,_,hA,by rw [Ys];exact few (by omega),?_⟩
     have d5:=d4.addA (bi i)
     rw [Yb4 k hi] at d5
     have ef:(((ps (bi i)).take (ts.map V.ref).length).map fun p=>cnt (bkO (YS nb mk ps)) p k).sum=fS nb mk ps (bi i) (k+st i (bi i)):=by
      rw [List.length_map,hl1,List.take_length,hst,fS,WH]
      rfl
     rw [ef]
     exact d5
   ·rintro σ H' ⟨o4,o5,o7,o8,o9,rfl,d3⟩
    rw [hvl,st2] at d3
    exact hN _ _ ⟨o4,o5,o7,o8,o9,rfl,d3⟩
  ·rintro σ H3 ⟨o4,o5,o7,o8,o9,rfl,d3⟩
   refine WM (K:=g.K) (a:=B) (xs:=vs) (fun i σ H'=>∃ o4 o5 o7 o8 o9,σ=[some (.ref B),some (.int n),some (.ref Sd),some (.ref Ud),o4,o5,some (.int k),o7,o8,o9]∧DSt (fS nb mk ps) (fU2 nb mk ps) nb H H' Sd Ud A L (fun _=>k+1) (fun b=>k+1+st i b)) (fun R r=>by walk_at "rd";exact r) ⟨o4,o5,o7,o8,o9,rfl,by rw [st0];exact d3⟩ (fun i σ H' _ ⟨_,_,_,_,_,_,d⟩=>SqL.of (d.fr _ _ hBv)) ?_ ?_
   ·rintro i x σ H' hx ⟨o4,o5,o7,o8,o9,rfl,d3⟩
    obtain ⟨hi,T,a,rfl,hT,ha⟩:=ent hx
    walk_at "rd"
    refine ⟨_,d3.fr.tup hT,rfl,_,_,rfl,_,_,rfl,rfl,?_⟩
    have hst:=Yc1 hi
    have hL:=d3.ul (bi i)
    refine ⟨.ref (L (bi i)),.inl ⟨_,.inr (S (nb (bi i))),.inl d3.ud,rfl,(WO hne L (bi i)).symm⟩,.inl ⟨rfl,_,SqL.of hL⟩,.ref (A (bi i)),.inl ⟨_,.inr (S (nb (bi i))),.inl d3.sd,rfl,(WO hne A (bi i)).symm⟩,A (bi i),rfl,_,SqL.of (d3.fa (bi i)),_,Xk _ (by omega),L (bi i),rfl,_,hL,by rw [Ys];exact few (by omega),?_⟩
    have d5:=d3.addL (bi i)
    rw [Yb4 (k+1) hi] at d5
    have ef:fU2 nb mk ps (bi i) (k+1+st i (bi i))=fS nb mk ps (bi i) k:=by rw [hst];exact YcG hne mk ps _ k
    rw [ef] at d5
    exact d5
   ·rintro σ H' ⟨o4,o5,o7,o8,o9,rfl,d3⟩
    rw [hvl,st2] at d3
    exact ⟨o4,o5,_,o7,o8,o9,rfl,d3⟩
 ·rintro σ H' ⟨o4,o5,o6,o7,o8,o9,rfl,d2⟩
  walk_at "rd"
  exact ⟨few (by decide),fun t gt=>q t Sd Ud A L _ (d2.same (.upd_new gt _)) Yc⟩
theorem Uw {bk bk':List Nat→Sh} {n0 n1:List Nat}:∀ (us:List Bool) (s:Nat),(∀ j,j≤s→∀ b:Bool,cnt bk (.use (if b then n1 else n0)) j=cnt bk' (.use (if b then n1 else n0)) j)→YI bk (usN n0 n1 us) s=YI bk' (usN n0 n1 us) s
 | [],s,_=>by rw [show usN n0 n1 []=[] from rfl,WJ,WJ]
 | b::us,s,h=>by
  rw [show usN n0 n1 (b::us)=Sh.use (if b then n1 else n0)::usN n0 n1 us from rfl,Wl,Wl]
  congr 1
  refine List.map_congr_left fun f hf=>?_
  have hf:=List.mem_range.mp hf
  rw [h f (by omega) b,Uw us (s - f) fun j hj=>h j (by omega)]
section
variable {nb:Bool→List Nat} {mk:Bool→List (List Nat)} {ps:Bool→List Sh}
theorem Ux {bk bk':List Nat→Sh} (hbr:∀ b,Brs (nb false) (nb true) (mk b) (ps b)) {s:Nat} (h:∀ j,j≤s→∀ b,cnt bk (.use (nb b)) j=cnt bk' (.use (nb b)) j) (b:Bool):cnt bk (.pick (mk b) (ps b)) s=cnt bk' (.pick (mk b) (ps b)) s:=by
 rw [WH,WH]
 congr 1
 refine List.map_congr_left fun p hp=>?_
 rcases (hbr b).br p hp with ⟨lo,span,rfl⟩ | ⟨us,_,rfl⟩
 ·rw [Um,Um]
 ·rw [Wx,Wx]
  refine Uw us s fun j hj c=>?_
  have:=h j hj c
  cases c<;>exact this
theorem VB {bk bk':List Nat→Sh} (hbr:∀ b,Brs (nb false) (nb true) (mk b) (ps b)) (h1:∀ b,bk (nb b) = .pick (mk b) (ps b)) (h2:∀ b,bk' (nb b) = .pick (mk b) (ps b)):∀ (s j:Nat),j≤s→∀ b,cnt bk (.use (nb b)) j=cnt bk' (.use (nb b)) j
 | 0,j,hj,b=>by
  have:j=0:=by omega
  subst this
  rw [Wb,Wb]
 | s+1,j,hj,b=>by
  by_cases c:j≤s
  ·exact VB hbr h1 h2 s j c b
  ·have:j=s+1:=by omega
   subst this
   rw [Wy,Wy,h1,h2]
   exact Ux hbr (fun j hj b=>VB hbr h1 h2 s j hj b) b
def Xz (n2:List Nat) (nb:Bool→List Nat) (mk:Bool→List (List Nat)) (ps:Bool→List Sh):Prs:=(n2,.use (nb false))::YS nb mk ps
theorem VC {n2:List Nat} (hne:nb false≠nb true) (h2:∀ b,n2≠nb b) (b:Bool):((Xz n2 nb mk ps).find? fun q=>decide (q.1=nb b))=some (nb b,.pick (mk b) (ps b)):=by
 rw [Xz,List.find?_cons]
 rw [show decide ((n2,Sh.use (nb false)).1=nb b)=false from decide_eq_false (h2 b)]
 exact We hne mk ps b
theorem QT (n2:List Nat):((Xz n2 nb mk ps).find? fun q=>decide (q.1=n2))=some (n2,.use (nb false)):=by simp [Xz]
theorem YdI {n2:List Nat} (hne:nb false≠nb true) (h2:∀ b,n2≠nb b) (hb:∀ b,Brs (nb false) (nb true) (mk b) (ps b)):okB (Xz n2 nb mk ps):=by
 have hu:∀ b,okS (Xz n2 nb mk ps) (.use (nb b)):=fun b=>by rw [okS];exact ⟨_,VC hne h2 b⟩
 have key:∀ q∈Xz n2 nb mk ps,q=(n2,.use (nb false))∨∃ b,q=(nb b,.pick (mk b) (ps b)):=fun q hq=>by
  simp only [Xz,YS,List.mem_cons,List.not_mem_nil,or_false] at hq
  rcases hq with rfl | rfl | rfl
  ·exact .inl rfl
  ·exact .inr ⟨false,rfl⟩
  ·exact .inr ⟨true,rfl⟩
 refine ⟨by simp [Xz,YS],fun q hq=>?_,fun q hq=>?_,fun q hq=>?_⟩<;>rcases key q hq with rfl | ⟨b,rfl⟩
 ·exact hu false
 ·exact (Wn (hu false) (hu true) (hb b)).1
 ·simp [wt]
 ·exact (Wn (hu false) (hu true) (hb b)).2.1
 ·simp [dep]
 ·exact (Wn (hu false) (hu true) (hb b)).2.2
structure BkG (prs:Prs) (nb:Bool→List Nat) (mk:Bool→List (List Nat)) (ps:Bool→List Sh):Prop where
 ob:okB prs
 us:∀ b,okS prs (.use (nb b))
 ok:∀ b,okS prs (.pick (mk b) (ps b))∧wt (.pick (mk b) (ps b))≤24∧dep (.pick (mk b) (ps b))≤2
 cS:∀ b,cnt (bkO prs) (.pick (mk b) (ps b))=fS nb mk ps b
 cU:∀ b,cnt (bkO prs) (.use (nb b))=fU2 nb mk ps b
 one:∀ b,(prs.filter fun q=>decide (q.1=nb b))=[(nb b,.pick (mk b) (ps b))]
theorem bkg2 (hne:nb false≠nb true) (hb:∀ b,Brs (nb false) (nb true) (mk b) (ps b)):BkG (YS nb mk ps) nb mk ps:=by
 have hu:∀ b,okS (YS nb mk ps) (.use (nb b)):=fun b=>by rw [okS];exact ⟨_,We hne mk ps b⟩
 refine ⟨Yas hne hb,hu,fun b=>Wn (hu false) (hu true) (hb b),fun b=>rfl,fun b=>rfl,fun b=>?_⟩
 cases b
 ·simp [YS,Ne.symm hne]
 ·simp [YS,hne]
theorem bkg3 {n2:List Nat} (hne:nb false≠nb true) (h2:∀ b,n2≠nb b) (hb:∀ b,Brs (nb false) (nb true) (mk b) (ps b)):BkG (Xz n2 nb mk ps) nb mk ps:=by
 have hu:∀ b,okS (Xz n2 nb mk ps) (.use (nb b)):=fun b=>by rw [okS];exact ⟨_,VC hne h2 b⟩
 have e1:∀ b,bkO (Xz n2 nb mk ps) (nb b) = .pick (mk b) (ps b):=fun b=>(Wz (VC hne h2 b)).1
 have e2:∀ b,bkO (YS nb mk ps) (nb b) = .pick (mk b) (ps b):=fun b=>(Wz (We hne mk ps b)).1
 have uc:=fun s=>VB hb e1 e2 s
 refine ⟨YdI hne h2 hb,hu,fun b=>Wn (hu false) (hu true) (hb b),fun b=>?_,fun b=>?_,fun b=>?_⟩
 ·funext s
  exact Ux hb (fun j hj b=>uc s j hj b) b
 ·funext s
  exact uc s s (Nat.le_refl _) b
 ·rw [Xz,List.filter_cons]
  rw [if_neg (by simpa using h2 b)]
  cases b
  ·simp [YS,Ne.symm hne]
  ·simp [YS,hne]
end
theorem U6 (f:Nat→Int) {m k:Nat} (h:k≤m):(Yt f m).take k=Yt f k:=by
 unfold Yt
 rw [← List.map_take,List.take_range,Nat.min_eq_left h]
theorem Yb5 (f:Nat→Int) (m:Nat):Yt f (m+1) = .int (f 0)::Yt (fun k=>f (k+1)) m:=by
 unfold Yt
 rw [List.range_succ_eq_map,List.map_cons,List.map_map]
 rfl
theorem Yb6 (f:Nat→Int) (n:Nat):(Yt f (n+1)).drop n=[.int (f n)]:=by
 rw [Y2]
 have h:=List.drop_left (l₁:=Yt f n) (l₂:=[V.int (f n)])
 rw [Ys] at h
 exact h
def Rws (K:PySem.W.Frag) (H:Hp) (zs:List V) (prs:Prs):Prop:=zs.length=prs.length∧∀ (i:Nat) v q,zs[i]?=some v→prs[i]?=some q→∃ T a,v = .ref T∧SqT K H T [.str (S q.1),.ref a]∧DK K H a (kd q.2)
theorem Rws.tupk {K:PySem.W.Frag} {H H':Hp} {zs:List V} {prs:Prs} (h:Rws K H zs prs) (t:XC H H'):Rws K H' zs prs:=⟨h.1,fun i v q e1 e2=>by
 obtain ⟨T,a,k1,k2,k3⟩:=h.2 i v q e1 e2
 exact ⟨T,a,k1,t.sq k2,k3.tupk t⟩⟩
theorem Rws.snoc {K:PySem.W.Frag} {H:Hp} {zs:List V} {prs:Prs} (h:Rws K H zs prs) {T a:Addr} {q:List Nat×Sh} (hT:SqT K H T [.str (S q.1),.ref a]) (ha:DK K H a (kd q.2)):Rws K H (zs++[.ref T]) (prs++[q]):=by
 refine ⟨by simp [h.1],fun i v q' e1 e2=>?_⟩
 by_cases c:i<zs.length
 ·rw [List.getElem?_append_left c] at e1
  rw [List.getElem?_append_left (by have:=h.1;omega)] at e2
  exact h.2 i v q' e1 e2
 ·have hl:=h.1
  have:=(List.getElem?_eq_some_iff.mp e1).1
  rw [List.length_append,List.length_singleton] at this
  have hi:i=zs.length:=by omega
  subst hi
  rw [List.getElem?_append_right (Nat.le_refl _),Nat.sub_self] at e1
  rw [hl,List.getElem?_append_right (Nat.le_refl _),Nat.sub_self] at e2
  cases Option.some.inj e1
  cases Option.some.inj e2
  exact ⟨T,a,rfl,hT,ha⟩
theorem Rws.cons {K:PySem.W.Frag} {H:Hp} {zs:List V} {prs:Prs} (h:Rws K H zs prs) {T a:Addr} {q:List Nat×Sh} (hT:SqT K H T [.str (S q.1),.ref a]) (ha:DK K H a (kd q.2)):Rws K H (.ref T::zs) (q::prs):=by
 refine ⟨by simp [h.1],fun i v q' e1 e2=>?_⟩
 cases i with
 | zero =>
  cases Option.some.inj e1
  cases Option.some.inj e2
  exact ⟨T,a,rfl,hT,ha⟩
 | succ i=>exact h.2 i v q' (by simpa using e1) (by simpa using e2)
def bkD (prs:Prs):List PyData:=prs.map fun q => .tuple [.str (S q.1),kd q.2]
theorem Rws.dens {K:PySem.W.Frag} {H:Hp}:∀ {zs:List V} {prs:Prs},(∀ q∈prs,PyData.strOk (S q.1)=true)→Rws K H zs prs→Dens K H zs (bkD prs)
 | [],[],_,_ => .nil
 | v::zs,q::prs,hs,h=>by
  obtain ⟨T,a,rfl,k2,k3⟩:=h.2 0 v q rfl rfl
  exact .cons (.tup k2 (.cons (.str _ (hs q (.head _))) (.cons k3.den .nil))) (Rws.dens (fun q' hq=>hs q' (.tail _ hq)) ⟨by simpa using h.1,fun i v' q' e1 e2=>h.2 (i+1) v' q' (by simpa using e1) (by simpa using e2)⟩)
 | [],_::_,_,h=>by have:=h.1;simp at this
 | _::_,[],_,h=>by have:=h.1;simp at this
theorem U7:∀ {prs:Prs},(∀ q∈prs,(kd q.2).depth≤8)→PyData.depthAll (bkD prs)≤9
 | [],_=>by simp [bkD,PyData.depthAll]
 | q::prs,h=>by
  have h1:=h q (.head _)
  have h2:=U7 (prs:=prs) fun q' hq=>h q' (.tail _ hq)
  unfold bkD at h2 ⊢
  rw [List.map_cons]
  simp only [PyData.depthAll,PyData.depth]
  omega
theorem Rws.kdep {K:PySem.W.Frag} {H:Hp} {zs:List V} {prs:Prs} (h:Rws K H zs prs):∀ q∈prs,(kd q.2).depth≤8:=fun q hq=>by
 obtain ⟨i,hi,rfl⟩:=List.mem_iff_getElem.mp hq
 have hl:=h.1
 obtain ⟨T,a,_,_,k⟩:=h.2 i _ _ (List.getElem?_eq_getElem (by omega)) (List.getElem?_eq_getElem hi)
 exact k.dp
inductive AllR {α:Type} (Rel:V→α→Prop):List V→List α→Prop
 | nil:AllR Rel [] []
 | cons {v:V} {q:α} {vs:List V} {qs:List α}:Rel v q→AllR Rel vs qs→AllR Rel (v::vs) (q::qs)
theorem AllR.snoc {α:Type} {Rel:V→α→Prop} {y:V} {q:α} (h2:Rel y q):∀ {vs:List V} {qs:List α},AllR Rel vs qs→AllR Rel (vs++[y]) (qs++[q])
 | _,_,.nil => .cons h2 .nil
 | _,_,.cons a b => .cons a (AllR.snoc h2 b)
theorem AllR.len {α:Type} {Rel:V→α→Prop}:∀ {vs:List V} {qs:List α},AllR Rel vs qs→vs.length=qs.length
 | _,_,.nil=>rfl
 | _,_,.cons _ b=>by rw [List.length_cons,List.length_cons,AllR.len b]
theorem Yb7 {α:Type} {src:List (Option Nat)} {te:TE} {σ:St} {H:Hp} {Q:VK} {K:PySem.W.Frag} {tl:TE} {tt:TT} {xs:List V} {ps:List α} (hxp:xs.length=ps.length) (p:α→Bool) (Rel:V→α→Prop) (ha:∀ R:V→Hp→Prop,(∀ a H1,Yl H H1→SqL K H1 a xs→R (.ref a) H1)→tl σ H R) (hlen:xs.length≤100000)
  (test:∀ (i:Nat) x q H',xs[i]?=some x→ps[i]?=some q→Yl H H'→∀ R:Bool→Hp→Prop,(∀ H'',Yl H' H''→R (p q) H'')→tt (some x::Yy src σ) H' R)
  (step:∀ (i:Nat) x q H',xs[i]?=some x→ps[i]?=some q→Yl H H'→∀ R:VK,(∀ y H'',Rel y q→Yl H' H''→R y H'')→te (some x::Yy src σ) H' R)
  (fin:∀ D zs H',H D=none→Yl H H'→H' D=some (.lst zs)→AllR Rel zs (ps.filter p)→Q (.ref D) H'):tLC (none::src) (Wq K tl) (Yv 0) tt te σ H Q:=by
 refine ha _ fun a H1 s1 hS=>⟨a,rfl,⟨xs,hS⟩,fun D hD=>?_⟩
 have h6:100000<sizeLine:=by decide
 refine YcV (Ws.imp fun H' (e:Yl H1 H')=>e.seq hS) (fun i zs σ' H'=>AllR Rel zs ((ps.take i).filter p)∧(∃ o,σ'=o::Yy src σ)∧Yl H1 H'∧H' D=some (.lst zs)) ⟨by simp;exact .nil,⟨none,rfl⟩,.upd_new hD _,Yc⟩ (fun i zs σ' H' q=>⟨q.2.2.1,q.2.2.2⟩) ?_ ?_
 ·rintro i zs σ' H' x hx ⟨hz,⟨o,rfl⟩,sm,hd⟩
  have hi:=(List.getElem?_eq_some_iff.mp hx).1
  have hq:ps[i]?=some (ps[i]'(by omega)):=List.getElem?_eq_getElem _
  generalize ps[i]'(by omega)=qq at hq
  have hzl:=hz.len
  have hfl:=List.length_filter_le p (ps.take i)
  rw [List.length_take] at hfl
  show tt (some x::Yy src σ) H' _
  refine test i x qq H' hx hq (s1.trans sm) _ fun H2 s2=>?_
  cases e:p qq with
  | true =>
   refine iteT ?_
   refine step i x qq H2 hx hq ((s1.trans sm).trans s2) _ fun y H3 hy s3=>⟨s3 _ _ (s2 _ _ hd),by omega,?_,⟨_,rfl⟩,.upd_over hD ((sm.trans s2).trans s3) _,Yc⟩
   rw [Xu hq,List.filter_append]
   have:[qq].filter p=[qq]:=by simp [e]
   rw [this]
   exact hz.snoc hy
  | false =>
   refine iteF ⟨?_,⟨_,rfl⟩,sm.trans s2,s2 _ _ hd⟩
   rw [Xu hq,List.filter_append]
   have:[qq].filter p=[]:=by simp [e]
   rw [this,List.append_nil]
   exact hz
 ·rintro zs σ' H' ⟨hz,_,sm,hd⟩
  rw [hxp,List.take_length] at hz
  exact fin D zs H' (s1.free hD) (s1.trans sm) hd hz
def nbc (c:Int) (b:Bool):List Nat:=wd c (if b then 1 else 0)
theorem Yel (c:Int):nbc c false≠nbc c true:=fun z=>absurd (QO (k:=0) (k':=1) (by decide) (by decide) z) (by decide)
theorem Yat (c:Int) (b:Bool):wd c 2≠nbc c b:=by
 cases b
 ·exact fun z=>absurd (QO (k:=2) (k':=0) (by decide) (by decide) z) (by decide)
 ·exact fun z=>absurd (QO (k:=2) (k':=1) (by decide) (by decide) z) (by decide)
theorem W6 (c:Int) (b:Bool):PyData.strOk (S (nbc c b))=true:=W4 (VR _ _)
theorem Y5.keep {H H':Hp} {D:Addr} (h:Y5 H D) (s:Yl H H'):Y5 H' D:=by
 obtain ⟨xs,h1,h2⟩:=h
 exact ⟨xs,s _ _ h1,h2⟩
theorem Yau {H:Hp} {D N:Addr} {x:Str} {r:List V} (f:Y5 H D) (n:H N=some (.lst (.str x::r))):N≠D:=fun z=>by
 obtain ⟨xs,h,_⟩:=f
 rw [z,h] at n
 have n:=HO.lst.inj (Option.some.inj n)
 cases xs with
 | nil=>simp [Wk] at n
 | cons a b=>simp [Wk] at n
def PvR (K:PySem.W.Frag) (D N Sl:Addr) (c:Int) (B:Addr) (i:Nat) (zs:List V) (H':Hp):Prop:=∃ prs:Prs,prs.length=i∧(∀ (j:Nat) q,prs[j]?=some q→∃ mk ps,q=(wd c j,.pick mk ps)∧Brs (wd c 0) (wd c 1) mk ps)∧Rws K H' zs prs∧H' B=some (.lst zs)∧Y5 H' D∧Nam H' N c∧H' Sl=some (.lst [.str (S (wd c 0)),.str (S (wd c 1))])
theorem PvR.len {K:PySem.W.Frag} {D N Sl B:Addr} {c:Int} {i:Nat} {zs:List V} {H':Hp} (h:PvR K D N Sl c B i zs H'):zs.length=i:=by
 obtain ⟨prs,h1,_,h3,_⟩:=h
 rw [h3.1,h1]
theorem dk_u {K:PySem.W.Frag} {H:Hp} {p:Addr} {x:List Nat} (h:H p=some (.tup [.str "use",.str (S x)])) (hs:PyData.strOk (S x)=true):DK K H p (kd (.use x)):=by
 refine ⟨?_,WN _,by simp [kd,PyData.depth,PyData.depthAll]⟩
 rw [kd]
 exact .tup (SqT.of h) (.cons (.str _ (by decide +kernel)) (.cons (.str _ hs) .nil))
theorem third {n2:List Nat} {nb:Bool→List Nat} {mk:Bool→List (List Nat)} {ps:Bool→List Sh} (hne:nb false≠nb true) (h2:∀ b,n2≠nb b) (hb:∀ b,Brs (nb false) (nb true) (mk b) (ps b)) (n:Nat):XS ([V.int 0]++Yt (fU2 nb mk ps false) (n+2)) none (some ((n:Int)+1))=Yt (cnt (bkO (Xz n2 nb mk ps)) (.use n2)) (n+1):=by
 have e:Yt (cnt (bkO (Xz n2 nb mk ps)) (.use n2)) (n+2+1)=[V.int 0]++Yt (fU2 nb mk ps false) (n+2):=by
  rw [Yb5,Wb]
  have:(fun k=>cnt (bkO (Xz n2 nb mk ps)) (.use n2) (k+1))=fU2 nb mk ps false:=by
   funext k
   rw [Wy,(Wz (QT n2)).1,← (bkg3 hne h2 hb).cU false]
  rw [this]
  rfl
 rw [← e,show (n:Int)+1=((n+1:Nat):Int) by omega,VM,U6 _ (by omega)]
theorem YcH {k:Nat} {Z5 Z1 Z2 Z4 Z3 Z0:Addr} (F_counted:g.Fn k "counted" ["book","shape","size"] (Z3h g.K (Cs.mk Z0 Z2 Z4 Z1 Z3) 160)) (Z35:g.Fn k "counts_to" ["book","shape","size"] (Z2E g.K (Cs.mk Z0 Z2 Z4 Z1 Z3) 160)) (F_law_feed:g.Fn k "_law_feed" ["_law_script","_law_many"] (Z34 g.K)) (ZT:g.Fn k "_law_next" ["_law_feed_here"] (Z18 g.K)) (Z1E:g.Fn k "_law_words" ["_law_cell","_law_many"] (Z1o)) (Z1q:g.Fn k "_law_counts" ["_law_found","_law_due_here"] (Z2i g.K)) (Z3p:g.Fn k "_law_branches" ["_law_feed_here","_law_names"] (Z1t g.K)) (F_law_due:g.Fn k "_law_due" ["_law_book","_law_size"] (Z3k g.K)) (b_list:g.mg "list"=none):VW g k ["_law_script","_law_feed_here","_law_cell","_law_size","_law_names","_law_book","_law_shapes","_law_uses","_law_due_here","_law_handed","_law_name","_law_shape"] "law" Qg (Ue g.K):=by
 refine fun f_ cdv A outer s H vs Q E hr h=>?_
 obtain ⟨a,ns,rfl,hS,hl,q⟩:=h
 have hu:=XU hr
 refine ⟨_,(@Yg _ _ _ _ _ (@Yp _ _ (1) _ _ _ _ XD.nd rfl (.inr rfl) (@YE _ _ _ _ _ _ _ _ _ _ _ _ F_law_feed hr (@Ya _ _ _ _ _ (pv 0) (@Ya _ _ _ _ _ Yf Yd (by rfl)) (by rfl)) (by omega) (by rfl) (by rfl) (by decide) (by rfl) (by rfl)) (by rfl) (by first | exact .inl rfl | exact .inr rfl | assumption)) (@Yg _ _ _ _ _ (@Yp _ _ (2) _ _ _ _ XD.nd rfl (.inl rfl) (@YE _ _ _ _ _ _ _ _ _ _ _ _ ZT hr (@Ya _ _ _ _ _ (pv 1) Yd (by rfl)) (by omega) (by rfl) (by rfl) (by decide) (by rfl) (by rfl)) (by rfl) (by first | exact .inl rfl | exact .inr rfl | assumption)) (@Yg _ _ _ _ _ (@Yp _ _ (3) _ _ _ _ XD.nd rfl (.inl rfl) (@Yk _ _ _ _ _ _ _ _ YW (pv 2) Yf) (by rfl) (by first | exact .inl rfl | exact .inr rfl | assumption)) (@Yg _ _ _ _ _ (@Yp _ _ (4) _ _ _ _ XD.nd rfl (.inr rfl) (@YE _ _ _ _ _ _ _ _ _ _ _ _ Z1E hr (@Ya _ _ _ _ _ (@YE _ _ _ _ _ _ _ _ _ _ _ _ ZT hr (@Ya _ _ _ _ _ (pv 1) Yd (by rfl)) (by omega) (by rfl) (by rfl) (by decide) (by rfl) (by rfl)) (@Ya _ _ _ _ _ Yf Yd (by rfl)) (by rfl)) (by omega) (by rfl) (by rfl) (by decide) (by rfl) (by rfl)) (by rfl) (by first | exact .inl rfl | exact .inr rfl | assumption)) (@Yg _ _ _ _ _ (@VN _ (5) _ _ _ _ _ _ _ _ _ ([none,some 1,some 4]) ((["_law_name","_law_feed_here","_law_names"]:List Str)) _ (Yv 0) _ _ XD.nd rfl (.inl rfl) (.own (.cap (i:=1) rfl rfl (by first | exact .inl rfl | exact .inr rfl) (.cap (i:=4) rfl rfl (by first | exact .inl rfl | exact .inr rfl) .nil))) rfl (@Xr _ _ _ _ (@WC _ _ _ _ _ _ _ _ _ _ WY (pv 4) WW (@WX _ _ _ Yf))) (fun cl C s₀ H₀ fp pn=>(@Yn _ _ (0) _ (show List.Nodup (["_law_name","_law_feed_here","_law_names"]:List Str) by decide +kernel) rfl (.inl rfl) (.inr rfl))) (fun cl C s₀ H₀ fp pn=>Xj) (fun cl C s₀ H₀ fp pn=>(@Xs _ _ _ _ _ (@Ya _ _ _ _ _ (pv 0) (@Ya _ _ _ _ _ (@YE _ _ _ _ _ _ _ _ _ _ _ _ Z3p hr (@Ya _ _ _ _ _ (pv 1) (@Ya _ _ _ _ _ (pv 2) Yd (by rfl)) (by rfl)) (by omega) (by rfl) (by rfl) (by decide) (by rfl) (by rfl)) Yd (by rfl)) (by rfl)))) (by intro x hx;simp at hx;first | (subst hx;exact .inl rfl) | (rcases hx with rfl | rfl<;>exact .inl rfl) | (rcases hx with rfl | rfl | rfl<;>exact .inl rfl) | (rcases hx with rfl | rfl | rfl | rfl<;>exact .inl rfl) | (rcases hx with rfl | rfl | rfl | rfl | rfl<;>exact .inl rfl)) (by rfl) (by decide) (by decide +kernel) (by intro _;rfl) (by rfl) (by first | exact .inl rfl | exact .inr rfl | assumption)) (@Yg _ _ _ _ _ (@YdT _ _ _ _ _ _ (@YE _ _ _ _ _ _ _ _ _ _ _ _ F_law_due hr (@Ya _ _ _ _ _ (pv 5) (@Ya _ _ _ _ _ (pv 3) Yd (by rfl)) (by rfl)) (by omega) (by rfl) (by rfl) (by decide) (by rfl) (by rfl)) (@XZ _ _ _ _ _ (2) rfl (@YL _ _ _ _ _ (@Yn _ _ (6) _ XD.nd rfl (.inl rfl) (by first | exact .inl rfl | exact .inr rfl | assumption)) (@YL _ _ _ _ _ (@Yn _ _ (7) _ XD.nd rfl (.inl rfl) (by first | exact .inl rfl | exact .inr rfl | assumption)) XO (by rfl)) (by rfl)) (by rfl) (by rfl)) (by rfl) (by rfl) (by rfl)) (@Yg _ _ _ _ _ (@Y9 _ _ _ _ _ _ _ _ (@Yz _ _ _ _ _ _ _ _ Xh (@Yk _ _ _ _ _ _ _ _ YW (@Yk _ _ _ _ _ _ _ _ Y4 (pv 2) Yf) Yf) Yf (YD _)) (@Yg _ _ _ _ _ (@Yp _ _ (5) _ _ _ _ XD.nd rfl (.inl rfl) (@Yk _ _ _ _ _ _ _ _ Qq (@XL _ _ _ _ (@Ya _ _ _ _ _ (@Xs _ _ _ _ _ (@Ya _ _ _ _ _ (@Yx _ _ _ _ _ _ _ YM (pv 4) Yf (fun _ _=>rfl)) (@Ya _ _ _ _ _ (@Xs _ _ _ _ _ (@Ya _ _ _ _ _ Xg (@Ya _ _ _ _ _ (@Yx _ _ _ _ _ _ _ YM (pv 4) Yf (fun _ _=>rfl)) Yd (by rfl)) (by rfl))) Yd (XW _ _ _ _ _)) (by rfl))) Yd (XW _ _ _ _ _))) (pv 5)) (by rfl) (by first | exact .inl rfl | exact .inr rfl | assumption)) (@Yg _ _ _ _ _ (@Yp _ _ (8) _ _ _ _ XD.nd rfl (.inl rfl) (@WC _ _ _ _ _ _ _ _ _ _ WY (@Yk _ _ _ _ _ _ _ _ Qq (@XL _ _ _ _ (@Ya _ _ _ _ _ Yf Yd (by rfl))) (@X7 _ _ _ _ _ _ (XU hr) (pv 7) (@Yx _ _ _ _ _ _ _ YM (pv 4) Yf (fun _ _=>rfl)) (fun _ _=>rfl))) WW (@WX _ _ _ (@Yk _ _ _ _ _ _ _ _ YJ (pv 3) Yf))) (by rfl) (by first | exact .inl rfl | exact .inr rfl | assumption)) (@Yi _ _ _ (@Y9 _ _ _ _ _ _ _ _ (@Vm _ _ _ _ (@Vl _ _ _ (@YE _ _ _ _ _ _ _ _ _ _ _ _ Z1q hr (@Ya _ _ _ _ _ (@YE _ _ _ _ _ _ _ _ _ _ _ _ Z35 hr (@Ya _ _ _ _ _ (pv 5) (@Ya _ _ _ _ _ (@Xs _ _ _ _ _ (@Ya _ _ _ _ _ Xg (@Ya _ _ _ _ _ (@Yx _ _ _ _ _ _ _ YM (pv 4) Yf (fun _ _=>rfl)) Yd (by rfl)) (by rfl))) (@Ya _ _ _ _ _ (pv 3) Yd (by rfl)) (XW _ _ _ _ _)) (by rfl)) (by omega) (by rfl) (by rfl) (by decide) (by rfl) (by rfl)) (@Ya _ _ _ _ _ (pv 8) Yd (by rfl)) (by rfl)) (by omega) (by rfl) (by rfl) (by decide) (by rfl) (by rfl)) (by intro _;rfl))) (@Yi _ _ _ (@Yo _ _ _ _ VE)) YR)))) YR) (@Yg _ _ _ _ _ (@Yp _ _ (9) _ _ _ _ XD.nd rfl (.inl rfl) (@Uc _ _ _ _ _ _ _ _ _ _ b_list Vt (@Ya _ _ _ _ _ (pv 5) Yd (by rfl)) (by decide +kernel) (by rfl) (by rfl) (by decide) (by decide) (by rfl) (by rfl)) (by rfl) (by first | exact .inl rfl | exact .inr rfl | assumption)) (@Yg _ _ _ _ _ (@Xn _ _ _ _ _ _ _ _ PassesOwn.never rfl (@Xr _ _ _ _ (@WC _ _ _ _ _ _ _ _ _ _ WY (pv 4) WW (@WX _ _ _ Yf))) (@Yn _ _ (10) _ XD.nd rfl (.inr rfl) (by first | exact .inl rfl | exact .inr rfl | assumption)) (@Yg _ _ _ _ _ (@Y9 _ _ _ _ _ _ _ _ (@Vm _ _ _ _ (@Vl _ _ _ (@YE _ _ _ _ _ _ _ _ _ _ _ _ Z1q hr (@Ya _ _ _ _ _ (@YE _ _ _ _ _ _ _ _ _ _ _ _ Z35 hr (@Ya _ _ _ _ _ (pv 9) (@Ya _ _ _ _ _ (@Xs _ _ _ _ _ (@Ya _ _ _ _ _ Xg (@Ya _ _ _ _ _ (pv 10) Yd (by rfl)) (by rfl))) (@Ya _ _ _ _ _ (pv 3) Yd (by rfl)) (XW _ _ _ _ _)) (by rfl)) (by omega) (by rfl) (by rfl) (by decide) (by rfl) (by rfl)) (@Ya _ _ _ _ _ (@WC _ _ _ _ _ _ _ _ _ _ WY (@X7 _ _ _ _ _ _ (XU hr) (pv 7) (pv 10) (fun _ _=>rfl)) WW (@WX _ _ _ (@Yk _ _ _ _ _ _ _ _ YJ (pv 3) Yf))) Yd (by rfl)) (by rfl)) (by omega) (by rfl) (by rfl) (by decide) (by rfl) (by rfl)) (by intro _;rfl))) (@Yi _ _ _ (@Yo _ _ _ _ VE)) YR) (@Yg _ _ _ _ _ (@Yp _ _ (11) _ _ _ _ XD.nd rfl (.inl rfl) (@Yx _ _ _ _ _ _ _ YM (@Wh _ _ _ _ _ _ _ ([none,some 10]) ((["_law_row","_law_name"]:List Str)) _ (Yv 0) _ _ (.own (.cap (i:=10) rfl rfl (by first | exact .inl rfl | exact .inr rfl) .nil)) rfl (@Xr _ _ _ _ (pv 5)) (fun cl C s₀ H₀ fp pn=>(@Yn _ _ (0) _ (show List.Nodup (["_law_row","_law_name"]:List Str) by decide +kernel) rfl (.inl rfl) (.inr rfl))) (fun cl C s₀ H₀ fp pn=>(@Ydi _ _ _ (@Yz _ _ _ _ _ _ _ _ Xh (@Yx _ _ _ _ _ _ _ (Yaf (K:=g.K)) (pv 0) Yf (fun _ _=>rfl)) (pv 1) (YD _)))) (fun cl C s₀ H₀ fp pn=>(@Yx _ _ _ _ _ _ _ (Yaf (K:=g.K)) (pv 0) Yf (fun _ _=>rfl))) (by intro x hx;simp at hx;first | (subst hx;exact .inl rfl) | (rcases hx with rfl | rfl<;>exact .inl rfl) | (rcases hx with rfl | rfl | rfl<;>exact .inl rfl) | (rcases hx with rfl | rfl | rfl | rfl<;>exact .inl rfl) | (rcases hx with rfl | rfl | rfl | rfl | rfl<;>exact .inl rfl)) (by rfl) (by decide) (by decide +kernel) (by intro _;rfl)) Yf (fun _ _=>rfl)) (by rfl) (by first | exact .inl rfl | exact .inr rfl | assumption)) (@Yi _ _ _ (@Y9 _ _ _ _ _ _ _ _ (@Vm _ _ _ _ (@Vl _ _ _ (@YE _ _ _ _ _ _ _ _ _ _ _ _ Z1q hr (@Ya _ _ _ _ _ (@XL _ _ _ _ (@Ya _ _ _ _ _ (@YE _ _ _ _ _ _ _ _ _ _ _ _ F_counted hr (@Ya _ _ _ _ _ (pv 9) (@Ya _ _ _ _ _ (pv 11) (@Ya _ _ _ _ _ (pv 3) Yd (by rfl)) (by rfl)) (by rfl)) (by omega) (by rfl) (by rfl) (by decide) (by rfl) (by rfl)) Yd (by rfl))) (@Ya _ _ _ _ _ (@WC _ _ _ _ _ _ _ _ _ _ WY (@X7 _ _ _ _ _ _ (XU hr) (pv 6) (pv 10) (fun _ _=>rfl)) (@WX _ _ _ (pv 3)) WW) Yd (by rfl)) (Ycq _ _ _ _)) (by omega) (by rfl) (by rfl) (by decide) (by rfl) (by rfl)) (by intro _;rfl))) (@Yi _ _ _ (@Yo _ _ _ _ VE)) YR)))) (by intro _;rfl)) (@Yi _ _ _ (@Yo _ _ _ _ (@Q9 _ _ _ _ _ _ _ _ (Yd4 hr.units) (pv 9) (pv 5) (YD _))))))))))))),?_⟩
 refine cut4 (fun σ H'=>∃ (D N:Addr) (cc:Nat) (c:Int) (n:Nat),n≤8∧Y5 H' D∧Nam H' N c∧σ=[some (.ref a),some (.ref D),some (.int cc),some (.int n),some (.ref N),none,none,none,none,none,none,none]) ?_ (fun N' hN'=>?_)
 rotate_left
 ·walk_at "rd"
  refine ⟨a,ns,36,rfl,hS,hl,by decide,fun D H1 f1=>⟨D,rfl,f1,fun y H2 hy s2 f2=>⟨_,rfl,by decide,D,rfl,f2,fun y2 H3 hy2 s3 f3=>⟨y2,3,rfl,by decide,fun N H4 s4 gN hN=>?_⟩⟩⟩⟩
  have:=hN' [some (.ref a),some (.ref D),some (.int y),some (.int ((y%9:Nat))),some (.ref N),none,none,none,none,none,none,none] H4 ⟨D,N,y,y2,y%9,by omega,f3.keep s4,hN,rfl⟩
  rw [show ((y%9:Nat):Int)=(y:Int)%9 by omega] at this
  exact this
 rintro σ H1 ⟨D,N,cc,c,n,hn,f1,hN,rfl⟩
 refine WF (fun σ H'=>∃ (B:Addr) (mk:Bool→List (List Nat)) (ps:Bool→List Sh),BkL g.K H' B (nbc c) mk ps∧Nam H' N c∧σ=[some (.ref a),some (.ref D),some (.int cc),some (.int n),some (.ref N),some (.ref B),none,none,none,none,none,none]) ?_ (fun N' hN'=>?_)
 rotate_left
 ·walk_at "rd"
  have cl:XS ((List.range 3).map fun k=>V.str (S (wd c k))) none (some 2)=[.str (S (wd c 0)),.str (S (wd c 1))]:=(VM _ 2).trans rfl
  refine Us (K:=g.K) (fun b xs H2=>Yl H1 H2∧xs=[.str (S (wd c 0)),.str (S (wd c 1))]∧H2 b=some (.lst xs)) (fun R r=>?_) ?_
  ·walk_at "rd"
   exact ⟨_,SqL.of hN,fun p hp=>r _ _ _ ⟨.upd_new hp _,cl,Yc⟩⟩
  ·rintro Sl xs H2 ⟨s2,rfl,hSl⟩
   have f2:=f1.keep s2
   have hN2:Nam H2 N c:=s2 _ _ hN
   have nND:N≠D:=Yau f2 hN2
   have nSD:Sl≠D:=Yau f2 hSl
   refine ⟨SqL.of hSl,by simp,fun B i zs H'=>PvR g.K D N Sl c B i zs H',?_,?_,?_,?_⟩
   ·intro B gB
    have w:=Yl.upd_new gB (.lst [])
    exact ⟨[],rfl,fun j q h=>by simp at h,⟨rfl,fun i v q h=>by simp at h⟩,Yc,f2.keep w,w _ _ hN2,w _ _ hSl⟩
   ·intro B i zs H' gB h
    have hlen:=h.len
    obtain ⟨prs,_,_,_,h4,_,_,h7⟩:=h
    exact ⟨hlen,h4,SqL.of h7⟩
   ·intro B i x zs H' gB hx h R r
    have hlen:=h.len
    obtain ⟨prs,h1,h2,h3,h4,h5,h6,h7⟩:=h
    have hi:i<2:=(List.getElem?_eq_some_iff.mp hx).1
    have ex:x = .str (S (wd c i)):=by
     have:i=0∨i=1:=by omega
     rcases this with rfl | rfl<;>exact (Option.some.inj hx).symm
    subst ex
    have nBD:B≠D:=fun z=>by
     obtain ⟨ys,hy⟩:=f2.lst
     rw [z,hy] at gB;cases gB
    have nBN:N≠B:=Yh hN2 gB
    have nBS:Sl≠B:=Yh hSl gB
    walk_at "rd"
    refine ⟨D,N,c,rfl,h5,h6,fun p mk ps H3 s3 f3 br dk=>⟨few (by decide),fun T gT=>?_⟩⟩
    have w:=Yl.upd_new gT (.tup [.str (S (wd c i)),.ref p])
    obtain ⟨ys,hys⟩:=h5.lst
    have t1:=Yaq s3 hys
    have hB3:=s3 _ _ nBD h4
    have t2:XC (upd H3 T (.tup [.str (S (wd c i)),.ref p])) (upd (upd H3 T (.tup [.str (S (wd c i)),.ref p])) B (.lst (zs++[.ref T]))):=Xx (fun b o hb e=>by rw [Yb hb];exact e) (w _ _ hB3) (by intro xs z;cases z) (by intro o v z;cases z)
    refine r _ _ (w _ _ hB3) ⟨prs++[(wd c i,.pick mk ps)],by simp [h1],fun j q hj=>?_,((((h3.tupk t1).tupk (YK w)).snoc (q:=(wd c i,.pick mk ps)) (SqT.of Yc) (dk.keep w))).tupk t2,Yc,?_,?_,?_⟩
    ·by_cases cj:j<prs.length
     ·rw [List.getElem?_append_left cj] at hj
      exact h2 j q hj
     ·have:=(List.getElem?_eq_some_iff.mp hj).1
      rw [List.length_append,List.length_singleton] at this
      have ej:j=prs.length:=by omega
      subst ej
      rw [List.getElem?_append_right (Nat.le_refl _),Nat.sub_self] at hj
      cases Option.some.inj hj
      exact ⟨mk,ps,by rw [h1],br⟩
    ·obtain ⟨xs,k1,k2⟩:=f3
     exact ⟨xs,by rw [Yb (Ne.symm nBD)];exact w _ _ k1,k2⟩
    ·show upd _ _ _ N=_
     rw [Yb nBN];exact w _ _ (s3 _ _ nND h6)
    ·rw [Yb nBS];exact w _ _ (s3 _ _ nSD h7)
   ·intro B zs H' gB h
    obtain ⟨prs,h1,h2,h3,h4,h5,h6,h7⟩:=h
    match prs,h1,h2,h3 with
    | [q0,q1],_,h2,h3 =>
     obtain ⟨mk0,ps0,rfl,br0⟩:=h2 0 q0 rfl
     obtain ⟨mk1,ps1,rfl,br1⟩:=h2 1 q1 rfl
     refine hN' _ _ ⟨B,fun b=>if b then mk1 else mk0,fun b=>if b then ps1 else ps0,⟨⟨zs,h4,h3.1,h3.2⟩,fun b=>?_,Yel c⟩,h6,rfl⟩
     cases b
     ·exact br0
     ·exact br1
 rintro σ H2 ⟨B,mk,ps,hB,hN2,rfl⟩
 refine WF (fun σ H'=>∃ Sd Ud A L,DSt (fS (nbc c) mk ps) (fU2 (nbc c) mk ps) (nbc c) H2 H' Sd Ud A L (fun _=>n+1) (fun _=>n+2)∧σ=[some (.ref a),some (.ref D),some (.int cc),some (.int n),some (.ref N),some (.ref B),some (.ref Sd),some (.ref Ud),none,none,none,none]) ?_ (fun N' hN'=>?_)
 rotate_left
 ·walk_at "rd"
  refine ⟨B,n,nbc c,mk,ps,rfl,by omega,hB,fun t Sd Ud A L H3 d ht=>?_⟩
  exact ⟨t,rfl,_,SqT.of ht,rfl,_,_,rfl,_,_,rfl,rfl,hN' _ _ ⟨Sd,Ud,A,L,d,rfl⟩⟩
 rintro σ H3 ⟨Sd,Ud,A,L,d3,rfl⟩
 have hN3:Nam H3 N c:=d3.fr _ _ hN2
 have hne:=hB.ne
 obtain ⟨vs,hBv,hvl,hve⟩:=hB.bk
 have rw2:Rws g.K H2 vs (YS (nbc c) mk ps):=⟨hvl,hve⟩
 refine WF (fun σ H'=>∃ (B':Addr) (ws:List V) (prs:Prs) (o8:Option V),Yl H3 H'∧H' B'=some (.lst ws)∧Rws g.K H' ws prs∧(∀ q∈prs,PyData.strOk (S q.1)=true)∧prs.length≤3∧BkG prs (nbc c) mk ps∧σ=[some (.ref a),some (.ref D),some (.int cc),some (.int n),some (.ref N),some (.ref B'),some (.ref Sd),some (.ref Ud),o8,none,none,none]) ?_ (fun N' hN'=>?_)
 rotate_left
 ·walk_at "rd"
  refine ⟨YV (by decide) (by decide),by decide,W8 (fun z=>?_) (fun z=>?_)⟩
  ·have e0:nbc c false=wd c 0:=rfl
   refine ⟨_,SqL.of hN3,.str (S (wd c 2)),Yq (j:=2) rfl,_,SqL.of hN3,.str (S (nbc c false)),Yq (j:=0) rfl,few (by decide),fun p gp=>⟨few (by decide),fun p1 g1=>⟨few (by decide),fun p2 g2=>?_⟩⟩⟩
   have w1:=Yl.upd_new gp (.tup [V.str (Str.ofString "use"),.str (S (nbc c false))])
   have w2:=Yl.upd_new g1 (.tup [.str (S (wd c 2)),V.ref p])
   have w3:=Yl.upd_new g2 (.lst [V.ref p1])
   have w:=(w1.trans w2).trans w3
   have x1:=(w2.trans w3) _ _ (Yc (H:=H3) (a:=p) (o := .tup [V.str (Str.ofString "use"),.str (S (nbc c false))]))
   have x2:=w3 _ _ (Yc (a:=p1) (o := .tup [.str (S (wd c 2)),V.ref p]))
   have x3:=Yc (H:=upd (upd H3 p (.tup [V.str (Str.ofString "use"),.str (S (nbc c false))])) p1 (.tup [.str (S (wd c 2)),V.ref p])) (a:=p2) (o := .lst [V.ref p1])
   clear w1 w2 w3
   generalize upd (upd (upd H3 p (.tup [V.str (Str.ofString "use"),.str (S (nbc c false))])) p1 (.tup [.str (S (wd c 2)),V.ref p])) p2 (.lst [V.ref p1])=H4 at w x1 x2 x3 ⊢
   have hB4:=w _ _ (d3.fr _ _ hBv)
   have hvl2:vs.length=2:=hvl
   refine ⟨_,x3,_,hB4,few (by simp [hvl2]),fun p3 g3=>⟨few (by decide),fun p4 g4=>?_⟩⟩
   have y1:=Yl.upd_new g3 (.lst ([V.ref p1]++vs))
   have y2:=Yl.upd_new g4 (.lst [V.int 0])
   have y:=y1.trans y2
   have z1:=y2 _ _ (Yc (H:=H4) (a:=p3) (o := .lst ([V.ref p1]++vs)))
   have z2:=Yc (H:=upd H4 p3 (.lst ([V.ref p1]++vs))) (a:=p4) (o := .lst [V.int 0])
   clear y1 y2
   generalize upd (upd H4 p3 (.lst ([V.ref p1]++vs))) p4 (.lst [V.int 0])=H5 at y z1 z2 ⊢
   have d5:=(d3.same w).same y
   refine ⟨_,SqL.of (y _ _ (w _ _ hN3)),.str (S (nbc c false)),Yq (j:=0) rfl,.ref (L false),.inl ⟨_,.inr (S (nbc c false)),.inl d5.ud,rfl,(WO hne L false).symm⟩,L false,rfl,_,z2,_,d5.ul false,by rw [Ys];exact few (by simp;omega),fun p5 g5=>?_⟩
   have v1:=Yl.upd_new g5 (.lst ([V.int 0]++Yt (fU2 (nbc c) mk ps false) (n+2)))
   refine ⟨_,SqL.of Yc,fun p6 g6=>?_⟩
   have e6:=third hne (Yat c) hB.br n
   have v2:=Yl.upd_new g6 (.lst (XS ([V.int 0]++Yt (fU2 (nbc c) mk ps false) (n+2)) none (some ((n:Int)+1))))
   refine ⟨_,SqL.of (v2 _ _ (v1 _ _ (y _ _ (w _ _ hN3)))),.str (S (wd c 2)),Yq (j:=2) rfl,few (by decide),fun p7 g7=>?_⟩
   have v3:=Yl.upd_new g7 (.tup [V.str (Str.ofString "use"),.str (S (wd c 2))])
   have sA:=w.trans (y.trans ((v1.trans v2).trans v3))
   have x1':=(y.trans ((v1.trans v2).trans v3)) _ _ x1
   have x2':=(y.trans ((v1.trans v2).trans v3)) _ _ x2
   have z1':=((v1.trans v2).trans v3) _ _ z1
   have rw3:Rws g.K (upd (upd (upd H5 p5 (.lst ([V.int 0]++Yt (fU2 (nbc c) mk ps false) (n+2)))) p6 (.lst (XS ([V.int 0]++Yt (fU2 (nbc c) mk ps false) (n+2)) none (some ((n:Int)+1))))) p7 (.tup [V.str (Str.ofString "use"),.str (S (wd c 2))])) ([V.ref p1]++vs) (Xz (wd c 2) (nbc c) mk ps):=Rws.cons (q:=(wd c 2,.use (nbc c false))) ((rw2.tupk (YK d3.fr)).tupk (YK sA)) (SqT.of x2') (dk_u x1' (W6 c false))
   have G3:=bkg3 hne (Yat c) hB.br
   refine ⟨Xz (wd c 2) (nbc c) mk ps,p3,p7,.use (wd c 2),n,rfl,⟨_,z1',rw3.1,rw3.2⟩,dk_u Yc (W4 (VR c 2)),by rw [okS];exact ⟨_,QT _⟩,G3.ob,by simp [wt],by simp [dep],by omega,by simp only [dep];omega,fun X H7 s7 gX hX=>?_⟩
   refine ⟨X,p6,_,rfl,hX,by rw [s7 _ _ (v3 _ _ Yc),e6],fun i x hx=>QK _ hx,fun H8 s8=>⟨_,rfl,XT (by decide) ?_⟩⟩
   have s78:=s7.trans s8
   refine hN' _ _ ⟨p3,[V.ref p1]++vs,Xz (wd c 2) (nbc c) mk ps,_,sA.trans s78,s78 _ _ z1',rw3.tupk (YK s78),fun q hq=>?_,by simp [Xz,YS],G3,rfl⟩
   simp only [Xz,YS,List.mem_cons,List.not_mem_nil,or_false] at hq
   rcases hq with rfl | rfl | rfl
   ·exact W4 (VR c 2)
   ·exact W6 c false
   ·exact W6 c true
  ·refine hN' _ _ ⟨B,vs,YS (nbc c) mk ps,none,.refl _,d3.fr _ _ hBv,rw2.tupk (YK d3.fr),fun q hq=>?_,by simp [YS],bkg2 hne hB.br,rfl⟩
   simp only [YS,List.mem_cons,List.not_mem_nil,or_false] at hq
   rcases hq with rfl | rfl
   ·exact W6 c false
   ·exact W6 c true
 rintro σ H4 ⟨B',ws,prs,o8,s4,hB4,rw4,sok,hpl,G,rfl⟩
 have d4:=d3.same s4
 have hN4:Nam H4 N c:=s4 _ _ hN3
 refine WF (fun σ H'=>∃ Hd,Yl H4 H'∧H' Hd=some (.lst ws)∧σ=[some (.ref a),some (.ref D),some (.int cc),some (.int n),some (.ref N),some (.ref B'),some (.ref Sd),some (.ref Ud),o8,some (.ref Hd),none,none]) ?_ (fun N' hN'=>?_)
 rotate_left
 ·walk_at "rd"
  exact ⟨_,.inl (SqL.of hB4),fun l gl=>hN' _ _ ⟨l,.upd_new gl _,Yc,rfl⟩⟩
 rintro σ H5 ⟨Hd,s5,hHd,rfl⟩
 have d5:=d4.same s5
 have hN5:Nam H5 N c:=s5 _ _ hN4
 have rw5:=rw4.tupk (YK s5)
 have hB5:=s5 _ _ hB4
 refine WF (fun σ H'=>∃ o10 o11,Yl H5 H'∧σ=[some (.ref a),some (.ref D),some (.int cc),some (.int n),some (.ref N),some (.ref B'),some (.ref Sd),some (.ref Ud),o8,some (.ref Hd),o10,o11]) ?_ (fun N' hN'=>?_)
 rotate_left
 ·walk_at "rd"
  have cl:XS ((List.range 3).map fun k=>V.str (S (wd c k))) none (some 2)=[.str (S (wd c 0)),.str (S (wd c 1))]:=(VM _ 2).trans rfl
  refine Uf (K:=g.K) (xs:=[.str (S (wd c 0)),.str (S (wd c 1))]) (fun Sl i σ H'=>∃ o10 o11,Yl H5 H'∧H' Sl=some (.lst [.str (S (wd c 0)),.str (S (wd c 1))])∧σ=[some (.ref a),some (.ref D),some (.int cc),some (.int n),some (.ref N),some (.ref B'),some (.ref Sd),some (.ref Ud),o8,some (.ref Hd),o10,o11]) (fun R r=>?_) (fun Sl i σ H' _ ⟨_,_,_,h,_⟩=>SqL.of h) ?_ ?_
  ·walk_at "rd"
   exact ⟨_,SqL.of hN5,fun p hp=>r _ _ ⟨none,none,.upd_new hp _,by rw [Yc];exact congrArg (fun l=>some (HO.lst l)) cl,rfl⟩⟩
  ·rintro Sl i x σ H6 hx ⟨o10,o11,s6,hSl,rfl⟩
   have hi:i<2:=(List.getElem?_eq_some_iff.mp hx).1
   obtain ⟨b,rfl⟩:∃ b,x = .str (S (nbc c b)):=by
    have:i=0∨i=1:=by omega
    rcases this with rfl | rfl
    ·exact ⟨false,(Option.some.inj hx).symm⟩
    ·exact ⟨true,(Option.some.inj hx).symm⟩
   have d6:=d5.same s6
   have rw6:=rw5.tupk (YK s6)
   have hHd6:=s6 _ _ hHd
   have hB6:=s6 _ _ hB5
   have hl3:ws.length≤3:=by rw [rw6.1];exact hpl
   walk_at "rd"
   refine ⟨few (by decide),fun p gp=>?_⟩
   have wp:=Yl.upd_new gp (.tup [V.str (Str.ofString "use"),V.str (S (nbc c b))])
   refine ⟨prs,Hd,p,.use (nbc c b),n,rfl,⟨ws,wp _ _ hHd6,rw6.1,(rw6.tupk (YK wp)).2⟩,dk_u Yc (W6 c b),G.us b,G.ob,by simp [wt],by simp [dep],by omega,by simp only [dep];omega,fun X H7 s7 gX hX=>?_⟩
   have s67:=wp.trans s7
   have d7:=d6.same s67
   refine ⟨.ref (L b),.inl ⟨_,.inr (S (nbc c b)),.inl d7.ud,rfl,(WO hne L b).symm⟩,L b,rfl,_,SqL.of (d7.ul b),fun p2 g2=>?_⟩
   have w2:=Yl.upd_new g2 (.lst (XS (Yt (fU2 (nbc c) mk ps b) (n+2)) none (some ((n:Int)+1))))
   have ec:XS (Yt (fU2 (nbc c) mk ps b) (n+2)) none (some ((n:Int)+1))=Yt (cnt (bkO prs) (.use (nbc c b))) (n+1):=by
    rw [show (n:Int)+1=((n+1:Nat):Int) by omega,VM,U6 _ (by omega),G.cU b]
   refine ⟨X,p2,_,rfl,w2 _ _ hX,by rw [Yc,ec],fun i x hx=>QK _ hx,fun H8 s8=>⟨_,rfl,XT (by decide) ?_⟩⟩
   have s68:=(s67.trans w2).trans s8
   have rw8:=rw6.tupk (YK s68)
   refine Yb7 (K:=g.K) (xs:=ws) (ps:=prs) rw6.1 (fun q=>decide (q.1=nbc c b)) (fun y q=>∃ a,y = .ref a∧DK g.K H8 a (kd q.2)) (fun R r=>by walk_at "rd";exact r _ _ (.refl _) (SqL.of (s68 _ _ hB6))) (by omega) ?_ ?_ ?_
   ·intro i x q H9 hx hq s9 R r
    obtain ⟨T,a',rfl,hT,ha'⟩:=rw8.2 i x q hx hq
    walk_at "rd"
    refine ⟨_,s9.tup hT,_,Yq (j:=0) rfl,Y1 _ _,?_⟩
    have:=r H9 (.refl _)
    have e:decide (V.str (S q.1)=V.str (S (nbc c b)))=decide (q.1=nbc c b):=by
     by_cases h:q.1=nbc c b
     ·rw [h];simp
     ·rw [decide_eq_false h,decide_eq_false fun z=>h (Vb (V.str.inj z))]
    rw [e]
    exact this
   ·intro i x q H9 hx hq s9 R r
    obtain ⟨T,a',rfl,hT,ha'⟩:=rw8.2 i x q hx hq
    walk_at "rd"
    exact ⟨_,s9.tup hT,_,Yq (j:=1) rfl,r _ _ ⟨a',rfl,ha'⟩ (.refl _)⟩
   ·intro Z zs H9 gZ s9 hZ hall
    rw [G.one b] at hall
    cases hall with
    | cons hr hn' =>
     cases hn'
     obtain ⟨a',rfl,dk'⟩:=hr
     have d9:=d6.same (s68.trans s9)
     refine ⟨Z,rfl,_,SqL.of hZ,_,Yq (j:=0) rfl,?_⟩
     refine ⟨prs,Hd,a',.pick (mk b) (ps b),n,rfl,⟨ws,(s68.trans s9) _ _ hHd6,rw6.1,(rw8.tupk (YK s9)).2⟩,dk'.keep s9,(G.ok b).1,G.ob,(G.ok b).2.1,(G.ok b).2.2,by omega,by have:=(G.ok b).2.2;omega,fun H10 s10=>⟨few (by decide),fun p3 g3=>?_⟩⟩
     have w3:=Yl.upd_new g3 (.lst [V.int (cnt (bkO prs) (.pick (mk b) (ps b)) n)])
     have d10:=(d9.same s10).same w3
     refine ⟨.ref (A b),.inl ⟨_,.inr (S (nbc c b)),.inl d10.sd,rfl,(WO hne A b).symm⟩,A b,rfl,_,SqL.of (d10.fa b),fun p4 g4=>?_⟩
     have w4:=Yl.upd_new g4 (.lst (XS (Yt (fS (nbc c) mk ps b) (n+1)) (some (n:Int)) none))
     refine ⟨p3,p4,_,rfl,w4 _ _ Yc,?_,fun i x hx=>?_,fun H11 s11=>⟨_,rfl,XT (by decide) ?_⟩⟩
     ·rw [Yc,Ydo,Yb6,G.cS b]
     ·cases i with
      | zero=>exact ⟨_,(Option.some.inj hx).symm⟩
      | succ i=>simp at hx
     ·have sF:=(((s68.trans s9).trans s10).trans w3).trans (w4.trans s11)
      exact ⟨s6.trans sF,sF _ _ hSl⟩
  ·rintro Sl σ H6 ⟨o10,o11,s6,hSl,rfl⟩
   exact hN' _ _ ⟨o10,o11,s6,rfl⟩
 rintro σ H6 ⟨o10,o11,s6,rfl⟩
 walk_at "rd"
 have rw6:=rw5.tupk (YK s6)
 have dn:=rw6.dens sok
 have e:Den g.K H6 (.ref Hd) (.list (bkD prs)) := .lst (SqL.of (s6 _ _ hHd)) dn
 have dp:=U7 rw6.kdep
 refine ⟨_,e,_,.lst (SqL.of (s6 _ _ hB5)) dn,by simp only [PyData.depth];omega,?_⟩
 rw [PySem.SeqAt.eqv_refl _ e.lay]
 exact q _
theorem us1 {α:Type} {us:List α} (h:us.length=1):∃ a0,us=[a0]:=by
 match us,h with
 | [a0],_=>exact ⟨_,rfl⟩
theorem us2 {α:Type} {us:List α} (h:us.length=2):∃ a0 a1,us=[a0,a1]:=by
 match us,h with
 | [a0,a1],_=>exact ⟨_,_,rfl⟩
theorem us3 {α:Type} {us:List α} (h:us.length=3):∃ a0 a1 a2,us=[a0,a1,a2]:=by
 match us,h with
 | [a0,a1,a2],_=>exact ⟨_,_,_,rfl⟩
structure Top (K:PySem.W.Frag) (mg:Str→Option Value) (Z5:Addr) (Z1:Addr) (Z2:Addr) (Z4:Addr) (Z3:Addr) (Z0:Addr):Prop where
 Zx:∀ P w base,(Gx.mk P w K mg base).RawM Z0 "count_at" "Maker.count_at" Z01 ["self","size"]
 ZA:∀ P w base,(Gx.mk P w K mg base).RawM Z2 "count_at" "Maker.count_at" Z0k ["self","size"]
 Zz:∀ P w base,(Gx.mk P w K mg base).RawM Z1 "count_at" "Maker.count_at" Z07 ["self","size"]
 ZB:∀ P w base,(Gx.mk P w K mg base).RawM Z3 "count_at" "Maker.count_at" Z0l ["self","size"]
 Z0I:∀ P w base,(Gx.mk P w K mg base).Raw "least_distance" "least_distance" Z0F ["size"]
 ZF:∀ P w base,(Gx.mk P w K mg base).RawM Z0 "reckoned" "WholeMaker.reckoned" ZZ ["self","size"]
 Z2I:∀ P w base,(Gx.mk P w K mg base).Raw "ways_of" "ways_of" Z2u ["blocks"]
 ZK:∀ P w base,(Gx.mk P w K mg base).RawM Z4 "blocks_at" "RowTable.blocks_at" Z04 ["self","place","left"]
 ZN:∀ P w base,(Gx.mk P w K mg base).RawM Z4 "add_size" "RowTable.add_size" Z0f ["self","size"]
 ZG:∀ P w base,(Gx.mk P w K mg base).RawM Z4 "ways_at" "RowTable.ways_at" Z0s ["self","place","left"]
 ZO:∀ P w base,(Gx.mk P w K mg base).RawM Z2 "reckoned" "RowMaker.reckoned" Z0h ["self","size"]
 ZP:∀ P w base,(Gx.mk P w K mg base).RawM Z3 "reckoned" "UseMaker.reckoned" Z0j ["self","size"]
 ZH:∀ P w base,(Gx.mk P w K mg base).RawM Z1 "blocks_at" "PickMaker.blocks_at" Z00 ["self","size"]
 ZL:∀ P w base,(Gx.mk P w K mg base).RawM Z1 "reckoned" "PickMaker.reckoned" Z06 ["self","size"]
 Z2b:∀ P w base,(Gx.mk P w K mg base).Raw "parts_of" "parts_of" Z1T ["shape"]
 Z0J:∀ P w base,(Gx.mk P w K mg base).RawC "Maker" "__init__" "Maker.__init__" Z0H ["self"]
 Z02:∀ P w base,(Gx.mk P w K mg base).RawI "WholeMaker" Z0 "WholeMaker.__init__" ZY ["self","low","high"]
 Z08:∀ P w base,(Gx.mk P w K mg base).RawI "PickMaker" Z1 "PickMaker.__init__" Z05 ["self","marks","parts"]
 Z0m:∀ P w base,(Gx.mk P w K mg base).RawI "UseMaker" Z3 "UseMaker.__init__" Z0i ["self"]
 Z0n:∀ P w base,(Gx.mk P w K mg base).RawI "RowTable" Z4 "RowTable.__init__" Z0e ["self","parts"]
 Z0o:∀ P w base,(Gx.mk P w K mg base).RawI "RowMaker" Z2 "RowMaker.__init__" Z0g ["self","parts"]
 Z0y:∀ P w base,(Gx.mk P w K mg base).RawI "Lister" Z5 "Lister.__init__" Z0w ["self","book"]
 Z2c:∀ P w base,(Gx.mk P w K mg base).Raw "shape_of" "shape_of" Z1U ["book","name"]
 ZQ:∀ P w base,(Gx.mk P w K mg base).RawM Z5 "new_maker" "Lister.new_maker" Z0r ["self","shape"]
 ZV:∀ P w base,(Gx.mk P w K mg base).RawM Z5 "add_use" "Lister.add_use" Z0G ["self","shape"]
 ZM:∀ P w base,(Gx.mk P w K mg base).RawM Z5 "maker_of" "Lister.maker_of" Z0x ["self","shape"]
 Z1F:∀ P w base,(Gx.mk P w K mg base).Raw "maker_for" "maker_for" Z1v ["book","shape"]
 Z1G:∀ P w base,(Gx.mk P w K mg base).Raw "counts_to" "counts_to" Z1w ["book","shape","size"]
 Z2J:∀ P w base,(Gx.mk P w K mg base).Raw "counted" "counted" Z2v ["book","shape","size"]
 Z1H:∀ P w base,(Gx.mk P w K mg base).Raw "_law_whole" "_law_whole" Z1x ["_law_found"]
 Z2K:∀ P w base,(Gx.mk P w K mg base).Raw "_law_mix" "_law_mix" Z2x ["_law_script","_law_k","_law_step"]
 Z2d:∀ P w base,(Gx.mk P w K mg base).Raw "_law_feed" "_law_feed" Z1V ["_law_script","_law_many"]
 Z2e:∀ P w base,(Gx.mk P w K mg base).Raw "_law_next" "_law_next" Z1W ["_law_feed_here"]
 Z0z:∀ P w base,(Gx.mk P w K mg base).Raw "_law_whole_shape" "_law_whole_shape" Z0u ["_law_feed_here"]
 Z1r:∀ P w base,(Gx.mk P w K mg base).Raw "_law_counts" "_law_counts" Z1m ["_law_found","_law_due_here"]
 Z1I:∀ P w base,(Gx.mk P w K mg base).Raw "_law_words" "_law_words" Z1y ["_law_cell","_law_many"]
 Z17:∀ P w base,(Gx.mk P w K mg base).Raw "_law_branches" "_law_branches" Z16 ["_law_feed_here","_law_names"]
 Z0A:∀ P w base,(Gx.mk P w K mg base).Raw "_law_whole_count" "_law_whole_count" Z0v ["_law_span","_law_size"]
 Z0X:∀ P w base,(Gx.mk P w K mg base).Raw "_law_row_count" "_law_row_count" Z0Q ["_law_parts","_law_uses","_law_size"]
 Z2L:∀ P w base,(Gx.mk P w K mg base).Raw "_law_due" "_law_due" Z2y ["_law_book","_law_size"]
 Zp:Cls K Z5
 Zs:Ye K Z5 "book"
 Zn:Ye K Z5 "makers"
 Zc:Cls K Z1
 Z7:Ye K Z1 "counts"
 Zg:Ye K Z1 "marks"
 Zf:Ye K Z1 "parts"
 Zh:Cls K Z2
 Z8:Ye K Z2 "counts"
 Zk:Ye K Z2 "parts"
 Zi:Ye K Z2 "table"
 Zm:Cls K Z4
 Zo:Ye K Z4 "parts"
 Zl:Ye K Z4 "ways"
 Zd:Cls K Z3
 Z9:Ye K Z3 "counts"
 Zb:Ye K Z3 "named"
 Za:Cls K Z0
 Z6:Ye K Z0 "counts"
 Zj:Ye K Z0 "low"
 Ze:Ye K Z0 "span"
 b_bool:mg "bool"=none
 b_int:mg "int"=none
 ZJ:mg "isinstance"=none
 b_len:mg "len"=none
 b_list:mg "list"=none
 b_max:mg "max"=none
 b_min:mg "min"=none
 Zq:mg "range"=none
 b_sum:mg "sum"=none
 Z1l:mg "tuple"=none
 b_zip:mg "zip"=none
theorem YcI {K:PySem.W.Frag} {mg:Str→Option Value} {Z5 Z1 Z2 Z4 Z3 Z0:Addr}  (t:Top K mg Z5 Z1 Z2 Z4 Z3 Z0) (P:Program) (w:World) (base:Heap) :
  VW (Gx.mk P w K mg base) 162 ["_law_script","_law_feed_here","_law_cell","_law_size","_law_names","_law_book","_law_shapes","_law_uses","_law_due_here","_law_handed","_law_name","_law_shape"] "law" Qg (Ue K):=by
 have Z1s:=Z2Q (g:=Gx.mk P w K mg base) (Z5:=Z5) (Z1:=Z1) (Z2:=Z2) (Z4:=Z4) (Z3:=Z3) (Z0:=Z0) (t.Z0I P w base)
 have Z1u:=YaZ (g:=Gx.mk P w K mg base) (Z5:=Z5) (Z1:=Z1) (Z2:=Z2) (Z4:=Z4) (Z3:=Z3) (Z0:=Z0) (t.Z2I P w base) t.b_sum
 have Z1Q:∀ i:Nat,((Gx.mk P w K mg base).Me (1+i+1) Z0 "count_at" ["self","size"] (Zr (Cs.mk Z0 Z2 Z4 Z1 Z3) 0 (i+1)))∧((Gx.mk P w K mg base).Me (1+i+1) Z2 "count_at" ["self","size"] (Zr (Cs.mk Z0 Z2 Z4 Z1 Z3) 2 (i+1)))∧((Gx.mk P w K mg base).Me (1+i+1) Z1 "count_at" ["self","size"] (Zr (Cs.mk Z0 Z2 Z4 Z1 Z3) 3 (i+1)))∧((Gx.mk P w K mg base).Me (1+i+1) Z3 "count_at" ["self","size"] (Zr (Cs.mk Z0 Z2 Z4 Z1 Z3) 5 (i+1)))∧((Gx.mk P w K mg base).Me (1+i+1) Z4 "blocks_at" ["self","place","left"] (Z1i (Cs.mk Z0 Z2 Z4 Z1 Z3) (i+1)))∧((Gx.mk P w K mg base).Me (1+i+1) Z4 "add_size" ["self","size"] (Up (Cs.mk Z0 Z2 Z4 Z1 Z3) (i+1)))∧((Gx.mk P w K mg base).Me (1+i+1) Z4 "ways_at" ["self","place","left"] (W0 (Cs.mk Z0 Z2 Z4 Z1 Z3) (i+1)))∧((Gx.mk P w K mg base).Me (1+i+1) Z1 "blocks_at" ["self","size"] (Z1j (Cs.mk Z0 Z2 Z4 Z1 Z3) (i+1)))∧((Gx.mk P w K mg base).Me (1+i+1) Z0 "reckoned" ["self","size"] (Xl (Cs.mk Z0 Z2 Z4 Z1 Z3) 0 (i+1)))∧((Gx.mk P w K mg base).Me (1+i+1) Z2 "reckoned" ["self","size"] (Xl (Cs.mk Z0 Z2 Z4 Z1 Z3) 2 (i+1)))∧((Gx.mk P w K mg base).Me (1+i+1) Z3 "reckoned" ["self","size"] (Xl (Cs.mk Z0 Z2 Z4 Z1 Z3) 5 (i+1)))∧((Gx.mk P w K mg base).Me (1+i+1) Z1 "reckoned" ["self","size"] (Xl (Cs.mk Z0 Z2 Z4 Z1 Z3) 3 (i+1))):=by
  intro i
  induction i with
  | zero=>exact ⟨Z0C (g:=Gx.mk P w K mg base) (m:=0) (k:=1) (Z5:=Z5) (Z1:=Z1) (Z2:=Z2) (Z4:=Z4) (Z3:=Z3) (Z0:=Z0) (t.Zx P w base) ((t.ZF P w base).none (fun _ _ _ _ h=>VO h)) t.b_len t.Za t.Z6 t.Zj t.Ze,Z0S (g:=Gx.mk P w K mg base) (m:=0) (k:=1) (Z5:=Z5) (Z1:=Z1) (Z2:=Z2) (Z4:=Z4) (Z3:=Z3) (Z0:=Z0) (t.ZA P w base) ((t.ZO P w base).none (fun _ _ _ _ h=>VO h)) t.b_len t.Zh t.Z8 t.Zk t.Zi,Z0L (g:=Gx.mk P w K mg base) (m:=0) (k:=1) (Z5:=Z5) (Z1:=Z1) (Z2:=Z2) (Z4:=Z4) (Z3:=Z3) (Z0:=Z0) (t.Zz P w base) ((t.ZL P w base).none (fun _ _ _ _ h=>VO h)) t.b_len t.Zc t.Z7 t.Zg t.Zf,Z0T (g:=Gx.mk P w K mg base) (m:=0) (k:=1) (Z5:=Z5) (Z1:=Z1) (Z2:=Z2) (Z4:=Z4) (Z3:=Z3) (Z0:=Z0) (t.ZB P w base) ((t.ZP P w base).none (fun _ _ _ _ h=>VO h)) t.b_len t.Zd t.Z9 t.Zb,Z0M (g:=Gx.mk P w K mg base) (m:=0) (k:=1) (Z5:=Z5) (Z1:=Z1) (Z2:=Z2) (Z4:=Z4) (Z3:=Z3) (Z0:=Z0) (t.ZK P w base) ((t.ZG P w base).none (fun _ _ _ _ h=>Yaj h)) ((t.Zx P w base).none (fun _ _ _ _ h=>ZR h)) ((t.ZA P w base).none (fun _ _ _ _ h=>ZR h)) ((t.Zz P w base).none (fun _ _ _ _ h=>ZR h)) ((t.ZB P w base).none (fun _ _ _ _ h=>ZR h)) t.Zq t.Zc t.Z7 t.Zg t.Zf t.Zh t.Z8 t.Zk t.Zi t.Zm t.Zo t.Zl t.Zd t.Z9 t.Zb t.Za t.Z6 t.Zj t.Ze,Z0U (g:=Gx.mk P w K mg base) (m:=0) (k:=1) (Z5:=Z5) (Z1:=Z1) (Z2:=Z2) (Z4:=Z4) (Z3:=Z3) (Z0:=Z0) (t.ZN P w base) (Z1u.mono (by omega)) ((t.ZK P w base).none (fun _ _ _ _ h=>Ya0 h)) t.b_len t.Zq t.Zm t.Zo t.Zl,Z10 (g:=Gx.mk P w K mg base) (m:=0) (k:=1) (Z5:=Z5) (Z1:=Z1) (Z2:=Z2) (Z4:=Z4) (Z3:=Z3) (Z0:=Z0) (t.ZG P w base) ((t.ZN P w base).none (fun _ _ _ _ h=>Yec h)) t.b_len t.Zm t.Zo t.Zl,Z0E (g:=Gx.mk P w K mg base) (m:=0) (k:=1) (Z5:=Z5) (Z1:=Z1) (Z2:=Z2) (Z4:=Z4) (Z3:=Z3) (Z0:=Z0) (t.ZH P w base) ((t.Zx P w base).none (fun _ _ _ _ h=>ZR h)) ((t.ZA P w base).none (fun _ _ _ _ h=>ZR h)) ((t.Zz P w base).none (fun _ _ _ _ h=>ZR h)) ((t.ZB P w base).none (fun _ _ _ _ h=>ZR h)) t.Zc t.Z7 t.Zg t.Zf t.Zh t.Z8 t.Zk t.Zi t.Zd t.Z9 t.Zb t.Za t.Z6 t.Zj t.Ze,Z0D (g:=Gx.mk P w K mg base) (m:=0) (k:=1) (Z5:=Z5) (Z1:=Z1) (Z2:=Z2) (Z4:=Z4) (Z3:=Z3) (Z0:=Z0) (t.ZF P w base) (Z1s.mono (by omega)) t.b_max t.b_min t.Za t.Z6 t.Zj t.Ze,Z0V (g:=Gx.mk P w K mg base) (m:=0) (k:=1) (Z5:=Z5) (Z1:=Z1) (Z2:=Z2) (Z4:=Z4) (Z3:=Z3) (Z0:=Z0) (t.ZO P w base) ((t.ZG P w base).none (fun _ _ _ _ h=>Yaj h)) t.Zh t.Z8 t.Zk t.Zi t.Zm t.Zo t.Zl,Z0W (g:=Gx.mk P w K mg base) (m:=0) (k:=1) (Z5:=Z5) (Z1:=Z1) (Z2:=Z2) (Z4:=Z4) (Z3:=Z3) (Z0:=Z0) (t.ZP P w base) ((t.Zx P w base).none (fun _ _ _ _ h=>ZR h)) ((t.ZA P w base).none (fun _ _ _ _ h=>ZR h)) ((t.Zz P w base).none (fun _ _ _ _ h=>ZR h)) ((t.ZB P w base).none (fun _ _ _ _ h=>ZR h)) t.Zc t.Z7 t.Zg t.Zf t.Zh t.Z8 t.Zk t.Zi t.Zd t.Z9 t.Zb t.Za t.Z6 t.Zj t.Ze,Z0N (g:=Gx.mk P w K mg base) (m:=0) (k:=1) (Z5:=Z5) (Z1:=Z1) (Z2:=Z2) (Z4:=Z4) (Z3:=Z3) (Z0:=Z0) (t.ZL P w base) (Z1u.mono (by omega)) ((t.ZH P w base).none (fun _ _ _ _ h=>Ya2 h)) t.Zc t.Z7 t.Zg t.Zf⟩
  | succ i ih =>
   obtain ⟨Z03,Z0p,Z09,Z0q,Z2f,Z2q,Z1c,Z1R,Z1S,Z2r,Z2s,Z2g⟩:=ih
   exact ⟨Z0C (g:=Gx.mk P w K mg base) (m:=i+1) (k:=1+i+1) (Z5:=Z5) (Z1:=Z1) (Z2:=Z2) (Z4:=Z4) (Z3:=Z3) (Z0:=Z0) (t.Zx P w base) Z1S t.b_len t.Za t.Z6 t.Zj t.Ze,Z0S (g:=Gx.mk P w K mg base) (m:=i+1) (k:=1+i+1) (Z5:=Z5) (Z1:=Z1) (Z2:=Z2) (Z4:=Z4) (Z3:=Z3) (Z0:=Z0) (t.ZA P w base) Z2r t.b_len t.Zh t.Z8 t.Zk t.Zi,Z0L (g:=Gx.mk P w K mg base) (m:=i+1) (k:=1+i+1) (Z5:=Z5) (Z1:=Z1) (Z2:=Z2) (Z4:=Z4) (Z3:=Z3) (Z0:=Z0) (t.Zz P w base) Z2g t.b_len t.Zc t.Z7 t.Zg t.Zf,Z0T (g:=Gx.mk P w K mg base) (m:=i+1) (k:=1+i+1) (Z5:=Z5) (Z1:=Z1) (Z2:=Z2) (Z4:=Z4) (Z3:=Z3) (Z0:=Z0) (t.ZB P w base) Z2s t.b_len t.Zd t.Z9 t.Zb,Z0M (g:=Gx.mk P w K mg base) (m:=i+1) (k:=1+i+1) (Z5:=Z5) (Z1:=Z1) (Z2:=Z2) (Z4:=Z4) (Z3:=Z3) (Z0:=Z0) (t.ZK P w base) Z1c Z03 Z0p Z09 Z0q t.Zq t.Zc t.Z7 t.Zg t.Zf t.Zh t.Z8 t.Zk t.Zi t.Zm t.Zo t.Zl t.Zd t.Z9 t.Zb t.Za t.Z6 t.Zj t.Ze,Z0U (g:=Gx.mk P w K mg base) (m:=i+1) (k:=1+i+1) (Z5:=Z5) (Z1:=Z1) (Z2:=Z2) (Z4:=Z4) (Z3:=Z3) (Z0:=Z0) (t.ZN P w base) (Z1u.mono (by omega)) Z2f t.b_len t.Zq t.Zm t.Zo t.Zl,Z10 (g:=Gx.mk P w K mg base) (m:=i+1) (k:=1+i+1) (Z5:=Z5) (Z1:=Z1) (Z2:=Z2) (Z4:=Z4) (Z3:=Z3) (Z0:=Z0) (t.ZG P w base) Z2q t.b_len t.Zm t.Zo t.Zl,Z0E (g:=Gx.mk P w K mg base) (m:=i+1) (k:=1+i+1) (Z5:=Z5) (Z1:=Z1) (Z2:=Z2) (Z4:=Z4) (Z3:=Z3) (Z0:=Z0) (t.ZH P w base) Z03 Z0p Z09 Z0q t.Zc t.Z7 t.Zg t.Zf t.Zh t.Z8 t.Zk t.Zi t.Zd t.Z9 t.Zb t.Za t.Z6 t.Zj t.Ze,Z0D (g:=Gx.mk P w K mg base) (m:=i+1) (k:=1+i+1) (Z5:=Z5) (Z1:=Z1) (Z2:=Z2) (Z4:=Z4) (Z3:=Z3) (Z0:=Z0) (t.ZF P w base) (Z1s.mono (by omega)) t.b_max t.b_min t.Za t.Z6 t.Zj t.Ze,Z0V (g:=Gx.mk P w K mg base) (m:=i+1) (k:=1+i+1) (Z5:=Z5) (Z1:=Z1) (Z2:=Z2) (Z4:=Z4) (Z3:=Z3) (Z0:=Z0) (t.ZO P w base) Z1c t.Zh t.Z8 t.Zk t.Zi t.Zm t.Zo t.Zl,Z0W (g:=Gx.mk P w K mg base) (m:=i+1) (k:=1+i+1) (Z5:=Z5) (Z1:=Z1) (Z2:=Z2) (Z4:=Z4) (Z3:=Z3) (Z0:=Z0) (t.ZP P w base) Z03 Z0p Z09 Z0q t.Zc t.Z7 t.Zg t.Zf t.Zh t.Z8 t.Zk t.Zi t.Zd t.Z9 t.Zb t.Za t.Z6 t.Zj t.Ze,Z0N (g:=Gx.mk P w K mg base) (m:=i+1) (k:=1+i+1) (Z5:=Z5) (Z1:=Z1) (Z2:=Z2) (Z4:=Z4) (Z3:=Z3) (Z0:=Z0) (t.ZL P w base) (Z1u.mono (by omega)) Z1R t.Zc t.Z7 t.Zg t.Zf⟩
 obtain ⟨Z0O,Z12,Z0Y,Z13,G_RowTable_blocks_at,G_RowTable_add_size,G_RowTable_ways_at,G_PickMaker_blocks_at,G_WholeMaker_reckoned,G_RowMaker_reckoned,G_UseMaker_reckoned,G_PickMaker_reckoned⟩:=Z1Q 159
 have Z3m:=Q1 (g:=Gx.mk P w K mg base) (Z5:=Z5) (Z1:=Z1) (Z2:=Z2) (Z4:=Z4) (Z3:=Z3) (Z0:=Z0) (t.Z2b P w base) t.b_list
 have Z0a:=Z2R (g:=Gx.mk P w K mg base) (Z5:=Z5) (Z1:=Z1) (Z2:=Z2) (Z4:=Z4) (Z3:=Z3) (Z0:=Z0) (t.Z0J P w base) t.Zc t.Z7 t.Zg t.Zf t.Zh t.Z8 t.Zk t.Zi t.Zd t.Z9 t.Zb t.Za t.Z6 t.Zj t.Ze
 have Z0P:=Z1D (g:=Gx.mk P w K mg base) (k:=1) (Z5:=Z5) (Z1:=Z1) (Z2:=Z2) (Z4:=Z4) (Z3:=Z3) (Z0:=Z0) (t.Z02 P w base) (Z0a.mono (by decide)) t.Za t.Z6 t.Zj t.Ze
 have Z0Z:=Z1O (g:=Gx.mk P w K mg base) (k:=1) (Z5:=Z5) (Z1:=Z1) (Z2:=Z2) (Z4:=Z4) (Z3:=Z3) (Z0:=Z0) (t.Z08 P w base) (Z0a.mono (by decide)) t.Zc t.Z7 t.Zg t.Zf
 have Z14:=Z27 (g:=Gx.mk P w K mg base) (k:=1) (Z5:=Z5) (Z1:=Z1) (Z2:=Z2) (Z4:=Z4) (Z3:=Z3) (Z0:=Z0) (t.Z0m P w base) (Z0a.mono (by decide)) t.Zd t.Z9 t.Zb
 have Z2t:=Z28 (g:=Gx.mk P w K mg base) (Z5:=Z5) (Z1:=Z1) (Z2:=Z2) (Z4:=Z4) (Z3:=Z3) (Z0:=Z0) (t.Z0n P w base) t.b_len t.Zq t.Zm t.Zo t.Zl
 have Z15:=Z29 (g:=Gx.mk P w K mg base) (k:=2) (Z5:=Z5) (Z1:=Z1) (Z2:=Z2) (Z4:=Z4) (Z3:=Z3) (Z0:=Z0) (t.Z0o P w base) Z2t (by decide) (Z0a.mono (by decide)) t.Zh t.Z8 t.Zk t.Zi
 have Z2V:=Z2C (g:=Gx.mk P w K mg base) (Z5:=Z5) (Z1:=Z1) (Z2:=Z2) (Z4:=Z4) (Z3:=Z3) (Z0:=Z0) (t.Z0y P w base) t.Zp t.Zs t.Zn
 have Z3n:=Q2 (g:=Gx.mk P w K mg base) (Z5:=Z5) (Z1:=Z1) (Z2:=Z2) (Z4:=Z4) (Z3:=Z3) (Z0:=Z0) (t.Z2c P w base)
 have Z2M:∀ i:Nat,((Gx.mk P w K mg base).Me (4+i+1) Z5 "new_maker" ["self","shape"] (Uu (Gx.mk P w K mg base).P (Gx.mk P w K mg base).w (Gx.mk P w K mg base).K (Cs.mk Z0 Z2 Z4 Z1 Z3) Z5 (i+1)))∧((Gx.mk P w K mg base).Me (4+i+1) Z5 "add_use" ["self","shape"] (Z1k (Gx.mk P w K mg base).P (Gx.mk P w K mg base).w (Gx.mk P w K mg base).K (Cs.mk Z0 Z2 Z4 Z1 Z3) Z5 (i+1)))∧((Gx.mk P w K mg base).Me (4+i+1) Z5 "maker_of" ["self","shape"] (ZX (Gx.mk P w K mg base).P (Gx.mk P w K mg base).w (Gx.mk P w K mg base).K (Cs.mk Z0 Z2 Z4 Z1 Z3) Z5 (i+1))):=by
  intro i
  induction i with
  | zero=>exact ⟨Z11 (g:=Gx.mk P w K mg base) (m:=0) (k:=4) (Z5:=Z5) (Z1:=Z1) (Z2:=Z2) (Z4:=Z4) (Z3:=Z3) (Z0:=Z0) (t.ZQ P w base) (Z3m.mono (by omega)) ((t.ZM P w base).none (fun _ _ _ _ h=>Z33 h)) Z0P (by omega) Z15 (by omega) Z0Z (by omega) t.Zp t.Zs t.Zn,Z1f (g:=Gx.mk P w K mg base) (m:=0) (k:=4) (Z5:=Z5) (Z1:=Z1) (Z2:=Z2) (Z4:=Z4) (Z3:=Z3) (Z0:=Z0) (t.ZV P w base) (Z3n.mono (by omega)) ((t.ZM P w base).none (fun _ _ _ _ h=>Z33 h)) Z14 (by omega) t.Zp t.Zs t.Zn t.Zd t.Z9 t.Zb,Z19 (g:=Gx.mk P w K mg base) (m:=0) (k:=4) (Z5:=Z5) (Z1:=Z1) (Z2:=Z2) (Z4:=Z4) (Z3:=Z3) (Z0:=Z0) (t.ZM P w base) ((t.ZV P w base).none (fun _ _ _ _ h=>Ya4 h)) ((t.ZQ P w base).none (fun _ _ _ _ h=>Yeg h)) t.Zp t.Zs t.Zn⟩
  | succ i ih =>
   obtain ⟨Z2N,Z3b,Z1g⟩:=ih
   exact ⟨Z11 (g:=Gx.mk P w K mg base) (m:=i+1) (k:=4+i+1) (Z5:=Z5) (Z1:=Z1) (Z2:=Z2) (Z4:=Z4) (Z3:=Z3) (Z0:=Z0) (t.ZQ P w base) (Z3m.mono (by omega)) Z1g Z0P (by omega) Z15 (by omega) Z0Z (by omega) t.Zp t.Zs t.Zn,Z1f (g:=Gx.mk P w K mg base) (m:=i+1) (k:=4+i+1) (Z5:=Z5) (Z1:=Z1) (Z2:=Z2) (Z4:=Z4) (Z3:=Z3) (Z0:=Z0) (t.ZV P w base) (Z3n.mono (by omega)) Z1g Z14 (by omega) t.Zp t.Zs t.Zn t.Zd t.Z9 t.Zb,Z19 (g:=Gx.mk P w K mg base) (m:=i+1) (k:=4+i+1) (Z5:=Z5) (Z1:=Z1) (Z2:=Z2) (Z4:=Z4) (Z3:=Z3) (Z0:=Z0) (t.ZM P w base) Z3b Z2N t.Zp t.Zs t.Zn⟩
 obtain ⟨G_Lister_new_maker,G_Lister_add_use,Z2W⟩:=Z2M 59
 have Z36:=QH (g:=Gx.mk P w K mg base) (k:=64) (Z5:=Z5) (Z1:=Z1) (Z2:=Z2) (Z4:=Z4) (Z3:=Z3) (Z0:=Z0) (t.Z1F P w base) Z2V (by decide) (Z2W.mono (by decide)) t.Zp t.Zs t.Zn
 have G_counts_to:=QI (g:=Gx.mk P w K mg base) (k:=161) (Z5:=Z5) (Z1:=Z1) (Z2:=Z2) (Z4:=Z4) (Z3:=Z3) (Z0:=Z0) (t.Z1G P w base) (Z36.mono (by decide)) (Z0O.mono (by decide)) (Z12.mono (by decide)) (Z0Y.mono (by decide)) (Z13.mono (by decide)) t.Zq t.Zc t.Z7 t.Zg t.Zf t.Zh t.Z8 t.Zk t.Zi t.Zd t.Z9 t.Zb t.Za t.Z6 t.Zj t.Ze
 have G_counted:=Ya5 (g:=Gx.mk P w K mg base) (k:=161) (Z5:=Z5) (Z1:=Z1) (Z2:=Z2) (Z4:=Z4) (Z3:=Z3) (Z0:=Z0) (t.Z2J P w base) (Z36.mono (by decide)) (Z0O.mono (by decide)) (Z12.mono (by decide)) (Z0Y.mono (by decide)) (Z13.mono (by decide)) t.Zc t.Z7 t.Zg t.Zf t.Zh t.Z8 t.Zk t.Zi t.Zd t.Z9 t.Zb t.Za t.Z6 t.Zj t.Ze
 have G_law_whole:=QJ (g:=Gx.mk P w K mg base) (Z5:=Z5) (Z1:=Z1) (Z2:=Z2) (Z4:=Z4) (Z3:=Z3) (Z0:=Z0) (t.Z1H P w base) t.b_bool t.b_int t.ZJ
 have G_law_mix:=Ya7 (g:=Gx.mk P w K mg base) (Z5:=Z5) (Z1:=Z1) (Z2:=Z2) (Z4:=Z4) (Z3:=Z3) (Z0:=Z0) (t.Z2K P w base)
 have G_law_feed:=Q4 (g:=Gx.mk P w K mg base) (k:=1) (Z5:=Z5) (Z1:=Z1) (Z2:=Z2) (Z4:=Z4) (Z3:=Z3) (Z0:=Z0) (t.Z2d P w base) (G_law_mix.mono (by decide)) t.Zq
 have Z2h:=Q5 (g:=Gx.mk P w K mg base) (Z5:=Z5) (Z1:=Z1) (Z2:=Z2) (Z4:=Z4) (Z3:=Z3) (Z0:=Z0) (t.Z2e P w base) t.b_len
 have Z2X:=Z2G (g:=Gx.mk P w K mg base) (k:=1) (Z5:=Z5) (Z1:=Z1) (Z2:=Z2) (Z4:=Z4) (Z3:=Z3) (Z0:=Z0) (t.Z0z P w base) (Z2h.mono (by decide)) t.b_max
 have G_law_counts:=U9 (g:=Gx.mk P w K mg base) (k:=1) (Z5:=Z5) (Z1:=Z1) (Z2:=Z2) (Z4:=Z4) (Z3:=Z3) (Z0:=Z0) (t.Z1r P w base) (G_law_whole.mono (by decide)) t.ZJ t.b_len t.b_list t.b_zip
 have Z37:=QP (g:=Gx.mk P w K mg base) (Z5:=Z5) (Z1:=Z1) (Z2:=Z2) (Z4:=Z4) (Z3:=Z3) (Z0:=Z0) (t.Z1I P w base) t.b_int t.Zq
 have Z3q:=Z3j (g:=Gx.mk P w K mg base) (k:=2) (Z5:=Z5) (Z1:=Z1) (Z2:=Z2) (Z4:=Z4) (Z3:=Z3) (Z0:=Z0) (t.Z17 P w base) (Z2h.mono (by decide)) (Z2X.mono (by decide)) (Z37.mono (by decide)) t.Zq t.Z1l
 have Z2Y:=Z2H (g:=Gx.mk P w K mg base) (Z5:=Z5) (Z1:=Z1) (Z2:=Z2) (Z4:=Z4) (Z3:=Z3) (Z0:=Z0) (t.Z0A P w base) t.b_min t.Zq
 have Z3o:=Z3a (g:=Gx.mk P w K mg base) (Z5:=Z5) (Z1:=Z1) (Z2:=Z2) (Z4:=Z4) (Z3:=Z3) (Z0:=Z0) (t.Z0X P w base) t.Zq t.b_sum
 have G_law_due:=Ybd (g:=Gx.mk P w K mg base) (k:=1) (Z5:=Z5) (Z1:=Z1) (Z2:=Z2) (Z4:=Z4) (Z3:=Z3) (Z0:=Z0) (t.Z2L P w base) (Z2Y.mono (by decide)) (Z3o.mono (by decide)) t.Zq
 exact YcH (g:=Gx.mk P w K mg base) (k:=162) (Z5:=Z5) (Z1:=Z1) (Z2:=Z2) (Z4:=Z4) (Z3:=Z3) (Z0:=Z0) (G_counted.mono (by decide)) (G_counts_to.mono (by decide)) (G_law_feed.mono (by decide)) (Z2h.mono (by decide)) (Z37.mono (by decide)) (G_law_counts.mono (by decide)) (Z3q.mono (by decide)) (G_law_due.mono (by decide)) t.b_list
end KW
theorem PySem.W.Fast.tw10467645205759801509:True:=trivial
theorem PySem.W.Fast.tw7749939960573599933:True:=trivial
theorem PySem.W.Fast.tw15934295077457536464:True:=trivial
theorem PySem.W.Fast.tw17223729150564072156:True:=trivial
theorem PySem.W.Fast.tw12357995023804591063:True:=trivial
theorem PySem.W.Fast.tw3036904881639701083:True:=trivial
theorem PySem.W.Fast.tw18276310276983097155:True:=trivial
theorem PySem.W.Fast.tw13090923252887564254:True:=trivial
theorem PySem.W.Fast.tw10539750180361675915:True:=trivial
theorem PySem.W.Fast.tw5424095819478973081:True:=trivial
theorem PySem.W.Fast.tw297080014882536819:True:=trivial
theorem PySem.W.Fast.tw7659555614837494440:True:=trivial
theorem PySem.W.Fast.tw3358652403052138084:True:=trivial
theorem PySem.W.Fast.tw17886344334210369129:True:=trivial
theorem PySem.W.Fast.tw5734776652611508917:True:=trivial
theorem PySem.W.Fast.tw1924418872927193463:True:=trivial
theorem PySem.W.Fast.tw1903178158772395192:True:=trivial
theorem PySem.W.Fast.tw8036356055638862012:True:=trivial
theorem PySem.W.Fast.tw5553497845115558579:True:=trivial
theorem PySem.W.Fast.tw16780155843232982635:True:=trivial
theorem PySem.W.Fast.tw2505624926787655397:True:=trivial
theorem PySem.W.Fast.tw5365602962948497843:True:=trivial
theorem PySem.W.Fast.tw13884421395508540433:True:=trivial
theorem PySem.W.Fast.tw18029055424638041872:True:=trivial
theorem PySem.W.Fast.tw18096485647831726764:True:=trivial
theorem PySem.W.Fast.tw9091532912639784602:True:=trivial
theorem PySem.W.Fast.tw8487127529242307247:True:=trivial
theorem PySem.W.Fast.tw16289092294301226045:True:=trivial
theorem PySem.W.Fast.tw8531714558380849935:True:=trivial
theorem PySem.W.Fast.tw6842178302132064592:True:=trivial
theorem PySem.W.Fast.tw2790547878165584098:True:=trivial
theorem PySem.W.Fast.tw12572452850844663226:True:=trivial
theorem PySem.W.Fast.tw1802336488409561753:True:=trivial
theorem PySem.W.Fast.tw15373739384302608579:True:=trivial
theorem PySem.W.Fast.tw11857011368473648992:True:=trivial
theorem PySem.W.Fast.tw14771086173132327435:True:=trivial
open PySem PySem.W PyProof.Rows
set_option maxRecDepth 100000 in
set_option maxHeartbeats 0 in
theorem PySem.Challenge.cw_countgen_k32_picks_and_uses_counted_holds : PySem.Challenge.rw_countgen_k32_picks_and_uses_counted.Holds := by
 w_on;o_law;k_head;(case hw=>w_witness2)
 k_fill
 refine L2.Ydm (l:=PySem.Challenge.rw_countgen_k32_picks_and_uses_counted) 162 "_law_script" KW.Qg ["_law_script","_law_feed_here","_law_cell","_law_size","_law_names","_law_book","_law_shapes","_law_uses","_law_due_here","_law_handed","_law_name","_law_shape"] rfl rfl ⟨rfl,by decide,by decide,rfl⟩ KW.XD (fun w h Y=>by first | exact PySem.W.kIn_of Y | exact PySem.W.km_in_of Y) ?F
 case F =>
  intro w mg h KX G
  refine' ⟨L2.YbE KX G ?a ?l ?c ?k (fun _ _ _ _ _ _ _ _ => .of_eq rfl),fun base=>KW.YcI ⟨?Zx,?ZA,?Zz,?ZB,?Z0I,?ZF,?Z2I,?ZK,?ZN,?ZG,?ZO,?ZP,?ZH,?ZL,?Z2b,?Z0J,?Z02,?Z08,?Z0m,?Z0n,?Z0o,?Z0y,?Z2c,?ZQ,?ZV,?ZM,?Z1F,?Z1G,?Z2J,?Z1H,?Z2K,?Z2d,?Z2e,?Z0z,?Z1r,?Z1I,?Z17,?Z0A,?Z0X,?Z2L,?Zp,?Zs,?Zn,?Zc,?Z7,?Zg,?Zf,?Zh,?Z8,?Zk,?Zi,?Zm,?Zo,?Zl,?Zd,?Z9,?Zb,?Za,?Z6,?Zj,?Ze,?b_bool,?b_int,?ZJ,?b_len,?b_list,?b_max,?b_min,?Zq,?b_sum,?Z1l,?b_zip⟩ _ w base⟩
  (case a=>k_is)
  (case l=>k_is)
  (case c=>k_is)
  (case k=>k_is)
  case Z02 =>
   refine' L2.Ww KX G ["self","low","high"] ?aC ?mk ?kc ?a ?i ?l ?c ?k (fun _ _ _ _ _ _ us hl=>by obtain ⟨_,_,_,rfl⟩:=KW.us3 hl;rfl)
   (case aC=>k_is)
   (case mk=>k_is)
   (case kc=>k_is)
   (case a=>k_is)
   (case i=>k_is)
   (case l=>k_is)
   (case c=>k_is)
   (case k=>k_is)
  case Z08 =>
   refine' L2.Ww KX G ["self","marks","parts"] ?aC ?mk ?kc ?a ?i ?l ?c ?k (fun _ _ _ _ _ _ us hl=>by obtain ⟨_,_,_,rfl⟩:=KW.us3 hl;rfl)
   (case aC=>k_is)
   (case mk=>k_is)
   (case kc=>k_is)
   (case a=>k_is)
   (case i=>k_is)
   (case l=>k_is)
   (case c=>k_is)
   (case k=>k_is)
  case Z0m =>
   refine' L2.Ww KX G ["self"] ?aC ?mk ?kc ?a ?i ?l ?c ?k (fun _ _ _ _ _ _ us hl=>by obtain ⟨_,rfl⟩:=KW.us1 hl;rfl)
   (case aC=>k_is)
   (case mk=>k_is)
   (case kc=>k_is)
   (case a=>k_is)
   (case i=>k_is)
   (case l=>k_is)
   (case c=>k_is)
   (case k=>k_is)
  case Z0n =>
   refine' L2.Ww KX G ["self","parts"] ?aC ?mk ?kc ?a ?i ?l ?c ?k (fun _ _ _ _ _ _ us hl=>by obtain ⟨_,_,rfl⟩:=KW.us2 hl;rfl)
   (case aC=>k_is)
   (case mk=>k_is)
   (case kc=>k_is)
   (case a=>k_is)
   (case i=>k_is)
   (case l=>k_is)
   (case c=>k_is)
   (case k=>k_is)
  case Z0o =>
   refine' L2.Ww KX G ["self","parts"] ?aC ?mk ?kc ?a ?i ?l ?c ?k (fun _ _ _ _ _ _ us hl=>by obtain ⟨_,_,rfl⟩:=KW.us2 hl;rfl)
   (case aC=>k_is)
   (case mk=>k_is)
   (case kc=>k_is)
   (case a=>k_is)
   (case i=>k_is)
   (case l=>k_is)
   (case c=>k_is)
   (case k=>k_is)
  case Z0y =>
   refine' L2.Ww KX G ["self","book"] ?aC ?mk ?kc ?a ?i ?l ?c ?k (fun _ _ _ _ _ _ us hl=>by obtain ⟨_,_,rfl⟩:=KW.us2 hl;rfl)
   (case aC=>k_is)
   (case mk=>k_is)
   (case kc=>k_is)
   (case a=>k_is)
   (case i=>k_is)
   (case l=>k_is)
   (case c=>k_is)
   (case k=>k_is)
  case Zx =>
   refine' L2.Xe KX G ["self","size"] ?a ?i ?l ?c ?k (fun _ _ _ _ _ _ us hl=>by obtain ⟨_,_,rfl⟩:=KW.us2 hl;rfl)
   (case a=>k_is)
   (case i=>k_is)
   (case l=>k_is)
   (case c=>k_is)
   (case k=>k_is)
  case ZA =>
   refine' L2.Xe KX G ["self","size"] ?a ?i ?l ?c ?k (fun _ _ _ _ _ _ us hl=>by obtain ⟨_,_,rfl⟩:=KW.us2 hl;rfl)
   (case a=>k_is)
   (case i=>k_is)
   (case l=>k_is)
   (case c=>k_is)
   (case k=>k_is)
  case Zz =>
   refine' L2.Xe KX G ["self","size"] ?a ?i ?l ?c ?k (fun _ _ _ _ _ _ us hl=>by obtain ⟨_,_,rfl⟩:=KW.us2 hl;rfl)
   (case a=>k_is)
   (case i=>k_is)
   (case l=>k_is)
   (case c=>k_is)
   (case k=>k_is)
  case ZB =>
   refine' L2.Xe KX G ["self","size"] ?a ?i ?l ?c ?k (fun _ _ _ _ _ _ us hl=>by obtain ⟨_,_,rfl⟩:=KW.us2 hl;rfl)
   (case a=>k_is)
   (case i=>k_is)
   (case l=>k_is)
   (case c=>k_is)
   (case k=>k_is)
  case Z0I =>
   refine' L2.Xd KX G ["size"] ?a ?l ?c ?k (fun _ _ _ _ _ _ us hl=>by obtain ⟨_,rfl⟩:=KW.us1 hl;rfl)
   (case a=>k_is)
   (case l=>k_is)
   (case c=>k_is)
   (case k=>k_is)
  case ZF =>
   refine' L2.Xe KX G ["self","size"] ?a ?i ?l ?c ?k (fun _ _ _ _ _ _ us hl=>by obtain ⟨_,_,rfl⟩:=KW.us2 hl;rfl)
   (case a=>k_is)
   (case i=>k_is)
   (case l=>k_is)
   (case c=>k_is)
   (case k=>k_is)
  case Z2I =>
   refine' L2.Xd KX G ["blocks"] ?a ?l ?c ?k (fun _ _ _ _ _ _ us hl=>by obtain ⟨_,rfl⟩:=KW.us1 hl;rfl)
   (case a=>k_is)
   (case l=>k_is)
   (case c=>k_is)
   (case k=>k_is)
  case ZK =>
   refine' L2.Xe KX G ["self","place","left"] ?a ?i ?l ?c ?k (fun _ _ _ _ _ _ us hl=>by obtain ⟨_,_,_,rfl⟩:=KW.us3 hl;rfl)
   (case a=>k_is)
   (case i=>k_is)
   (case l=>k_is)
   (case c=>k_is)
   (case k=>k_is)
  case ZN =>
   refine' L2.Xe KX G ["self","size"] ?a ?i ?l ?c ?k (fun _ _ _ _ _ _ us hl=>by obtain ⟨_,_,rfl⟩:=KW.us2 hl;rfl)
   (case a=>k_is)
   (case i=>k_is)
   (case l=>k_is)
   (case c=>k_is)
   (case k=>k_is)
  case ZG =>
   refine' L2.Xe KX G ["self","place","left"] ?a ?i ?l ?c ?k (fun _ _ _ _ _ _ us hl=>by obtain ⟨_,_,_,rfl⟩:=KW.us3 hl;rfl)
   (case a=>k_is)
   (case i=>k_is)
   (case l=>k_is)
   (case c=>k_is)
   (case k=>k_is)
  case ZO =>
   refine' L2.Xe KX G ["self","size"] ?a ?i ?l ?c ?k (fun _ _ _ _ _ _ us hl=>by obtain ⟨_,_,rfl⟩:=KW.us2 hl;rfl)
   (case a=>k_is)
   (case i=>k_is)
   (case l=>k_is)
   (case c=>k_is)
   (case k=>k_is)
  case ZP =>
   refine' L2.Xe KX G ["self","size"] ?a ?i ?l ?c ?k (fun _ _ _ _ _ _ us hl=>by obtain ⟨_,_,rfl⟩:=KW.us2 hl;rfl)
   (case a=>k_is)
   (case i=>k_is)
   (case l=>k_is)
   (case c=>k_is)
   (case k=>k_is)
  case ZH =>
   refine' L2.Xe KX G ["self","size"] ?a ?i ?l ?c ?k (fun _ _ _ _ _ _ us hl=>by obtain ⟨_,_,rfl⟩:=KW.us2 hl;rfl)
   (case a=>k_is)
   (case i=>k_is)
   (case l=>k_is)
   (case c=>k_is)
   (case k=>k_is)
  case ZL =>
   refine' L2.Xe KX G ["self","size"] ?a ?i ?l ?c ?k (fun _ _ _ _ _ _ us hl=>by obtain ⟨_,_,rfl⟩:=KW.us2 hl;rfl)
   (case a=>k_is)
   (case i=>k_is)
   (case l=>k_is)
   (case c=>k_is)
   (case k=>k_is)
  case Z2b =>
   refine' L2.Xd KX G ["shape"] ?a ?l ?c ?k (fun _ _ _ _ _ _ us hl=>by obtain ⟨_,rfl⟩:=KW.us1 hl;rfl)
   (case a=>k_is)
   (case l=>k_is)
   (case c=>k_is)
   (case k=>k_is)
  case Z0J =>
   refine' L2.Yds KX G ["self"] ?aB ?ga ?rd ?a ?l ?c ?k (fun _ _ _ _ _ _ us hl=>by obtain ⟨_,rfl⟩:=KW.us1 hl;rfl)
   (case aB=>k_is)
   (case ga=>k_is)
   (case rd=>k_is)
   (case a=>k_is)
   (case l=>k_is)
   (case c=>k_is)
   (case k=>k_is)
  case Z2c =>
   refine' L2.Xd KX G ["book","name"] ?a ?l ?c ?k (fun _ _ _ _ _ _ us hl=>by obtain ⟨_,_,rfl⟩:=KW.us2 hl;rfl)
   (case a=>k_is)
   (case l=>k_is)
   (case c=>k_is)
   (case k=>k_is)
  case ZQ =>
   refine' L2.Xe KX G ["self","shape"] ?a ?i ?l ?c ?k (fun _ _ _ _ _ _ us hl=>by obtain ⟨_,_,rfl⟩:=KW.us2 hl;rfl)
   (case a=>k_is)
   (case i=>k_is)
   (case l=>k_is)
   (case c=>k_is)
   (case k=>k_is)
  case ZV =>
   refine' L2.Xe KX G ["self","shape"] ?a ?i ?l ?c ?k (fun _ _ _ _ _ _ us hl=>by obtain ⟨_,_,rfl⟩:=KW.us2 hl;rfl)
   (case a=>k_is)
   (case i=>k_is)
   (case l=>k_is)
   (case c=>k_is)
   (case k=>k_is)
  case ZM =>
   refine' L2.Xe KX G ["self","shape"] ?a ?i ?l ?c ?k (fun _ _ _ _ _ _ us hl=>by obtain ⟨_,_,rfl⟩:=KW.us2 hl;rfl)
   (case a=>k_is)
   (case i=>k_is)
   (case l=>k_is)
   (case c=>k_is)
   (case k=>k_is)
  case Z1F =>
   refine' L2.Xd KX G ["book","shape"] ?a ?l ?c ?k (fun _ _ _ _ _ _ us hl=>by obtain ⟨_,_,rfl⟩:=KW.us2 hl;rfl)
   (case a=>k_is)
   (case l=>k_is)
   (case c=>k_is)
   (case k=>k_is)
  case Z1G =>
   refine' L2.Xd KX G ["book","shape","size"] ?a ?l ?c ?k (fun _ _ _ _ _ _ us hl=>by obtain ⟨_,_,_,rfl⟩:=KW.us3 hl;rfl)
   (case a=>k_is)
   (case l=>k_is)
   (case c=>k_is)
   (case k=>k_is)
  case Z2J =>
   refine' L2.Xd KX G ["book","shape","size"] ?a ?l ?c ?k (fun _ _ _ _ _ _ us hl=>by obtain ⟨_,_,_,rfl⟩:=KW.us3 hl;rfl)
   (case a=>k_is)
   (case l=>k_is)
   (case c=>k_is)
   (case k=>k_is)
  case Z1H =>
   refine' L2.Xd KX G ["_law_found"] ?a ?l ?c ?k (fun _ _ _ _ _ _ us hl=>by obtain ⟨_,rfl⟩:=KW.us1 hl;rfl)
   (case a=>k_is)
   (case l=>k_is)
   (case c=>k_is)
   (case k=>k_is)
  case Z2K =>
   refine' L2.Xd KX G ["_law_script","_law_k","_law_step"] ?a ?l ?c ?k (fun _ _ _ _ _ _ us hl=>by obtain ⟨_,_,_,rfl⟩:=KW.us3 hl;rfl)
   (case a=>k_is)
   (case l=>k_is)
   (case c=>k_is)
   (case k=>k_is)
  case Z2d =>
   refine' L2.Xd KX G ["_law_script","_law_many"] ?a ?l ?c ?k (fun _ _ _ _ _ _ us hl=>by obtain ⟨_,_,rfl⟩:=KW.us2 hl;rfl)
   (case a=>k_is)
   (case l=>k_is)
   (case c=>k_is)
   (case k=>k_is)
  case Z2e =>
   refine' L2.Xd KX G ["_law_feed_here"] ?a ?l ?c ?k (fun _ _ _ _ _ _ us hl=>by obtain ⟨_,rfl⟩:=KW.us1 hl;rfl)
   (case a=>k_is)
   (case l=>k_is)
   (case c=>k_is)
   (case k=>k_is)
  case Z0z =>
   refine' L2.Xd KX G ["_law_feed_here"] ?a ?l ?c ?k (fun _ _ _ _ _ _ us hl=>by obtain ⟨_,rfl⟩:=KW.us1 hl;rfl)
   (case a=>k_is)
   (case l=>k_is)
   (case c=>k_is)
   (case k=>k_is)
  case Z1r =>
   refine' L2.Xd KX G ["_law_found","_law_due_here"] ?a ?l ?c ?k (fun _ _ _ _ _ _ us hl=>by obtain ⟨_,_,rfl⟩:=KW.us2 hl;rfl)
   (case a=>k_is)
   (case l=>k_is)
   (case c=>k_is)
   (case k=>k_is)
  case Z1I =>
   refine' L2.Xd KX G ["_law_cell","_law_many"] ?a ?l ?c ?k (fun _ _ _ _ _ _ us hl=>by obtain ⟨_,_,rfl⟩:=KW.us2 hl;rfl)
   (case a=>k_is)
   (case l=>k_is)
   (case c=>k_is)
   (case k=>k_is)
  case Z17 =>
   refine' L2.Xd KX G ["_law_feed_here","_law_names"] ?a ?l ?c ?k (fun _ _ _ _ _ _ us hl=>by obtain ⟨_,_,rfl⟩:=KW.us2 hl;rfl)
   (case a=>k_is)
   (case l=>k_is)
   (case c=>k_is)
   (case k=>k_is)
  case Z0A =>
   refine' L2.Xd KX G ["_law_span","_law_size"] ?a ?l ?c ?k (fun _ _ _ _ _ _ us hl=>by obtain ⟨_,_,rfl⟩:=KW.us2 hl;rfl)
   (case a=>k_is)
   (case l=>k_is)
   (case c=>k_is)
   (case k=>k_is)
  case Z0X =>
   refine' L2.Xd KX G ["_law_parts","_law_uses","_law_size"] ?a ?l ?c ?k (fun _ _ _ _ _ _ us hl=>by obtain ⟨_,_,_,rfl⟩:=KW.us3 hl;rfl)
   (case a=>k_is)
   (case l=>k_is)
   (case c=>k_is)
   (case k=>k_is)
  case Z2L =>
   refine' L2.Xd KX G ["_law_book","_law_size"] ?a ?l ?c ?k (fun _ _ _ _ _ _ us hl=>by obtain ⟨_,_,rfl⟩:=KW.us2 hl;rfl)
   (case a=>k_is)
   (case l=>k_is)
   (case c=>k_is)
   (case k=>k_is)
  case Zp =>
   refine' ⟨?a,?b,?c,?d⟩
   (case a=>k_is)
   (case b=>k_is)
   (case c=>k_is)
   (case d=>k_is)
  case Zs =>
   refine' L2.YN ?a
   (case a=>k_is)
  case Zn =>
   refine' L2.YN ?a
   (case a=>k_is)
  case Zc =>
   refine' ⟨?a,?b,?c,?d⟩
   (case a=>k_is)
   (case b=>k_is)
   (case c=>k_is)
   (case d=>k_is)
  case Z7 =>
   refine' L2.YN ?a
   (case a=>k_is)
  case Zg =>
   refine' L2.YN ?a
   (case a=>k_is)
  case Zf =>
   refine' L2.YN ?a
   (case a=>k_is)
  case Zh =>
   refine' ⟨?a,?b,?c,?d⟩
   (case a=>k_is)
   (case b=>k_is)
   (case c=>k_is)
   (case d=>k_is)
  case Z8 =>
   refine' L2.YN ?a
   (case a=>k_is)
  case Zk =>
   refine' L2.YN ?a
   (case a=>k_is)
  case Zi =>
   refine' L2.YN ?a
   (case a=>k_is)
  case Zm =>
   refine' ⟨?a,?b,?c,?d⟩
   (case a=>k_is)
   (case b=>k_is)
   (case c=>k_is)
   (case d=>k_is)
  case Zo =>
   refine' L2.YN ?a
   (case a=>k_is)
  case Zl =>
   refine' L2.YN ?a
   (case a=>k_is)
  case Zd =>
   refine' ⟨?a,?b,?c,?d⟩
   (case a=>k_is)
   (case b=>k_is)
   (case c=>k_is)
   (case d=>k_is)
  case Z9 =>
   refine' L2.YN ?a
   (case a=>k_is)
  case Zb =>
   refine' L2.YN ?a
   (case a=>k_is)
  case Za =>
   refine' ⟨?a,?b,?c,?d⟩
   (case a=>k_is)
   (case b=>k_is)
   (case c=>k_is)
   (case d=>k_is)
  case Z6 =>
   refine' L2.YN ?a
   (case a=>k_is)
  case Zj =>
   refine' L2.YN ?a
   (case a=>k_is)
  case Ze =>
   refine' L2.YN ?a
   (case a=>k_is)
  case b_bool =>
   refine' PySem.W.mg_none_of KX G ?a
   (case a=>k_is)
  case b_int =>
   refine' PySem.W.mg_none_of KX G ?a
   (case a=>k_is)
  case ZJ =>
   refine' PySem.W.mg_none_of KX G ?a
   (case a=>k_is)
  case b_len =>
   refine' PySem.W.mg_none_of KX G ?a
   (case a=>k_is)
  case b_list =>
   refine' PySem.W.mg_none_of KX G ?a
   (case a=>k_is)
  case b_max =>
   refine' PySem.W.mg_none_of KX G ?a
   (case a=>k_is)
  case b_min =>
   refine' PySem.W.mg_none_of KX G ?a
   (case a=>k_is)
  case Zq =>
   refine' PySem.W.mg_none_of KX G ?a
   (case a=>k_is)
  case b_sum =>
   refine' PySem.W.mg_none_of KX G ?a
   (case a=>k_is)
  case Z1l =>
   refine' PySem.W.mg_none_of KX G ?a
   (case a=>k_is)
  case b_zip =>
   refine' PySem.W.mg_none_of KX G ?a
   (case a=>k_is)
