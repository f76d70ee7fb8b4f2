import PyProof.Rows.All
import Wide.All
import OpenK.AllK
import Wide.FinOn
import Lean
import PyProof.EqAt
import PyProof.EqKinds
import PyProof.TupleCall
import PyProof.NeData
import KE.KTryMore
import PyProof.ExcBaseAll.ValueError
import PyProof.ExcArgsOwn
import KE.KIntText
import PyProof.Rows.SetFrom
import PyProof.SetRoads
import PyProof.StrWalks
import PyProof.ListStr
import PyProof.Rows.StrSplitCount
import PyProof.MeetsStr
import PyProof.MeetsStr2
import PyProof.StrOps2
import KE.KTryOn
import OpenK.KMake
import PyProof.ReprRoads
import PyProof.ReprLen
import PyProof.StrLawsRepr
import PyProof.CallFns
import KE.KSortTup
import PySem.Challenge.RW_countgen_k25_lists_in_order_compared
set_option compiler.extract_closed false
set_option Elab.async false
set_option linter.all false
set_option maxRecDepth 100000
namespace L2
open PySem PySem.Spec PyProof.Rows
abbrev Key:=Sum Int Str
def WV:Key→Value→Bool
 | .inl k,v=>Value.isInt k v
 | .inr x,v=>Value.isStrOf x v
def keyH (w:World):Key→Int
 | .inl k=>hashInt k
 | .inr x=>hashStr w x
theorem YV:∀ {k:Key} {v:Value},WV k v=true→(∃ i t,k=Sum.inl i∧v=Value.int i t)∨(∃ x t,k=Sum.inr x∧v=Value.str x t)
 | .inl i,v,h=>by
  obtain ⟨t,e⟩:=Value.isInt_shape (k:=i) (v:=v) h
  exact .inl ⟨i,t,rfl,e⟩
 | .inr x,v,h=>by
  obtain ⟨t,e⟩:=Value.isStrOf_shape (x:=x) (v:=v) h
  exact .inr ⟨x,t,rfl,e⟩
theorem Yak (i:Int) (t:Tok):WV (.inl i) (.int i t)=true:=by simp [WV,Value.isInt]
theorem Yal (x:Str) (t:Tok):WV (.inr x) (.str x t)=true:=by simp [WV,Value.isStrOf]
theorem YcD (a b:Int):decide ((Sum.inl a:Key)=Sum.inl b)=(a==b):=by
 by_cases e:a=b
 ·subst e;simp
 ·have h:¬ (Sum.inl a:Key)=Sum.inl b:=fun q=>e (Sum.inl.inj q)
  rw [decide_eq_false h]
  exact (beq_eq_false_iff_ne.mpr e).symm
theorem YcE (a b:Str):decide ((Sum.inr a:Key)=Sum.inr b)=decide (a=b):=by
 by_cases e:a=b
 ·subst e;simp
 ·have h:¬ (Sum.inr a:Key)=Sum.inr b:=fun q=>e (Sum.inr.inj q)
  rw [decide_eq_false h,decide_eq_false e]
theorem YcF (a:Int) (b:Str):decide ((Sum.inl a:Key)=Sum.inr b)=false:=decide_eq_false (fun q=>nomatch q)
theorem YcG (a:Str) (b:Int):decide ((Sum.inr a:Key)=Sum.inl b)=false:=decide_eq_false (fun q=>nomatch q)
def Xl (prog:Program) (w:World):PySem.KeyKind prog w Key where
 is:=WV
 hash:=keyH w
 inj:=fun v a b ha hb=>by
  rcases YV ha with ⟨i,t,rfl,rfl⟩ | ⟨x,t,rfl,rfl⟩
  ·rcases YV hb with ⟨j,u,rfl,e⟩ | ⟨y,u,rfl,e⟩
   ·injection e with e1 _;rw [e1]
   ·exact nomatch e
  ·rcases YV hb with ⟨j,u,rfl,e⟩ | ⟨y,u,rfl,e⟩
   ·exact nomatch e
   ·injection e with e1 _;rw [e1]
 byValue:=fun k v h=>by
  rcases YV h with ⟨i,t,rfl,rfl⟩ | ⟨x,t,rfl,rfl⟩<;>rfl
 pyHash:=fun hv h=>by
  rcases YV hv with ⟨i,t,rfl,rfl⟩ | ⟨x,t,rfl,rfl⟩
  ·exact wpAny_pyHash_int h
  ·exact wpAny_pyHash_str h
 eqBool:=fun hu hv h=>by
  rcases YV hu with ⟨i,t,rfl,rfl⟩ | ⟨x,t,rfl,rfl⟩
  ·rcases YV hv with ⟨j,u,rfl,rfl⟩ | ⟨y,u,rfl,rfl⟩
   ·rw [YcD] at h;exact wpAny_eqBool_int h
   ·rw [YcF] at h;exact SeqAt.EqAt.int_str i t y u _ _ _ _ h
  ·rcases YV hv with ⟨j,u,rfl,rfl⟩ | ⟨y,u,rfl,rfl⟩
   ·rw [YcG] at h;exact SeqAt.EqAt.str_int x t j u _ _ _ _ h
   ·rw [YcE] at h;exact wpAny_eqBool_str h
 «strs»:=fun k x t v h=>by
  rcases YV h with ⟨i,u,rfl,e⟩ | ⟨y,u,rfl,e⟩
  ·exact nomatch e
  ·injection e with e1 _
   subst e1
   cases v<;>rfl
theorem Qc (prog:Program) (w:World) (i:Int) (t:Tok):(Xl prog w).is (.inl i) (.int i t)=true:=Yak i t
theorem Qd (prog:Program) (w:World) (x:Str) (t:Tok):(Xl prog w).is (.inr x) (.str x t)=true:=Yal x t
end L2
namespace L2
open PySem PySem.Spec PyProof.Rows
inductive V where
 | non | bl (b:Bool) | int (i:Int) | str (x:Str) | byt (b:Array UInt8) | flt (b:UInt64) | ref (a:Addr) | ty (n:String)
 deriving DecidableEq
def Ys:V→Value→Prop
 | .non,u=>u=Value.none
 | .bl b,u=>u=Value.bool b
 | .int i,u=>∃ t,u=Value.int i t
 | .str x,u=>∃ t,u=Value.str x t
 | .byt b,u=>∃ t,u=Value.bytes b t
 | .flt b,u=>∃ t,u=Value.float b t
 | .ref a,u=>u=Value.ref a
 | .ty n,u=>u=Value.type n
abbrev Yn:List V→List Value→Prop:=Paired Ys
theorem Yn.length {xs:List V} {us:List Value} (r:Yn xs us):xs.length=us.length:=Paired.length r
theorem Yn.get:∀ {xs:List V} {us:List Value} {i:Nat} {x:V},Yn xs us→xs[i]?=some x→∃ u,us[i]?=some u∧Ys x u
 | _,_,_,_,.nil,e=>by simp at e
 | _,_,0,_,.cons r _,e=>by simp at e;subst e;exact ⟨_,rfl,r⟩
 | _,_,i+1,x,.cons _ t,e=>by
  obtain ⟨u,h1,h2⟩:=Yn.get (i:=i) (x:=x) t (by simpa using e)
  exact ⟨u,by simpa using h1,h2⟩
theorem Yn.set {x:V} {u:Value} (r:Ys x u):∀ {xs:List V} {us:List Value} (i:Nat),Yn xs us→Yn (xs.set i x) (us.set i u)
 | _,_,_,.nil => .nil
 | _,_,0,.cons _ t => .cons r t
 | _,_,i+1,.cons q t => .cons q (Yn.set r i t)
theorem Yn.append:∀ {xs ys:List V} {us ws:List Value},Yn xs us→Yn ys ws→Yn (xs++ys) (us++ws)
 | _,_,_,_,.nil,s=>s
 | _,_,_,_,.cons r t,s => .cons r (Yn.append t s)
theorem Yn.take:∀ {xs:List V} {us:List Value} (n:Nat),Yn xs us→Yn (xs.take n) (us.take n)
 | _,_,0,_ => .nil
 | _,_,_+1,.nil => .nil
 | _,_,n+1,.cons r t => .cons r (Yn.take n t)
theorem Yn.drop:∀ {xs:List V} {us:List Value} (n:Nat),Yn xs us→Yn (xs.drop n) (us.drop n)
 | _,_,0,r=>r
 | _,_,_+1,.nil => .nil
 | _,_,n+1,.cons _ t=>Yn.drop n t
def Uw:Option V→Option Value→Prop
 | some v,some u=>Ys v u
 | none,none=>True
 | _,_=>False
def KV {κ:Type}:List (κ×V)→List (κ×Value)→Prop:=Paired fun (p:κ×V) (q:κ×Value)=>p.1=q.1∧Ys p.2 q.2
def kV:Key→V
 | .inl i => .int i
 | .inr x => .str x
inductive HO where
 /-- a list -/
 | lst (xs:List V)
 /-- a tuple (never changes) -/
 | tup (xs:List V)
 /-- a dict whose keys are ints and texts;one whose keys are tuples of ints and texts (the empty one is both) -/
 | dK (kvs:List (Key×V)) | dT (kvs:List (List Key×V))
 /-- a set of ints: its members,its size -/
 | set (S:Int→Bool) (n:Nat)
 /-- an instance of the class at C,its dict at dx,its attributes -/
 | ins (C dx:Addr) (fs:List (Str×V))
 /-- the dict of the instance at x -/
 | own (x:Addr)
 /-- the dict of an exception -/
 | xd (fs:List (Str×V))
 /-- a bound method,f of x -/
 | met (f x:Addr)
 /-- a range object lo,lo+1,.. below hi -/
 | rng (lo hi:Int)
 /-- a YJ that is known to the object (the script;a dict while a loop walks it): read,never written while it is so -/
 | frz (o:Obj) (u:HO)
 /-- a code object's table -/
 | tbl (ps:Array Value)
 /-- any other YJ,by what is true of its one object (a def of one's own: SetO a S n:=HO.ext fun h => ..) -/
 | ext (φ:Heap→Prop)
abbrev Hp:=Addr→Option HO
def upd (H:Hp) (a:Addr) (o:HO):Hp:=fun b=>if b=a then some o else H b
theorem Yd {H:Hp} {a:Addr} {o:HO}:upd H a o a=some o:=by unfold upd;rw [if_pos rfl]
theorem Yl {H:Hp} {a b:Addr} {o:HO} (h:b≠a):upd H a o b=H b:=by unfold upd;rw [if_neg h]
theorem Um {H:Hp} {a b:Addr} {o u:HO} (h:H a=some o) (h':H b=some u) (d:o≠u):a≠b:=by
 intro e;subst e;rw [h] at h';exact d (Option.some.inj h')
theorem Y0 {H:Hp} {a b:Addr} {o:HO} (h:H a=some o) (h':H b=none):a≠b:=by
 intro e;subst e;rw [h] at h';cases h'
section
variable (P:Program) (w:World)
def YN (H:Hp) (h:Heap) (a:Addr):HO→Prop
 | .lst xs=>xs.length≤sizeLine∧∃ (its:List Value) (n:Nat),Yn xs its∧h.get? a=some { cls := .type "list",data := .seq its.toArray n }
 | .tup xs=>xs.length≤sizeLine∧∃ its:List Value,Yn xs its∧IsTup h a its.toArray
 | .dK kvs=>kvs.length≤sizeLine∧(a==sysModules)=false∧∃ vs,KV kvs vs∧h.DictOf (Xl P w) a vs
 | .dT kvs=>kvs.length≤sizeLine∧(a==sysModules)=false∧∃ xs:List (List Key×Addr×Value),
   Paired (fun (p:List Key×V) (q:List Key×Addr×Value)=>p.1=q.1∧H q.2.1=some (.tup (p.1.map kV))∧Ys p.2 q.2.2) kvs xs ∧
   ∃ o es ep,h.get? a=some o∧o.ExactDict∧o.data = .dict es ep∧es.toList=xs.map (entryOfKey (tupleKind (Xl P w)))∧(xs.map (·.1)).Nodup
 | .set S n=>h.SetOf (intKind P w) a S n
 | .ins C dx fs=>H dx=some (.own a)∧fs.length≤1000∧dx≠a∧h.get? a=some (PySem.W.instObj C dx) ∧
   ∃ mA,h.Ns1 dx mA∧(∀ f,Uw (fs.lookup f) (mA f))∧PySem.Within mA (fs.map (·.1))
 | .own _=>∃ o,h.get? a=some o
 | .xd fs=>∃ mA,h.Ns1 a mA∧∀ f,Uw (fs.lookup f) (mA f)
 | .rng lo hi=>∃ t u v,h.get? a=some { cls := .type "range",data := .fields #[.int lo t,.int hi u,.int 1 v] }
 | .frz o u=>h.get? a=some o∧YN H h a u
 | .tbl ps=>h.get? a=some { cls := .none,data := .fields ps }
 | .met f x=>h.get? a=some (PySem.W.methodObj (.ref f) (.ref x))
 | .ext φ=>φ h∧(∃ o,h.get? a=some o)∧∀ h1 h2:Heap,φ h1→(∀ o,h1.get? a=some o→h2.get? a=some o)→φ h2
def HOk (H:Hp) (h:Heap):Prop:=∀ a o,H a=some o→YN P w H h a o
end
section
variable {P:Program} {w:World} {H H':Hp} {h h':Heap} {a:Addr} {o:HO}
theorem YN.lt (x:YN P w H h a o):a<h.objs.size:=by
 cases o with
 | lst xs=>obtain ⟨_,_,_,_,e⟩:=x;exact Heap.lt_size e
 | tup xs=>obtain ⟨_,_,_,p⟩:=x;exact p.lt
 | dK kvs=>obtain ⟨_,_,_,_,o,_,_,e,_⟩:=x;exact Heap.lt_size e
 | dT kvs=>obtain ⟨_,_,_,_,o,_,_,e,_⟩:=x;exact Heap.lt_size e
 | set S n=>obtain ⟨o,_,_,_,e,_⟩:=x;exact Heap.lt_size e
 | ins C dx fs=>obtain ⟨_,_,_,e,_⟩:=x;exact Heap.lt_size e
 | own y=>obtain ⟨_,e⟩:=x;exact Heap.lt_size e
 | xd fs=>obtain ⟨_,⟨_,_,_,e,_⟩,_⟩:=x;exact Heap.lt_size e
 | rng lo hi=>obtain ⟨_,_,_,e⟩:=x;exact Heap.lt_size e
 | frz ob u=>obtain ⟨e,_⟩:=x;exact Heap.lt_size e
 | tbl ps=>exact Heap.lt_size (show h.get? a=some _ from x)
 | met f y=>exact Heap.lt_size (show h.get? a=some _ from x)
 | ext φ=>obtain ⟨_,⟨_,e⟩,_⟩:=x;exact Heap.lt_size e
theorem Paired.mapP {α β:Type} {F G:α→β→Prop}:∀ {l₁:List α} {l₂:List β},Paired F l₁ l₂→(∀ a b,F a b→G a b)→Paired G l₁ l₂
 | _,_,.nil,_ => .nil
 | _,_,.cons r t,f => .cons (f _ _ r) (Paired.mapP t f)
theorem YN.stay (x:YN P w H h a o) (k:∀ b u,(b=a∨H b=some (.own a))→h.get? b=some u→h'.get? b=some u)
  (ho:∀ b,H b=some (.own a)→H' b=some (.own a)) (ht:∀ b xs,H b=some (.tup xs)→H' b=some (.tup xs)):YN P w H' h' a o:=by
 induction o with
 | lst xs=>obtain ⟨z,its,n,r,e⟩:=x;exact ⟨z,its,n,r,k _ _ (.inl rfl) e⟩
 | tup xs=>obtain ⟨z,its,r,ob,e,c⟩:=x;exact ⟨z,its,r,ob,k _ _ (.inl rfl) e,c⟩
 | dK kvs=>obtain ⟨z,y,vs,r,ob,es,ep,e,c⟩:=x;exact ⟨z,y,vs,r,ob,es,ep,k _ _ (.inl rfl) e,c⟩
 | dT kvs =>
  obtain ⟨z,y,xs,r,ob,es,ep,e,c⟩:=x
  exact ⟨z,y,xs,Paired.mapP r fun p q z=>⟨z.1,ht _ _ z.2.1,z.2.2⟩,ob,es,ep,k _ _ (.inl rfl) e,c⟩
 | set S n=>obtain ⟨ob,es,ep,t,e,c⟩:=x;exact ⟨ob,es,ep,t,k _ _ (.inl rfl) e,c⟩
 | ins C dx fs =>
  obtain ⟨d,z,ne,e,mA,⟨od,es,ep,e2,c⟩,r⟩:=x
  exact ⟨ho _ d,z,ne,k _ _ (.inl rfl) e,mA,⟨od,es,ep,k _ _ (.inr d) e2,c⟩,r⟩
 | own y=>obtain ⟨ob,e⟩:=x;exact ⟨ob,k _ _ (.inl rfl) e⟩
 | xd fs=>obtain ⟨mA,⟨od,es,ep,e,c⟩,r⟩:=x;exact ⟨mA,⟨od,es,ep,k _ _ (.inl rfl) e,c⟩,r⟩
 | rng lo hi=>obtain ⟨t,u,v,e⟩:=x;exact ⟨t,u,v,k _ _ (.inl rfl) e⟩
 | frz ob u ih=>obtain ⟨e,q⟩:=x;exact ⟨k _ _ (.inl rfl) e,ih q⟩
 | tbl ps =>
  have e:h.get? a=some { cls := .none,data := .fields ps }:=x
  show h'.get? a=some { cls := .none,data := .fields ps }
  exact k a _ (.inl rfl) e
 | met f y =>
  have e:h.get? a=some (PySem.W.methodObj (.ref f) (.ref y)):=x
  show h'.get? a=some (PySem.W.methodObj (.ref f) (.ref y))
  exact k a _ (.inl rfl) e
 | ext φ=>obtain ⟨p,⟨o,e⟩,st⟩:=x;exact ⟨st _ _ p fun o q=>k _ _ (.inl rfl) q,⟨o,k _ _ (.inl rfl) e⟩,st⟩
theorem HOk.lt (x:HOk P w H h) (e:H a=some o):a<h.objs.size:=(x a o e).lt
theorem HOk.fresh (x:HOk P w H h) (e:h.objs.size≤a):H a=none:=by
 cases q:H a with
 | none=>rfl
 | some u=>exact absurd (Nat.lt_of_lt_of_le (x.lt q) e) (Nat.lt_irrefl _)
theorem HOk.kept (x:HOk P w H h) (k:∀ b u,h.get? b=some u→h'.get? b=some u):HOk P w H h':=fun a o e =>
 (x a o e).stay (fun b u _ q=>k b u q) (fun _ q=>q) fun _ _ q=>q
theorem HOk.laid (x:HOk P w H h) (k:∀ b u,h.get? b=some u→h'.get? b=some u) (hp:h.objs.size≤a) (new:YN P w (upd H a o) h' a o):HOk P w (upd H a o) h':=fun b u e=>by
 have hn:=x.fresh hp
 by_cases hb:b=a
 ·subst hb;rw [Yd] at e;cases e;exact new
 ·rw [Yl hb] at e
  exact (x b u e).stay (fun c v _ q=>k c v q) (fun c q=>by rw [Yl (Y0 q hn)];exact q) fun c xs q=>by rw [Yl (Y0 q hn)];exact q
end
def Rd (H:Hp) (a:Addr) (u:HO):Prop:=H a=some u∨∃ o,H a=some (.frz o u)
theorem Rd.of {H:Hp} {a:Addr} {u:HO} (h:H a=some u):Rd H a u := .inl h
theorem Rd.ok {P:Program} {w:World} {H:Hp} {h:Heap} {a:Addr} {u:HO} (r:Rd H a u) (x:HOk P w H h):YN P w H h a u:=by
 rcases r with r | ⟨o,r⟩
 ·exact x a u r
 ·obtain ⟨_,q⟩:=x a _ r
  exact q
def Mut:Option HO→Prop
 | some (.lst _)=>True
 | some (.dK _)=>True
 | some (.dT _)=>True
 | some (.set _ _)=>True
 | some (.ins _ _ _)=>True
 | some (.ext _)=>True
 | _=>False
section
variable {P:Program} {w:World} {H:Hp} {h h':Heap} {x e:Addr} {o':HO}
theorem HOk.write (ok:HOk P w H h) (mu:Mut (H x)) (he:e=x∨H e=some (.own x)) (k:∀ b u,b≠e→h.get? b=some u→h'.get? b=some u) (heo:∃ u,h'.get? e=some u)
  (new:YN P w (upd H x o') h' x o'):HOk P w (upd H x o') h':=fun b u q=>by
 have nown:∀ c y,H c=some (.own y)→c≠x:=fun c y r z=>by subst z;rw [r] at mu;exact mu
 have ntup:∀ c xs,H c=some (.tup xs)→c≠x:=fun c xs r z=>by subst z;rw [r] at mu;exact mu
 by_cases hb:b=x
 ·subst hb;rw [Yd] at q;cases q;exact new
 ·rw [Yl hb] at q
  by_cases hbe:b=e
  ·have q':H b=some (.own x):=by
    rcases he with z | z
    ·exact absurd (hbe.trans z) hb
    ·rw [hbe];exact z
   rw [q] at q';cases q'
   obtain ⟨v,hv⟩:=heo
   exact ⟨v,by rw [hbe];exact hv⟩
  ·refine (ok b u q).stay (fun c v hc r=>k c v ?_ r) (fun c r=>by rw [Yl (nown c b r)];exact r) fun c xs r=>by rw [Yl (ntup c xs r)];exact r
   rcases hc with rfl | hc
   ·exact hbe
   ·rintro rfl
    rcases he with z | z
    ·exact nown c b hc z
    ·rw [hc] at z;cases z;exact hb rfl
end
structure Un (fs ex:List Addr) (H H':Hp) (h h':Heap):Prop where
 keep:∀ b o,h.get? b=some o→H b=none→b∉fs→b∉ex→h'.get? b=some o
 slot:∀ b o,h.get? b=some o→H b=none→b∈fs→b∉ex→∃ sl,h'.get? b=some { o with slots:=sl }
 free:∀ b o,h.get? b=some o→H b=none→b∉ex→H' b=none
 there:∀ b o,h.get? b=some o→b∉ex→∃ o',h'.get? b=some o'
 tups:∀ b xs,H b=some (.tup xs)→H' b=some (.tup xs)
 frzs:∀ b o u,H b=some (.frz o u)→H' b=some (.frz o u)
 tbls:∀ b ps,H b=some (.tbl ps)→∃ more,H' b=some (.tbl (ps++more))
section
variable {fs fs' ex ex':List Addr} {H H1 H2:Hp} {h h1 h2 h':Heap} {a x e:Addr} {o:HO}
theorem Un.any (u:Un fs ex H H1 h h1) {b:Addr} {ob:Obj} (q:h.get? b=some ob) (n:H b=none) (hx:b∉ex):∃ sl,h1.get? b=some { ob with slots:=sl }:=by
 by_cases hb:b∈fs
 ·exact u.slot b ob q n hb hx
 ·exact ⟨ob.slots,u.keep b ob q n hb hx⟩
theorem Un.trans (a:Un fs ex H H1 h h1) (b:Un fs ex H1 H2 h1 h2):Un fs ex H H2 h h2 where
 keep:=fun c ob q n hc hx=>b.keep c ob (a.keep c ob q n hc hx) (a.free c ob q n hx) hc hx
 slot:=fun c ob q n hc hx=>by
  obtain ⟨sl,e1⟩:=a.slot c ob q n hc hx
  obtain ⟨sl',e2⟩:=b.slot c _ e1 (a.free c ob q n hx) hc hx
  exact ⟨sl',e2⟩
 free:=fun c ob q n hx=>by
  obtain ⟨o',e1⟩:=a.there c ob q hx
  exact b.free c o' e1 (a.free c ob q n hx) hx
 there:=fun c ob q hx=>by
  obtain ⟨o',e1⟩:=a.there c ob q hx
  exact b.there c o' e1 hx
 tups:=fun c xs q=>b.tups c xs (a.tups c xs q)
 frzs:=fun c ob xs q=>b.frzs c ob xs (a.frzs c ob xs q)
 tbls:=fun c ps q=>by
  obtain ⟨m1,e1⟩:=a.tbls c ps q
  obtain ⟨m2,e2⟩:=b.tbls c _ e1
  exact ⟨m1++m2,by rw [e2,Array.append_assoc]⟩
theorem Un.kept (k:∀ b u,h.get? b=some u→h'.get? b=some u):Un fs ex H H h h' :=
 ⟨fun b ob q _ _ _=>k b ob q,fun b ob q _ _ _=>⟨ob.slots,k b ob q⟩,fun _ _ _ n _=>n,fun b ob q _=>⟨ob,k b ob q⟩,fun _ _ q=>q,fun _ _ _ q=>q,fun _ ps q=>⟨#[],by rw [q];simp⟩⟩
theorem Un.refl:Un fs ex H H h h:=Un.kept fun _ _ q=>q
theorem Un.laid (k:∀ b u,h.get? b=some u→h'.get? b=some u) (hp:h.objs.size≤a) (hn:H a=none):Un fs ex H (upd H a o) h h' where
 keep:=fun b u q _ _ _=>k b u q
 slot:=fun b u q _ _ _=>⟨u.slots,k b u q⟩
 free:=fun b u q n _=>by rw [Yl (Nat.ne_of_lt (Nat.lt_of_lt_of_le (Heap.lt_size q) hp))];exact n
 there:=fun b u q _=>⟨u,k b u q⟩
 tups:=fun b xs q=>by rw [Yl (Y0 q hn)];exact q
 frzs:=fun b u xs q=>by rw [Yl (Y0 q hn)];exact q
 tbls:=fun b ps q=>⟨#[],by rw [Yl (Y0 q hn),q];simp⟩
theorem Un.write (mu:Mut (H x)) (he:e=x∨H e=some (.own x)) (k:∀ b u,b≠e→h.get? b=some u→h'.get? b=some u) (heo:∃ u,h'.get? e=some u):Un fs ex H (upd H x o) h h':=by
 have hx:∀ b,H b=none→b≠x:=fun b n z=>by subst z;rw [n] at mu;exact mu
 have hb:∀ b,H b=none→b≠e:=fun b n z=>by
  subst z
  rcases he with r | r
  ·exact hx b n r
  ·rw [n] at r;cases r
 have hm:∀ b u,H b=some u→¬ Mut (some u)→b≠x:=fun b u q nm z=>by subst z;rw [q] at mu;exact nm mu
 refine ⟨fun b u q n _ _=>k b u (hb b n) q,fun b u q n _ _=>⟨u.slots,k b u (hb b n) q⟩,fun b u q n _=>by rw [Yl (hx b n)];exact n,fun b u q _=>?_,
  fun b xs q=>by rw [Yl (hm b _ q fun z=>z)];exact q,fun b u xs q=>by rw [Yl (hm b _ q fun z=>z)];exact q,fun b ps q=>⟨#[],by rw [Yl (hm b _ q fun z=>z),q];simp⟩⟩
 by_cases hbe:b=e
 ·subst hbe;exact heo
 ·exact ⟨u,k b u hbe q⟩
end
def trk (h:Heap) (H:Hp):List Addr:=(List.range h.objs.size).filter fun a=>(H a).isSome
def Ww (h:Heap) (H:Hp):Heap:=PySem.W.hideAll h (trk h H)
theorem Yam (h:Heap) (H:Hp):(Ww h H).objs.size=h.objs.size:=PySem.W.hideAll_size _ _
theorem Ybf {h:Heap} {H:Hp} {b:Addr} {o:Obj} (e:h.get? b=some o) (n:H b=none):(Ww h H).get? b=some o :=
 PySem.W.hideAll_get _ e fun hm=>by
  have q:(H b).isSome=true:=(List.mem_filter.mp hm).2
  rw [n] at q;simp at q
theorem Yb3 {h:Heap} {H:Hp} {b:Addr} {o:Obj} (e:(Ww h H).get? b=some o):h.get? b=some o∧H b=none:=by
 have e':h.get? b=some o:=PySem.W.of_hideAll (trk h H) e
 refine ⟨e',?_⟩
 cases q:H b with
 | none=>rfl
 | some x =>
  have hm:b∈trk h H:=List.mem_filter.mpr ⟨List.mem_range.mpr (Heap.lt_size e'),by simp [q]⟩
  have z:(Ww h H).get? b=none:=PySem.W.hideAll_none (trk h H) hm
  rw [z] at e;cases e
def Yb4 (g h:Heap) (L:Addr):List (Addr×Obj):=(List.range h.objs.size).filterMap fun a=>if a=L∨(g.get? a).isSome=true then none else (h.get? a).map fun o=>(a,o)
def YW (g h:Heap) (L d:Addr):List (Addr×Obj):=(Yb4 g h L).filter fun p=>decide (p.1≠d)
end L2
namespace L2
open PySem PySem.Spec PyProof.Rows
structure Mod (K:PySem.W.Frag) (mg:Str→Option Value) (base:Heap):Prop where
 kin:K.In base
 glob:base.Ns mainGlobals mg
 blt:∃ mb,base.Ns builtinsNs mb∧∀ x:Str,x≠"__name__"→mb x=bootBuiltins x
 nolimit:base.NoLimit
structure Cx where
 prog:Program
 w:World
 K:PySem.W.Frag
 mg:Str→Option Value
 base:Heap
 A:Around
 N:List Str
 s₀:Shared
 H₀:Hp
 env:Env
 outer:List Env
 stack:List Env
 ex:List Addr
 fn:Str→Bool
 calm:Bool
 pn:List (Addr×Obj)
 xe:Value→Shared→Prop
def frs (l:List Env):List Addr:=l.filterMap (·.frame)
abbrev Cx.fs (X:Cx):List Addr:=frs X.outer
def Vis (sc:Scope) (x:Str):Prop:=sc.names.lookup x=some .local∨sc.names.lookup x=some .cell∨sc.names.lookup x=some .free
def Loc (sc:Scope) (x:Str):Prop:=sc.names.lookup x=some .local∨sc.names.lookup x=some .cell
def Look (env:Env) (h:Heap) (m:Str→Option Value) (x:Str) (u:Value):Prop :=
 (env.kindOf x=some .local∧m x=some u)∨((env.kindOf x=some .cell∨env.kindOf x=some .free)∧∃ c,env.cells.lookup x=some c∧h.IsCell c (some u))
structure Cx.Ok (X:Cx):Prop where
 mod:Mod X.K X.mg X.base
 kind:X.env.scope.kind = .function
 glob:X.env.globals=mainGlobals
 blt:X.env.builtins=builtinsNs
 above:X.s₀.heap.objs.size≤X.env.locals
 inj:∀ x y c,X.env.cells.lookup x=some c→X.env.cells.lookup y=some c→x=y
 has:∀ x,(X.env.kindOf x=some .cell∨X.env.kindOf x=some .free)→∃ c,X.env.cells.lookup x=some c
 cab:∀ x c,X.fn x=true→X.env.cells.lookup x=some c→X.s₀.heap.objs.size≤c
 hd:X.calm=true→X.A.handled=none
 frames:X.A.frames=some X.stack
 stk:X.stack=X.outer∨(X.stack=X.env::X.outer∧X.env.frame=some X.env.locals)
 exf:∀ b∈X.ex,b≠X.env.locals∧∀ x c,X.env.cells.lookup x=some c→c≠b
 bs:∀ b o,X.base.get? b=some o→X.s₀.heap.get? b=some o∧X.H₀ b=none
 bsz:X.base.objs.size≤X.s₀.heap.objs.size
 noex:∀ b o,X.base.get? b=some o→b∉X.ex
 exfs:∀ b∈X.ex,b∉X.fs
 funs:X.s₀.heap.FunFrames X.base X.outer
 frf:∀ b∈X.fs,X.H₀ b=none
structure Inv (X:Cx) (pins:List (Addr×Obj)) (σ:List (Option V)) (H:Hp) (s:Shared):Prop where
 ok:X.Ok
 os:s.os=X.s₀.os
 bare:AllBare s.gens
 base:Un X.fs X.ex X.H₀ H X.s₀.heap s.heap
 loc:∃ m,s.heap.Ns X.env.locals m∧∀ (i:Nat) (x:Str) (v:V),X.N[i]?=some x→σ[i]?=some (some v)→Vis X.env.scope x→∃ u,Ys v u∧Look X.env s.heap m x u
 cell:∀ x c,X.env.cells.lookup x=some c→∃ v,s.heap.IsCell c v
 free:H X.env.locals=none
 freeC:∀ x c,X.env.cells.lookup x=some c→H c=none
 pin:∀ p∈X.pn++pins,s.heap.get? p.1=some p.2∧H p.1=none∧p.1≠X.env.locals∧p.1∉X.fs∧∀ v,p.2.data ≠ .cell v
 hok:HOk X.prog X.w H s.heap
 len:σ.length=X.N.length
section
variable {X:Cx} {pins:List (Addr×Obj)} {σ:List (Option V)} {H H':Hp} {s:Shared} {h':Heap}
theorem Cx.Ok.nofr (ok:X.Ok) {b:Addr} {o:Obj} (e:X.base.get? b=some o):b∉X.fs:=fun hb=>by
 have:=(ok.funs.mem hb).1
 rw [e] at this;cases this
theorem Inv.bs (I:Inv X pins σ H s):∀ b o,X.base.get? b=some o→s.heap.get? b=some o∧H b=none:=fun b o e =>
 ⟨I.base.keep b o (I.ok.bs b o e).1 (I.ok.bs b o e).2 (I.ok.nofr e) (I.ok.noex b o e),I.base.free b o (I.ok.bs b o e).1 (I.ok.bs b o e).2 (I.ok.noex b o e)⟩
theorem Inv.bk (I:Inv X pins σ H s):∀ b o,X.base.get? b=some o→s.heap.get? b=some o:=fun b o e=>(I.bs b o e).1
theorem Inv.mod (I:Inv X pins σ H s):Mod X.K X.mg X.base:=I.ok.mod
theorem Inv.kIn (I:Inv X pins σ H s):X.K.In s.heap:=I.ok.mod.kin.keeps I.bk
theorem Inv.lt (I:Inv X pins σ H s):X.env.locals<s.heap.objs.size:=let ⟨_,hn,_⟩:=I.loc;hn.lt
theorem Inv.sz (I:Inv X pins σ H s):X.s₀.heap.objs.size≤s.heap.objs.size:=Nat.le_trans I.ok.above (Nat.le_of_lt I.lt)
theorem Inv.nofs (I:Inv X pins σ H s) {a:Addr} (h:s.heap.objs.size≤a):a∉X.fs:=fun hb=>by
 obtain ⟨_,o,ho,_⟩:=I.ok.funs.mem hb
 exact absurd (Nat.lt_of_lt_of_le (Heap.lt_size ho) (Nat.le_trans I.sz h)) (Nat.lt_irrefl _)
theorem Inv.cne (I:Inv X pins σ H s):∀ x c,X.env.cells.lookup x=some c→c≠X.env.locals:=fun x c e z=>by
 obtain ⟨v,o,ho,hd⟩:=I.cell x c e
 obtain ⟨m,⟨o',es,ep,ho',hd',_⟩,_⟩:=I.loc
 rw [z,ho'] at ho;cases ho;rw [hd'] at hd;cases hd
theorem Inv.funs (I:Inv X pins σ H s):s.heap.FunFrames X.base X.outer:=by
 have all:∀ (l:List Env),(∀ b∈frs l,b∈X.fs)→X.s₀.heap.FunFrames X.base l→s.heap.FunFrames X.base l:=by
  intro l
  induction l with
  | nil=>intro _ _;trivial
  | cons env r ih =>
   intro hs hl
   obtain ⟨hk,⟨L,o,hf,hn,ho,hd⟩,hr⟩:=hl
   have hL:L∈X.fs:=hs L (by unfold frs;rw [List.filterMap_cons,hf];exact List.mem_cons_self)
   obtain ⟨sl,e⟩:=I.base.slot L o ho (I.ok.frf L hL) hL fun z=>I.ok.exfs L z hL
   exact ⟨hk,⟨L,_,hf,hn,e,hd⟩,ih (fun b hb=>hs b (by unfold frs;rw [List.filterMap_cons,hf];exact List.mem_cons_of_mem _ hb)) hr⟩
 exact all X.outer (fun _ hb=>hb) I.ok.funs
theorem Inv.stack (I:Inv X pins σ H s):s.heap.FunFrames X.base X.stack:=by
 rcases I.ok.stk with e | ⟨e,hf⟩
 ·rw [e];exact I.funs
 ·rw [e]
  obtain ⟨m,hn,_⟩:=I.loc
  refine .cons (by rw [I.ok.kind];decide) hf hn ?_ I.funs
  exact Heap.get?_none_of_le (Nat.le_trans I.ok.bsz I.ok.above)
theorem Inv.stkSub (I:Inv X pins σ H s):∀ b∈frs X.stack,b∈X.env.locals::X.fs:=fun b hb=>by
 rcases I.ok.stk with e | ⟨e,hf⟩
 ·rw [e] at hb;exact List.mem_cons_of_mem _ hb
 ·rw [e] at hb
  unfold frs at hb
  rw [List.filterMap_cons,hf] at hb
  exact hb
theorem Inv.stkFree (I:Inv X pins σ H s):∀ b∈frs X.stack,H b=none:=fun b hb=>by
 rcases List.mem_cons.mp (I.stkSub b hb) with e | hb
 ·rw [e];exact I.free
 ·obtain ⟨_,o,ho,_⟩:=I.ok.funs.mem hb
  exact I.base.free b o ho (I.ok.frf b hb) fun z=>I.ok.exfs b z hb
theorem Inv.step {g':Array GenState} {t':Nat} {d':Drawn} {ch:List Addr} (I:Inv X pins σ H s)
  (hch:∀ b∈ch,(b∈X.ex∨X.s₀.heap.objs.size≤b)∧b≠X.env.locals∧(∀ x c,X.env.cells.lookup x=some c→c≠b)∧∀ p∈X.pn++pins,p.1≠b)
  (keep:∀ b o,b≠X.env.locals→b∉X.fs→b∉ch→s.heap.get? b=some o→H b=none→h'.get? b=some o)
  (slot:∀ b o,b≠X.env.locals→b∈X.fs→b∉ch→s.heap.get? b=some o→H b=none→∃ sl,h'.get? b=some { o with slots:=sl }) (free:∀ b o,b∉ch→s.heap.get? b=some o→H b=none→H' b=none)
  (there:∀ b o,b∉ch→s.heap.get? b=some o→∃ o',h'.get? b=some o')
  (tups:∀ b xs,H b=some (.tup xs)→H' b=some (.tup xs)) (frzs:∀ b o u,H b=some (.frz o u)→H' b=some (.frz o u)) (tbls:∀ b ps,H b=some (.tbl ps)→∃ more,H' b=some (.tbl (ps++more)))
  (ns:∀ m,s.heap.Ns X.env.locals m→h'.Ns X.env.locals m) (hok:HOk X.prog X.w H' h') (hg:AllBare g') :
  Inv X pins σ H' { s with heap:=h',gens:=g',drawn:=d',toks:=t' }:=by
 have neL:∀ b o,X.s₀.heap.get? b=some o→b≠X.env.locals:=fun b o e=>Nat.ne_of_lt (Nat.lt_of_lt_of_le (Heap.lt_size e) I.ok.above)
 have neC:∀ b o,X.s₀.heap.get? b=some o→b∉X.ex→b∉ch:=fun b o e hx hb=>by
  rcases (hch b hb).1 with z | z
  ·exact hx z
  ·exact absurd (Nat.lt_of_lt_of_le (Heap.lt_size e) z) (Nat.lt_irrefl _)
 have cellK:∀ x c,X.env.cells.lookup x=some c→∀ v,s.heap.IsCell c v→h'.IsCell c v:=fun x c e v ⟨o,ho,hd⟩=>by
  have nch:c∉ch:=fun z=>(hch c z).2.2.1 x c e rfl
  by_cases hc:c∈X.fs
  ·obtain ⟨sl,q⟩:=slot c o (I.cne x c e) hc nch ho (I.freeC x c e)
   exact ⟨_,q,hd⟩
  ·exact ⟨o,keep c o (I.cne x c e) hc nch ho (I.freeC x c e),hd⟩
 refine ⟨I.ok,I.os,hg,⟨fun b o e n hb hx=>?_,fun b o e n hb hx=>?_,fun b o e n hx=>?_,fun b o e hx=>?_,fun b xs e=>tups b xs (I.base.tups b xs e),fun b o xs e=>frzs b o xs (I.base.frzs b o xs e),fun b ps e=>?_⟩,?_,fun x c e=>?_,?_,fun x c e=>?_,fun p hp=>?_,hok,I.len⟩
 ·exact keep b o (neL b o e) hb (neC b o e hx) (I.base.keep b o e n hb hx) (I.base.free b o e n hx)
 ·obtain ⟨sl,e1⟩:=I.base.slot b o e n hb hx
  obtain ⟨sl',e2⟩:=slot b _ (neL b o e) hb (neC b o e hx) e1 (I.base.free b o e n hx)
  exact ⟨sl',e2⟩
 ·obtain ⟨o',e1⟩:=I.base.there b o e hx
  exact free b o' (neC b o e hx) e1 (I.base.free b o e n hx)
 ·obtain ⟨o',e1⟩:=I.base.there b o e hx
  exact there b o' (neC b o e hx) e1
 ·obtain ⟨m1,e1⟩:=I.base.tbls b ps e
  obtain ⟨m2,e2⟩:=tbls b _ e1
  exact ⟨m1++m2,by rw [e2,Array.append_assoc]⟩
 ·obtain ⟨m,hn,hl⟩:=I.loc
  refine ⟨m,ns m hn,fun i x v e1 e2 e3=>?_⟩
  obtain ⟨u,r,l⟩:=hl i x v e1 e2 e3
  refine ⟨u,r,?_⟩
  rcases l with l | ⟨k,c,e,z⟩
  ·exact .inl l
  ·exact .inr ⟨k,c,e,cellK x c e _ z⟩
 ·obtain ⟨v,z⟩:=I.cell x c e
  exact ⟨v,cellK x c e v z⟩
 ·obtain ⟨m,⟨o,_,_,ho,_⟩,_⟩:=I.loc
  exact free _ o (fun z=>(hch _ z).2.1 rfl) ho I.free
 ·obtain ⟨v,o,ho,hd⟩:=I.cell x c e
  exact free c o (fun z=>(hch c z).2.2.1 x c e rfl) ho (I.freeC x c e)
 ·obtain ⟨e,n,ne,nf,d⟩:=I.pin p hp
  have nch:p.1∉ch:=fun z=>(hch p.1 z).2.2.2 p hp rfl
  exact ⟨keep p.1 p.2 ne nf nch e n,free p.1 p.2 nch e n,ne,nf,d⟩
theorem Inv.un {t':Nat} (I:Inv X pins σ H s) (u:Un X.fs [] H H' s.heap h') (hok:HOk X.prog X.w H' h'):Inv X pins σ H' { s with heap:=h',toks:=t' }:=by
 obtain ⟨m,⟨o,es,ep,ho,r⟩,_⟩:=id I.loc
 obtain ⟨sl,hL⟩:=u.any ho I.free (by simp)
 exact I.step (g':=s.gens) (d':=s.drawn) (ch:=[]) (fun _ z=>nomatch z) (fun b o _ hb _ e n=>u.keep b o e n hb (by simp)) (fun b o _ hb _ e n=>u.slot b o e n hb (by simp)) (fun b o _ e n=>u.free b o e n (by simp)) (fun b o _ e=>u.there b o e (by simp)) u.tups u.frzs u.tbls (fun m' hm=>by
  obtain ⟨o',es',ep',ho',r'⟩:=hm
  rw [ho] at ho';cases ho'
  exact ⟨_,es',ep',hL,r'⟩) hok I.bare
theorem Inv.call {g':Array GenState} {t':Nat} {d':Drawn} {ch:List Addr} (I:Inv X pins σ H s) (u:Un (frs X.stack) ch H H' s.heap h') (hok:HOk X.prog X.w H' h') (hg:AllBare g')
  (hch:∀ b∈ch,(b∈X.ex∨X.s₀.heap.objs.size≤b)∧b≠X.env.locals∧(∀ x c,X.env.cells.lookup x=some c→c≠b)∧∀ p∈X.pn++pins,p.1≠b) :
  Inv X pins σ H' { s with heap:=h',gens:=g',drawn:=d',toks:=t' }:=by
 obtain ⟨m,⟨o,es,ep,ho,r⟩,_⟩:=id I.loc
 obtain ⟨sl,hL⟩:=u.any ho I.free fun z=>(hch _ z).2.1 rfl
 exact I.step (ch:=ch) hch (fun b o hL hb hc e n=>u.keep b o e n (fun z=>(List.mem_cons.mp (I.stkSub b z)).elim hL hb) hc) (fun b o _ _ hc e n=>u.any e n hc) (fun b o hc e n=>u.free b o e n hc) (fun b o hc e=>u.there b o e hc) u.tups u.frzs u.tbls (fun m' hm=>by
  obtain ⟨o',es',ep',ho',r'⟩:=hm
  rw [ho] at ho';cases ho'
  exact ⟨_,es',ep',hL,r'⟩) hok hg
theorem Inv.turned {t':Nat} {it:Addr} (I:Inv X pins σ H s) (k:∀ b o,b≠it→s.heap.get? b=some o→h'.get? b=some o) (hn:H it=none) (hL:it≠X.env.locals)
  (h1:it∈X.ex∨X.s₀.heap.objs.size≤it) (h2:∀ x c,X.env.cells.lookup x=some c→c≠it) (h3:∀ p∈X.pn++pins,p.1≠it):Inv X pins σ H { s with heap:=h',toks:=t' }:=by
 have nit:∀ b u,H b=some u→b≠it:=fun b u e z=>by rw [z,hn] at e;cases e
 refine I.step (g':=s.gens) (d':=s.drawn) (ch:=[it]) (fun b hb=>?_) (fun b o _ _ hc e _=>k b o (fun z=>hc (by simp [z])) e) (fun b o _ _ hc e _=>⟨o.slots,k b o (fun z=>hc (by simp [z])) e⟩) (fun _ _ _ _ n=>n)
  (fun b o hc e=>⟨o,k b o (fun z=>hc (by simp [z])) e⟩) (fun _ _ e=>e) (fun _ _ _ e=>e) (fun b ps e=>⟨#[],by rw [e];simp⟩) (fun m hm=>?_) (fun b u e=>?_) I.bare
 ·have e:b=it:=by simpa using hb
  subst e
  exact ⟨h1,hL,h2,h3⟩
 ·obtain ⟨o,es,ep,ho,r⟩:=hm
  exact ⟨o,es,ep,k _ o (Ne.symm hL) ho,r⟩
 ·refine (I.hok b u e).stay (fun c v hc q=>k c v ?_ q) (fun _ q=>q) fun _ _ q=>q
  rcases hc with z | z
  ·rw [z];exact nit b u e
  ·exact nit c _ z
theorem Inv.tok (I:Inv X pins σ H s) (t:Nat):Inv X pins σ H { s with toks:=t }:=I.un (h':=s.heap) (t':=t) Un.refl I.hok
theorem Inv.kept {t':Nat} (I:Inv X pins σ H s) (k:∀ b u,s.heap.get? b=some u→h'.get? b=some u):Inv X pins σ H { s with heap:=h',toks:=t' }:=I.un (Un.kept k) (I.hok.kept k)
theorem Inv.laid {a:Addr} {o:HO} {t':Nat} (I:Inv X pins σ H s) (k:∀ b u,s.heap.get? b=some u→h'.get? b=some u) (hp:s.heap.objs.size≤a) (new:YN X.prog X.w (upd H a o) h' a o) :
  Inv X pins σ (upd H a o) { s with heap:=h',toks:=t' }:=I.un (Un.laid k hp (I.hok.fresh hp)) (I.hok.laid k hp new)
theorem Inv.write {x e:Addr} {o:HO} {t':Nat} (I:Inv X pins σ H s) (mu:Mut (H x)) (he:e=x∨H e=some (.own x)) (k:∀ b u,b≠e→s.heap.get? b=some u→h'.get? b=some u) (heo:∃ u,h'.get? e=some u)
  (new:YN X.prog X.w (upd H x o) h' x o):Inv X pins σ (upd H x o) { s with heap:=h',toks:=t' }:=I.un (Un.write mu he k heo) (I.hok.write mu he k heo new)
theorem Inv.pins_of {pins':List (Addr×Obj)} (I:Inv X pins σ H s) (h:∀ p∈pins',s.heap.get? p.1=some p.2∧H p.1=none∧p.1≠X.env.locals∧p.1∉X.fs∧∀ v,p.2.data ≠ .cell v):Inv X pins' σ H s :=
 ⟨I.ok,I.os,I.bare,I.base,I.loc,I.cell,I.free,I.freeC,fun p hp=>(List.mem_append.mp hp).elim (fun z=>I.pin p (List.mem_append_left _ z)) (h p),I.hok,I.len⟩
theorem Ux {N:List Str} (hN:N.Nodup) {i j:Nat} {x:Str} (a:N[i]?=some x) (b:N[j]?=some x):i=j:=by
 obtain ⟨h1,e1⟩:=List.getElem?_eq_some_iff.mp a
 obtain ⟨h2,e2⟩:=List.getElem?_eq_some_iff.mp b
 exact (List.getElem_inj hN).mp (e1.trans e2.symm)
theorem Yan {M:Model} {A:Around} {E:Value→Shared→Prop} {i:Nat} {x:Str} {v:V} {u:Value} {Q:Unit→Shared→Prop} (I:Inv X pins σ H s) (hN:X.N.Nodup) (hi:X.N[i]?=some x) (hx:Loc X.env.scope x) (r:Ys v u)
  (h:∀ s',Inv X pins (σ.set i (some v)) H s'→(∃ a,Heap.SameBut a s.heap s'.heap∧(a=X.env.locals∨X.env.cells.lookup x=some a))→Q () s') (hf:X.fn x=true∨X.env.scope.names.lookup x=some .local:=by first | exact .inl rfl | exact .inr rfl | assumption):wpAny M A (storeName X.env x u) Q E s:=by
 obtain ⟨m,hn,hl⟩:=id I.loc
 have hcls:(X.env.scope.kind == .class||(X.env.scope.kind == .module&&X.env.locals != X.env.globals))=false:=by rw [I.ok.kind];rfl
 have hiσ:i<σ.length:=by rw [I.len];exact (List.getElem?_eq_some_iff.mp hi).1
 have cne:=I.cne
 have tracked:∀ {a:Addr} {h':Heap},(∃ o,s.heap.get? a=some o∧H a=none)→Heap.SameBut a s.heap h'→HOk X.prog X.w H h':=fun {a h'} ha hs b ob e=>by
  obtain ⟨_,_,hfree⟩:=ha
  refine (I.hok b ob e).stay (fun c w' hc q=>(hs.2 c ?_).trans q) (fun _ q=>q) fun _ _ q=>q
  rintro rfl
  rcases hc with rfl | hc
  ·rw [hfree] at e;cases e
  ·rw [hfree] at hc;cases hc
 rcases hx with hk | hk
 ·refine wpAny_storeName_local hk hn (fun h' hn' hs=>?_) hcls
  obtain ⟨oL,_,_,hoL,_⟩:=id hn
  refine h _ ⟨I.ok,I.os,I.bare,⟨fun b o e n hb hx=>?_,fun b o e n hb hx=>?_,I.base.free,fun b o e hx=>?_,I.base.tups,I.base.frzs,I.base.tbls⟩,⟨_,hn',fun j y v' e1 e2 e3=>?_⟩,fun y c e=>?_,I.free,I.freeC,fun p hp=>?_,tracked ⟨oL,hoL,I.free⟩ hs,by simpa using I.len⟩ ⟨_,hs,.inl rfl⟩
  ·exact (hs.2 b (Nat.ne_of_lt (Nat.lt_of_lt_of_le (Heap.lt_size e) I.ok.above))).trans (I.base.keep b o e n hb hx)
  ·obtain ⟨sl,e1⟩:=I.base.slot b o e n hb hx
   exact ⟨sl,(hs.2 b (Nat.ne_of_lt (Nat.lt_of_lt_of_le (Heap.lt_size e) I.ok.above))).trans e1⟩
  ·obtain ⟨o',e1⟩:=I.base.there b o e hx
   exact ⟨o',(hs.2 b (Nat.ne_of_lt (Nat.lt_of_lt_of_le (Heap.lt_size e) I.ok.above))).trans e1⟩
  ·by_cases hj:j=i
   ·subst hj
    rw [hi] at e1;cases e1
    rw [List.getElem?_set_self hiσ] at e2
    cases e2
    exact ⟨u,r,.inl ⟨hk,by simp⟩⟩
   ·rw [List.getElem?_set_ne (Ne.symm hj)] at e2
    obtain ⟨u',r',q⟩:=hl j y v' e1 e2 e3
    refine ⟨u',r',?_⟩
    rcases q with ⟨k,e⟩ | ⟨k,c,e,z⟩
    ·refine .inl ⟨k,?_⟩
     have:y≠x:=fun e=>hj (Ux hN e1 (e▸hi))
     simp [this,e]
    ·exact .inr ⟨k,c,e,z.sameBut hs (cne y c e)⟩
  ·obtain ⟨w',z⟩:=I.cell y c e
   exact ⟨w',z.sameBut hs (cne y c e)⟩
  ·obtain ⟨e,n,ne,nf,d⟩:=I.pin p hp
   exact ⟨(hs.2 p.1 ne).trans e,n,ne,nf,d⟩
 ·have hfn:X.fn x=true:=by
   rcases hf with z | z
   ·exact z
   ·rw [z] at hk;cases hk
  obtain ⟨c,hc⟩:=I.ok.has x (.inl hk)
  obtain ⟨w',z⟩:=I.cell x c hc
  refine wpAny_storeName_cell I.ok.kind hk hc z (fun h' hc' hs=>?_)
  obtain ⟨oc,hoc,hocd⟩:=id z
  refine h { s with heap:=h' } ⟨I.ok,I.os,I.bare,⟨fun b o e n hb hx=>?_,fun b o e n hb hx=>?_,I.base.free,fun b o e hx=>?_,I.base.tups,I.base.frzs,I.base.tbls⟩,⟨m,hn.sameBut hs (Ne.symm (cne x c hc)),fun j y v' e1 e2 e3=>?_⟩,fun y c' e=>?_,I.free,I.freeC,fun p hp=>?_,tracked ⟨oc,hoc,I.freeC x c hc⟩ hs,by simpa using I.len⟩ ⟨c,hs,.inr hc⟩
  ·exact (hs.2 b (Nat.ne_of_lt (Nat.lt_of_lt_of_le (Heap.lt_size e) (I.ok.cab x c hfn hc)))).trans (I.base.keep b o e n hb hx)
  ·obtain ⟨sl,e1⟩:=I.base.slot b o e n hb hx
   exact ⟨sl,(hs.2 b (Nat.ne_of_lt (Nat.lt_of_lt_of_le (Heap.lt_size e) (I.ok.cab x c hfn hc)))).trans e1⟩
  ·obtain ⟨o',e1⟩:=I.base.there b o e hx
   exact ⟨o',(hs.2 b (Nat.ne_of_lt (Nat.lt_of_lt_of_le (Heap.lt_size e) (I.ok.cab x c hfn hc)))).trans e1⟩
  ·by_cases hj:j=i
   ·subst hj
    rw [hi] at e1;cases e1
    rw [List.getElem?_set_self hiσ] at e2
    cases e2
    exact ⟨u,r,.inr ⟨.inl hk,c,hc,hc'⟩⟩
   ·rw [List.getElem?_set_ne (Ne.symm hj)] at e2
    obtain ⟨u',r',q⟩:=hl j y v' e1 e2 e3
    refine ⟨u',r',?_⟩
    rcases q with q | ⟨k,c',e,z'⟩
    ·exact .inl q
    ·refine .inr ⟨k,c',e,z'.sameBut hs ?_⟩
     rintro rfl
     exact hj (Ux hN e1 (I.ok.inj _ _ _ e hc▸hi))
  ·by_cases hcc:c'=c
   ·subst hcc;exact ⟨_,hc'⟩
   ·obtain ⟨w2,z2⟩:=I.cell y c' e
    exact ⟨w2,z2.sameBut hs hcc⟩
  ·obtain ⟨e,n,ne,nf,d⟩:=I.pin p hp
   refine ⟨(hs.2 p.1 ?_).trans e,n,ne,nf,d⟩
   intro q
   rw [q,hoc] at e
   have q':oc=p.2:=Option.some.inj e
   exact d w' (by rw [← q'];exact hocd)
theorem Uy {M:Model} {A:Around} {E:Value→Shared→Prop} {i:Nat} {x:Str} {v:V} {u:Value} {Q:Unit→Shared→Prop} (I:Inv X pins σ H s) (hN:X.N.Nodup) (hi:X.N[i]?=some x) (hx:Loc X.env.scope x) (r:Ys v u)
  (h:∀ s',Inv X pins (σ.set i (some v)) H s'→Q () s') (hf:X.fn x=true∨X.env.scope.names.lookup x=some .local:=by first | exact .inl rfl | exact .inr rfl | assumption):wpAny M A (storeName X.env x u) Q E s :=
 Yan I hN hi hx r (fun s' I' _=>h s' I') hf
theorem Inv.call' {s':Shared} {ch:List Addr} (I:Inv X pins σ H s) (ho:s'.os=s.os) (u:Un (frs X.stack) ch H H' s.heap s'.heap) (hok:HOk X.prog X.w H' s'.heap) (hg:AllBare s'.gens)
  (hch:∀ b∈ch,(b∈X.ex∨X.s₀.heap.objs.size≤b)∧b≠X.env.locals∧(∀ x c,X.env.cells.lookup x=some c→c≠b)∧∀ p∈X.pn++pins,p.1≠b):Inv X pins σ H' s':=by
 obtain ⟨h',g',d',t',o'⟩:=s'
 have e:o'=s.os:=ho
 subst e
 exact I.call (g':=g') (t':=t') (d':=d') u hok hg hch
end
abbrev XK:=Value→Option Addr→Hp→Prop
abbrev St:=List (Option V)
abbrev VK:=V→Hp→Prop
abbrev TE:=St→Hp→VK→Prop
abbrev TT:=St→Hp→(Bool→Hp→Prop)→Prop
abbrev TA:=St→Hp→(List V→Hp→Prop)→Prop
structure Ends where
 nx:St→Hp→Prop
 rt:VK
 bk:St→Hp→Prop:=fun _ _=>False
 ct:St→Hp→Prop:=fun _ _=>False
abbrev TS:=Ends→St→Hp→Prop
def EP (X:Cx) (pins:List (Addr×Obj)) (σ:St) (Q:VK) (u:Value) (s':Shared):Prop:=∃ v H',Inv X pins σ H' s'∧Ys v u∧Q v H'
def TP (X:Cx) (pins:List (Addr×Obj)) (σ:St) (Q:Bool→Hp→Prop) (b:Bool) (s':Shared):Prop:=∃ H',Inv X pins σ H' s'∧Q b H'
def AP (X:Cx) (pins:List (Addr×Obj)) (σ:St) (Q:List V→Hp→Prop) (us:List Value) (s':Shared):Prop:=∃ vs H',Inv X pins σ H' s'∧Yn vs us∧Q vs H'
def SP (X:Cx) (pins:List (Addr×Obj)) (D:Ends) (f:Flow) (s':Shared):Prop :=
 match f with
 | .next=>∃ σ' H',Inv X pins σ' H' s'∧D.nx σ' H'
 | .brk=>∃ σ' H',Inv X pins σ' H' s'∧D.bk σ' H'
 | .cont=>∃ σ' H',Inv X pins σ' H' s'∧D.ct σ' H'
 | .ret u=>∃ v σ' H',Inv X pins σ' H' s'∧Ys v u∧D.rt v H'
def PE (X:Cx) (e:Expr) (t:TE):Prop :=
 ∀ (pins:List (Addr×Obj)) (s:Shared) (σ:St) (H:Hp) (Q:VK),Inv X pins σ H s→t σ H Q→wpAny (model X.prog X.w) X.A (eval e X.env) (EP X pins σ Q) X.xe s
def PT (X:Cx) (e:Expr) (t:TT):Prop :=
 ∀ (pins:List (Addr×Obj)) (s:Shared) (σ:St) (H:Hp) (Q:Bool→Hp→Prop),Inv X pins σ H s→t σ H Q→wpAny (model X.prog X.w) X.A (isTrue e X.env (eval e X.env)) (TP X pins σ Q) X.xe s
def PW (X:Cx) (e:Expr) (t:TT):Prop :=
 ∀ (whole:Sem Value) (pins:List (Addr×Obj)) (s:Shared) (σ:St) (H:Hp) (Q:Bool→Hp→Prop),Inv X pins σ H s→t σ H Q→wpAny (model X.prog X.w) X.A (isTrue e X.env whole) (TP X pins σ Q) X.xe s
theorem PW.pt {X:Cx} {e:Expr} {t:TT} (h:PW X e t):PT X e t:=h _
def PA (X:Cx) (es:List Expr) (t:TA):Prop :=
 ∀ (pos:Pos) (pins:List (Addr×Obj)) (s:Shared) (σ:St) (H:Hp) (Q:List V→Hp→Prop),Inv X pins σ H s→t σ H Q→wpAny (model X.prog X.w) X.A (spliced (backTo pos (starEach es X.env))) (AP X pins σ Q) X.xe s
def PS (X:Cx) (st:Stmt) (t:TS):Prop :=
 ∀ (pins:List (Addr×Obj)) (s:Shared) (σ:St) (H:Hp) (D:Ends),Inv X pins σ H s→t D σ H→wpAny (model X.prog X.w) X.A (exec st X.env) (SP X pins D) X.xe s
def PSs (X:Cx) (st:List Stmt) (t:TS):Prop :=
 ∀ (pins:List (Addr×Obj)) (s:Shared) (σ:St) (H:Hp) (D:Ends),Inv X pins σ H s→t D σ H→wpAny (model X.prog X.w) X.A (execs st X.env) (SP X pins D) X.xe s
theorem thn {α:Type} {t:Sem α} {Q Q':α→Shared→Prop} {M:Model} {A:Around} {E:Value→Shared→Prop} {s:Shared} (h:wpAny M A t Q E s) (hQ:∀ a s,Q a s→Q' a s):wpAny M A t Q' E s:=wpAny_mono h hQ fun _ _ x=>x
end L2
namespace L2
open PySem PySem.Spec PyProof.Rows
section
variable {X:Cx}
def tVar (i:Nat):TE:=fun σ H Q=>∃ v,σ[i]?=some (some v)∧Q v H
def tC (v:V):TE:=fun _ H Q=>Q v H
theorem YcH {i:Nat} {x:Str} {pos:Pos} (hN:X.N[i]?=some x) (hv:Vis X.env.scope x) (hd:(x==("__debug__":Str))=false:=by decide) (hcd:(x==("__classdict__":Str))=false:=by decide):PE X (.Name x pos) (tVar i):=by
 intro pins s σ H Q I h
 obtain ⟨v,e,h⟩:=h
 obtain ⟨m,hn,hl⟩:=I.loc
 obtain ⟨u,r,l⟩:=hl i x v hN e hv
 have fin:EP X pins σ Q u s:=⟨v,H,I,r,h⟩
 rcases l with ⟨hk,hm⟩ | ⟨hk,c,hc,hcell⟩
 ·exact wpAny_Name (wpAny_loadName_local I.ok.kind hk hn hm fin) hd
 ·rcases hk with hk | hk
  ·exact wpAny_Name (wpAny_loadName_cell I.ok.kind hk hc hcell fin) hd
  ·exact wpAny_Name (wpAny_loadName_free I.ok.kind hk hc hcell fin hcd) hd
theorem Ye {i j pos}:PE X (.Constant (.int i) j pos) (tC (.int i)):=fun _ _ _ H _ I h=>wpAny_Constant_int ⟨.int i,H,I.tok _,⟨_,rfl⟩,h⟩
theorem QV {b j pos}:PE X (.Constant (.bool b) j pos) (tC (.bl b)):=fun _ _ _ H _ I h=>Constant_bool ⟨.bl b,H,I,rfl,h⟩
theorem XS {j pos}:PE X (.Constant .none j pos) (tC .non):=fun _ _ _ H _ I h=>Constant_none ⟨.non,H,I,rfl,h⟩
theorem YE {x j pos}:PE X (.Constant (.str x) j pos) (tC (.str x)):=fun _ _ _ H _ I h=>Calls.Constant_str ⟨.str x,H,I.tok _,⟨_,rfl⟩,h⟩
def Gl (X:Cx) (x:Str):Prop:=X.env.kindOf x=some .globalImplicit
theorem Qv {E:Value→Shared→Prop} {pins:List (Addr×Obj)} {s:Shared} {σ:St} {H:Hp} {x:Str} {u:Value} {pos:Pos} {Q:Value→Shared→Prop} (I:Inv X pins σ H s) (hg:Gl X x) (hm:X.mg x=some u) (h:Q u s)
  (hd:(x==("__debug__":Str))=false:=by decide):wpAny (model X.prog X.w) X.A (eval (.Name x pos) X.env) Q E s :=
 Calls.Name_function_global I.ok.kind hg (Calls.loadGlobal_global (by rw [I.ok.glob];exact I.mod.glob.keeps I.bk) hm h) hd
theorem XT {E:Value→Shared→Prop} {pins:List (Addr×Obj)} {s:Shared} {σ:St} {H:Hp} {x:Str} {u:Value} {pos:Pos} {Q:Value→Shared→Prop} (I:Inv X pins σ H s) (hg:Gl X x) (hm:X.mg x=none) (hv:bootBuiltins x=some u) (h:Q u s)
  (hn:x≠"__name__":=by decide) (hd:(x==("__debug__":Str))=false:=by decide):wpAny (model X.prog X.w) X.A (eval (.Name x pos) X.env) Q E s:=by
 obtain ⟨mb,h1,h2⟩:=I.mod.blt
 exact Calls.Name_function_global I.ok.kind hg (Calls.loadGlobal_builtin (by rw [I.ok.glob];exact I.mod.glob.keeps I.bk) hm (by rw [I.ok.blt];exact h1.keeps I.bk) ((h2 x hn).trans hv) h) hd
theorem Yb5 {x:Str} {v:V} {u:Value} {pos:Pos} (hg:Gl X x) (hm:X.mg x=some u) (r:Ys v u) (hd:(x==("__debug__":Str))=false:=by decide):PE X (.Name x pos) (tC v) :=
 fun _ _ _ H _ I h=>Qv I hg hm ⟨v,H,I,r,h⟩ hd
theorem Yb6 {x:Str} {v:V} {u:Value} {pos:Pos} (hg:Gl X x) (hm:X.mg x=none) (hv:bootBuiltins x=some u) (r:Ys v u) (hn:x≠"__name__":=by decide) (hd:(x==("__debug__":Str))=false:=by decide):PE X (.Name x pos) (tC v) :=
 fun _ _ _ H _ I h=>XT I hg hm hv ⟨v,H,I,r,h⟩ hn hd
variable {a b:Expr} {ta tb:TE} {pos:Pos}
def tB (t:TE):TT:=fun σ H Q=>t σ H fun x H1=>∃ c,x = .bl c∧Q c H1
theorem Wm {e:Expr} {t:TE} (h:PE X e t) (he:∀ whole,isTrue e X.env whole=(do let v ← whole;standAt e.pos;holding [v] (truthy v))):PT X e (tB t):=by
 intro pins s σ H Q I hw
 refine isTrue_plain (thn (h pins s σ H _ I hw) fun v s1 ⟨x,H1,I1,r1,q1⟩=>?_) (he _)
 obtain ⟨d,rfl,q⟩:=q1
 cases r1
 exact wpAny_truthy_bool ⟨H1,I1,q⟩
variable {tA tB':TT} {YW:List Expr}
def tAnd (t u:TT):TT:=fun σ H Q=>t σ H fun c H1=>if c=true then u σ H1 Q else Q false H1
def tOr (t u:TT):TT:=fun σ H Q=>t σ H fun c H1=>if c=true then Q true H1 else u σ H1 Q
def tNot (t:TT):TT:=fun σ H Q=>t σ H fun c H1=>Q (!c) H1
theorem Qw (ha:PT X a tA):PW X (.BoolOp .And [a] pos) tA:=by
 intro wh pins s σ H Q I h
 refine isTrue_and (thn (ha pins s σ H Q I h) fun c s1 e=>?_)
 cases c with
 | true=>exact isTrue_and_nil e
 | false=>exact e
theorem WI (ha:PT X a tA):PW X (.BoolOp .Or [a] pos) tA:=by
 intro wh pins s σ H Q I h
 refine isTrue_or (thn (ha pins s σ H Q I h) fun c s1 e=>?_)
 cases c with
 | false=>exact isTrue_or_nil e
 | true=>exact e
theorem Yao (ha:PT X a tA) (hb:PW X (.BoolOp .And (b::YW) pos) tB'):PW X (.BoolOp .And (a::b::YW) pos) (tAnd tA tB'):=by
 intro wh pins s σ H Q I h
 refine isTrue_and (thn (ha pins s σ H _ I h) fun c s1 ⟨H1,I1,q1⟩=>?_)
 cases c with
 | true=>exact hb wh pins s1 σ H1 Q I1 q1
 | false=>exact ⟨H1,I1,q1⟩
theorem Vf (ha:PT X a tA) (hb:PW X (.BoolOp .Or (b::YW) pos) tB'):PW X (.BoolOp .Or (a::b::YW) pos) (tOr tA tB'):=by
 intro wh pins s σ H Q I h
 refine isTrue_or (thn (ha pins s σ H _ I h) fun c s1 ⟨H1,I1,q1⟩=>?_)
 cases c with
 | true=>exact ⟨H1,I1,q1⟩
 | false=>exact hb wh pins s1 σ H1 Q I1 q1
theorem Vg (ha:PT X a tA):PT X (.UnaryOp .Not a pos) (tNot tA):=by
 intro pins s σ H Q I h
 exact isTrue_not (ha pins s σ H (fun c H1=>Q (!c) H1) I h)
def YbJ (ta tb:TE):TE:=fun σ H Q=>ta σ H fun x H1=>∃ c,x = .bl c∧if c=true then tb σ H1 Q else Q (.bl false) H1
def tOrV (ta tb:TE):TE:=fun σ H Q=>ta σ H fun x H1=>∃ c,x = .bl c∧if c=true then Q (.bl true) H1 else tb σ H1 Q
def YbK (ta:TE):TE:=fun σ H Q=>ta σ H fun x H1=>∃ c,x = .bl c∧Q (.bl (!c)) H1
theorem XU {op} {t:TE} (h:PE X a t):PE X (.BoolOp op [a] pos) t:=fun pins s σ H Q I hw=>BoolOp_one (h pins s σ H Q I hw)
theorem Xy (ha:PE X a ta) (hb:PE X (.BoolOp .And (b::YW) pos) tb):PE X (.BoolOp .And (a::b::YW) pos) (YbJ ta tb):=by
 intro pins s σ H Q I h
 refine BoolOp_and (thn (ha pins s σ H _ I h) fun v s1 ⟨x,H1,I1,r1,q1⟩=>?_)
 obtain ⟨c,rfl,q1⟩:=q1
 cases r1
 refine wpAny_truthy_bool ?_
 cases c with
 | true=>exact hb pins s1 σ H1 Q I1 q1
 | false=>exact ⟨.bl false,H1,I1,rfl,q1⟩
theorem Yap (ha:PE X a ta):PE X (.UnaryOp .Not a pos) (YbK ta):=by
 intro pins s σ H Q I h
 refine UnaryOp_ (thn (ha pins s σ H _ I h) fun v s1 ⟨x,H1,I1,r1,q1⟩=>?_)
 obtain ⟨c,rfl,q1⟩:=q1
 cases r1
 exact not_of (wpAny_truthy_bool ⟨.bl (!c),H1,I1,rfl,q1⟩)
def tIf (t:TT) (ta tb:TE):TE:=fun σ H Q=>t σ H fun c H1=>if c=true then ta σ H1 Q else tb σ H1 Q
theorem Wx {c:Expr} (hc:PT X c tA) (ha:PE X a ta) (hb:PE X b tb):PE X (.IfExp c a b pos) (tIf tA ta tb):=by
 intro pins s σ H Q I h
 refine wpAny_IfExp (thn (hc pins s σ H _ I h) fun d s1 ⟨H1,I1,q1⟩=>?_)
 cases d with
 | true=>exact ha pins s1 σ H1 Q I1 q1
 | false=>exact hb pins s1 σ H1 Q I1 q1
end
end L2
namespace L2
open PySem PySem.Spec PyProof.Rows
def SqL (K:PySem.W.Frag) (H:Hp) (a:Addr) (xs:List V):Prop :=
 Rd H a (.lst xs) ∨
  ∃ (o:Obj) (its:Array Value) (n:Nat),K.lookup a=some o∧o.cls = .type "list"∧o.dict=none∧o.data = .seq its n∧its.size≤sizeLine∧Yn xs its.toList
def SqT (K:PySem.W.Frag) (H:Hp) (a:Addr) (xs:List V):Prop :=
 Rd H a (.tup xs) ∨
  ∃ (o:Obj) (its:Array Value) (n:Nat),K.lookup a=some o∧o.cls = .type "tuple"∧o.data = .seq its n∧its.size≤sizeLine∧Yn xs its.toList
def absV:Value→Option V
 | .none=>some .non
 | .bool b=>some (.bl b)
 | .int i _=>some (.int i)
 | .str x _=>some (.str x)
 | .bytes b _=>some (.byt b)
 | .float b _=>some (.flt b)
 | .ref a=>some (.ref a)
 | .type n=>some (.ty n)
 | _=>none
theorem Ys.abs {x:V} {u:Value} (r:Ys x u):absV u=some x:=by
 cases x with
 | non=>cases r;rfl
 | bl _=>cases r;rfl
 | int _=>obtain ⟨t,rfl⟩:=r;rfl
 | str _=>obtain ⟨t,rfl⟩:=r;rfl
 | byt _=>obtain ⟨t,rfl⟩:=r;rfl
 | flt _=>obtain ⟨t,rfl⟩:=r;rfl
 | ref _=>cases r;rfl
 | ty _=>cases r;rfl
theorem Ys.inj {x y:V} {u:Value} (r:Ys x u) (q:Ys y u):x=y:=Option.some.inj (r.abs.symm.trans q.abs)
theorem Yn.inj:∀ {xs ys:List V} {us:List Value},Yn xs us→Yn ys us→xs=ys
 | _,_,_,.nil,.nil=>rfl
 | _,_,_,.cons r t,.cons r' t'=>by rw [r.inj r',Yn.inj t t']
section
variable {X:Cx} {pins:List (Addr×Obj)} {σ:St} {H:Hp} {s:Shared} {a:Addr} {xs ys:List V}
theorem SqL.of {K:PySem.W.Frag} (h:H a=some (.lst xs)):SqL K H a xs := .inl (.inl h)
theorem SqT.of {K:PySem.W.Frag} (h:H a=some (.tup xs)):SqT K H a xs := .inl (.inl h)
theorem Inv.list (I:Inv X pins σ H s) (h:SqL X.K H a xs):∃ its:List Value,Yn xs its∧PlainL s.heap a its.toArray∧xs.length≤sizeLine:=by
 rcases h with h | ⟨o,its,n,hk,hc,hd,hs,hz,r⟩
 ·obtain ⟨z,its,n,r,e⟩:=h.ok I.hok
  exact ⟨its,r,⟨_,n,e,rfl,rfl,rfl⟩,z⟩
 ·refine ⟨its.toList,r,⟨o,n,I.kIn a o hk,hc,hd,by simpa using hs⟩,?_⟩
  have e:=r.length
  simp only [Array.length_toList] at e
  omega
theorem Inv.tuple (I:Inv X pins σ H s) (h:SqT X.K H a xs):∃ its:List Value,Yn xs its∧IsTup s.heap a its.toArray∧xs.length≤sizeLine:=by
 rcases h with h | ⟨o,its,n,hk,hc,hs,hz,r⟩
 ·obtain ⟨z,its,r,p⟩:=h.ok I.hok
  exact ⟨its,r,p,z⟩
 ·refine ⟨its.toList,r,⟨o,I.kIn a o hk,hc,n,by simpa using hs⟩,?_⟩
  have e:=r.length
  simp only [Array.length_toList] at e
  omega
theorem Inv.list_inj (I:Inv X pins σ H s) (h:SqL X.K H a xs) (h':SqL X.K H a ys):xs=ys:=by
 obtain ⟨its,r,⟨o,n,e,_,_,d⟩,_⟩:=I.list h
 obtain ⟨its',r',⟨o',n',e',_,_,d'⟩,_⟩:=I.list h'
 rw [e] at e';cases e'
 rw [d] at d'
 injection d' with d1 _
 have:its=its':=by simpa using congrArg Array.toList d1
 subst this
 exact r.inj r'
theorem Inv.tuple_inj (I:Inv X pins σ H s) (h:SqT X.K H a xs) (h':SqT X.K H a ys):xs=ys:=by
 obtain ⟨its,r,⟨o,e,_,n,d⟩,_⟩:=I.tuple h
 obtain ⟨its',r',⟨o',e',_,n',d'⟩,_⟩:=I.tuple h'
 rw [e] at e';cases e'
 rw [d] at d'
 injection d' with d1 _
 have:its=its':=by simpa using congrArg Array.toList d1
 subst this
 exact r.inj r'
end
abbrev Cx.wish (X:Cx) (E:Value→Shared→Prop):Cx:={ X with xe:=E }
abbrev Cx.nox (X:Cx):Cx:=X.wish fun _ _=>False
theorem Cx.Ok.wish {X:Cx} (ok:X.Ok) (E:Value→Shared→Prop):(X.wish E).Ok :=
 ⟨ok.mod,ok.kind,ok.glob,ok.blt,ok.above,ok.inj,ok.has,ok.cab,ok.hd,ok.frames,ok.stk,ok.exf,ok.bs,ok.bsz,ok.noex,ok.exfs,ok.funs,ok.frf⟩
theorem Cx.Ok.unwish {X:Cx} {E:Value→Shared→Prop} (ok:(X.wish E).Ok):X.Ok :=
 ⟨ok.mod,ok.kind,ok.glob,ok.blt,ok.above,ok.inj,ok.has,ok.cab,ok.hd,ok.frames,ok.stk,ok.exf,ok.bs,ok.bsz,ok.noex,ok.exfs,ok.funs,ok.frf⟩
section
variable {X:Cx} {pins:List (Addr×Obj)} {σ:St} {H:Hp} {s:Shared} {E:Value→Shared→Prop}
theorem Inv.wish (I:Inv X pins σ H s) (E:Value→Shared→Prop):Inv (X.wish E) pins σ H s:=⟨I.ok.wish E,I.os,I.bare,I.base,I.loc,I.cell,I.free,I.freeC,I.pin,I.hok,I.len⟩
theorem Inv.unwish (I:Inv (X.wish E) pins σ H s):Inv X pins σ H s:=⟨I.ok.unwish,I.os,I.bare,I.base,I.loc,I.cell,I.free,I.freeC,I.pin,I.hok,I.len⟩
theorem SP.unwish {D:Ends} {f:Flow} {s':Shared} (h:SP (X.wish E) pins D f s'):SP X pins D f s':=by
 cases f with
 | next=>obtain ⟨σ',H',I,q⟩:=h;exact ⟨σ',H',I.unwish,q⟩
 | brk=>obtain ⟨σ',H',I,q⟩:=h;exact ⟨σ',H',I.unwish,q⟩
 | cont=>obtain ⟨σ',H',I,q⟩:=h;exact ⟨σ',H',I.unwish,q⟩
 | ret u=>obtain ⟨v,σ',H',I,r,q⟩:=h;exact ⟨v,σ',H',I.unwish,r,q⟩
theorem PE.nox {e:Expr} {t:TE} (h:PE X.nox e t):PE X e t:=fun pins s σ H Q I hw =>
 wpAny_mono (h pins s σ H Q (I.wish _) hw) (fun _ _ ⟨v,H',I',r,q⟩=>⟨v,H',I'.unwish,r,q⟩) fun _ _ z=>False.elim z
theorem PT.nox {e:Expr} {t:TT} (h:PT X.nox e t):PT X e t:=fun pins s σ H Q I hw =>
 wpAny_mono (h pins s σ H Q (I.wish _) hw) (fun _ _ ⟨H',I',q⟩=>⟨H',I'.unwish,q⟩) fun _ _ z=>False.elim z
theorem PSs.nox {st:List Stmt} {t:TS} (h:PSs X.nox st t):PSs X st t:=fun pins s σ H D I hw =>
 wpAny_mono (h pins s σ H D (I.wish _) hw) (fun _ _ q=>q.unwish) fun _ _ z=>False.elim z
end
section
variable {X:Cx} {st:Stmt} {YW:List Stmt} {t u:TS} {e:Expr} {te:TE} {pos:Pos}
def YbL:TS:=fun D σ H=>D.nx σ H
def Xf (t u:TS):TS:=fun D σ H=>t { D with nx:=u D } σ H
theorem Yq:PSs X [] YbL:=fun _ _ σ H _ I h=>wpAny_execs_nil ⟨σ,H,I,h⟩
theorem Yf (h1:PS X st t) (h2:PSs X YW u):PSs X (st::YW) (Xf t u):=by
 intro pins s σ H D I h
 refine wpAny_execs_cons (thn (h1 pins s σ H { D with nx:=u D } I h) fun f s1 q=>?_)
 cases f with
 | next =>
  obtain ⟨σ',H',I',q⟩:=q
  exact h2 pins s1 σ' H' D I' q
 | ret v=>exact q
 | brk=>exact q
 | cont=>exact q
theorem Yg (h1:PS X st t):PSs X [st] t:=by
 intro pins s σ H D I h
 refine wpAny_execs_cons (thn (h1 pins s σ H D I h) fun f s1 q=>?_)
 cases f with
 | next=>exact wpAny_execs_nil q
 | ret v=>exact q
 | brk=>exact q
 | cont=>exact q
def YcI:TS:=fun D σ H=>D.bk σ H
def tCont:TS:=fun D σ H=>D.ct σ H
theorem Inv.quiet {pins:List (Addr×Obj)} {σ:St} {H:Hp} {s:Shared} (I:Inv X pins σ H s):interactive X.env=false:=by simp [interactive,I.ok.kind]
def YbM (te:TE):TS:=fun D σ H=>te σ H fun _ H1=>D.nx σ H1
theorem Xb (he:PE X e te) (hs:swapsWith e none pos.line X.env=pure false):PS X (.Expr e pos) (YbM te):=by
 intro pins s σ H D I h
 exact wpAny_Expr_any (thn (he pins s σ H _ I h) fun v s1 ⟨x,H1,I1,r1,q1⟩=>⟨σ,H1,I1,q1⟩) I.quiet hs
def tRet (te:TE):TS:=fun D σ H=>te σ H D.rt
theorem Yh (he:PE X e te):PS X (.Return (some e) pos) (tRet te):=by
 intro pins s σ H D I h
 exact wpAny_Return_some (thn (he pins s σ H _ I h) fun v s1 ⟨x,H1,I1,r1,q1⟩=>⟨x,σ,H1,I1,r1,q1⟩)
def tRetN:TS:=fun D _ H=>D.rt .non H
def tIfS (c:TT) (t u:TS):TS:=fun D σ H=>c σ H fun b H1=>if b=true then t D σ H1 else u D σ H1
theorem YD {c:Expr} {a b:List Stmt} {tc:TT} (hc:PT X c tc) (ha:PSs X a t) (hb:PSs X b u):PS X (.If c a b pos) (tIfS tc t u):=by
 intro pins s σ H D I h
 refine wpAny_If (thn (hc pins s σ H _ I h) fun d s1 ⟨H1,I1,q1⟩=>?_)
 cases d with
 | true=>exact ha pins s1 σ H1 D I1 q1
 | false=>exact hb pins s1 σ H1 D I1 q1
def Yaq:TS:=fun _ _ _=>False
theorem Uz:PS X st Yaq:=fun _ _ _ _ _ _ h=>h.elim
end
abbrev TG:=V→St→Hp→(St→Hp→Prop)→Prop
abbrev TGs:=List V→St→Hp→(St→Hp→Prop)→Prop
def PG (X:Cx) (target:Expr) (t:TG):Prop :=
 ∀ (pins:List (Addr×Obj)) (s:Shared) (σ:St) (H:Hp) (v:V) (u:Value) (Q:St→Hp→Prop),Inv X pins σ H s→Ys v u→t v σ H Q →
  wpAny (model X.prog X.w) X.A (assign target X.env u) (fun _ s'=>∃ σ' H',Inv X pins σ' H' s'∧Q σ' H') X.xe s
def PGs (X:Cx) (ts:List Expr) (t:TGs):Prop :=
 ∀ (pins:List (Addr×Obj)) (s:Shared) (σ:St) (H:Hp) (vs:List V) (us:List Value) (Q:St→Hp→Prop),Inv X pins σ H s→Yn vs us→t vs σ H Q →
  wpAny (model X.prog X.w) X.A (assignInOrder ((assignEach ts X.env).map (·.2)) us) (fun _ s'=>∃ σ' H',Inv X pins σ' H' s'∧Q σ' H') X.xe s
abbrev TSet:=V→V→V→Hp→(Hp→Prop)→Prop
abbrev TIp:=V→V→Hp→VK→Prop
section
variable {X:Cx} {pos:Pos}
def Yv (i:Nat):TG:=fun v σ H Q=>Q (σ.set i (some v)) H
theorem Yp {i:Nat} {x:Str} (hN:X.N.Nodup) (hi:X.N[i]?=some x) (hx:Loc X.env.scope x) (hf:X.fn x=true∨X.env.scope.names.lookup x=some .local:=by first | exact .inl rfl | exact .inr rfl | assumption):PG X (.Name x pos) (Yv i):=by
 intro pins s σ H v u Q I r h
 exact wpAny_assign_Name (Uy I hN hi hx r (fun s' I'=>⟨_,H,I',h⟩) hf)
def XX:TGs:=fun vs σ H Q=>vs=[]∧Q σ H
def YS (t:TG) (u:TGs):TGs:=fun vs σ H Q=>∃ v r,vs=v::r∧t v σ H fun σ' H'=>u r σ' H' Q
theorem Xm:PGs X [] XX:=by
 intro pins s σ H vs us Q I r h
 obtain ⟨e,h⟩:=h
 subst e
 cases r
 exact assignInOrder_nil ⟨σ,H,I,h⟩
theorem YK {e:Expr} {es:List Expr} {t:TG} {u:TGs} (h1:PG X e t) (h2:PGs X es u)
  (hs:(assignEach (e::es) X.env).map (·.2)=assign e X.env::(assignEach es X.env).map (·.2)):PGs X (e::es) (YS t u):=by
 intro pins s σ H vs us Q I r h
 obtain ⟨v,vr,e1,h⟩:=h
 subst e1
 cases r with
 | cons r rr =>
  rw [hs]
  refine assignInOrder_cons (thn (h1 pins s σ H _ _ _ I r h) fun _ s1 ⟨σ1,H1,I1,q1⟩=>?_)
  exact h2 pins s1 σ1 H1 _ _ Q I1 rr q1
def XY (K:PySem.W.Frag) (n:Nat) (t:TGs):TG:=fun v σ H Q=>∃ a xs,v = .ref a∧SqT K H a xs∧xs.length=n∧t xs σ H Q
theorem Xz {es:List Expr} {k:Nat} {t:TGs} {n:Nat} (hc:X.calm=true) (h:PGs X es t)
  (hn:(assignEach es X.env).length=n) (hst:(assignEach es X.env).findIdx? (·.1)=none):PG X (.Tuple es k pos) (XY X.K n t):=by
 intro pins s σ H v u Q I r hw
 obtain ⟨a,xs,e1,hq,hl,hw⟩:=hw
 subst e1
 cases r
 obtain ⟨its,rv,ht,hz⟩:=I.tuple hq
 refine assign_Tuple_tuple (I.ok.hd hc) ht (by simp [hn,← hl,rv.length]) hst fun h' hx=>?_
 have I1:Inv X pins σ H { s with heap:=h' }:=I.kept (t':=s.toks) fun b o e=>hx b o (Nat.ne_of_lt (Heap.lt_size e)) e
 exact h pins _ σ H xs _ Q I1 (by simpa using rv) hw
def gSub (to ti:TE) (t:TSet):TG:=fun v σ H Q=>to σ H fun o H1=>ti σ H1 fun i H2=>t o i v H2 fun H3=>Q σ H3
def QW (te:TE) (g:TG):TS:=fun D σ H=>te σ H fun x H1=>g x σ H1 D.nx
theorem Yar {tg e:Expr} {te:TE} {g:TG} (he:PE X e te) (hg:PG X tg g) (hs:swapsWithSole [tg] e pos.line X.env=pure false) (hw:swappedStores [tg] e X.env=pure none)
  (h1:(assignEach [tg] X.env).map (·.2)=[assign tg X.env]):PS X (.Assign [tg] e pos) (QW te g):=by
 intro pins s σ H D I h
 refine wpAny_Assign_stores (thn (he pins s σ H _ I h) fun v s1 ⟨x,H1,I1,r1,q1⟩=>?_) hs hw
 rw [h1]
 exact thn (hg pins s1 σ H1 x v _ I1 r1 q1) fun _ s2 q=>q
theorem Yt {i:Nat} {x:Str} {e:Expr} {te:TE} {pos':Pos} (hN:X.N.Nodup) (hi:X.N[i]?=some x) (hx:Loc X.env.scope x) (he:PE X e te) (hs:swapsWith e (some (.Name x pos')) pos.line X.env=pure false) (hf:X.fn x=true∨X.env.scope.names.lookup x=some .local) :
  PS X (.Assign [.Name x pos'] e pos) (QW te (Yv i)):=by
 intro pins s σ H D I h
 refine wpAny_Assign_Name (thn (he pins s σ H _ I h) fun v s1 ⟨y,H1,I1,r1,q1⟩=>?_) hs
 exact Uy I1 hN hi hx r1 (fun s2 I2=>⟨_,H1,I2,q1⟩) hf
def tAug (i:Nat) (te:TE) (ti:TIp):TS:=fun D σ H=>∃ x,σ[i]?=some (some x)∧te σ H fun y H1=>ti x y H1 fun z H2=>D.nx (σ.set i (some z)) H2
def ipI (f:Int→Int→Int):TIp:=fun x y H Q=>∃ i j,x = .int i∧y = .int j∧Q (.int (f i j)) H
end
section
variable {X:Cx} {pos:Pos}
end
structure It where
 go:Nat→Hp→Prop
 yld:Nat→Hp→V→Hp→Prop
 stop:Nat→Hp→Prop
def Xr (X:Cx) (pins:List (Addr×Obj)) (H:Hp) (b:Addr):Prop :=
 H b=none∧b≠X.env.locals∧b∉X.fs∧(b∈X.ex∨X.s₀.heap.objs.size≤b)∧(∀ x c,X.env.cells.lookup x=some c→c≠b)∧∀ p∈X.pn++pins,p.1≠b
theorem Inv.fpOk {X:Cx} {pins:List (Addr×Obj)} {σ:St} {H H':Hp} {s:Shared} {b:Addr} (I:Inv X pins σ H s) (hb:s.heap.objs.size≤b) (hn:H' b=none):Xr X pins H' b:=by
 refine ⟨hn,Nat.ne_of_gt (Nat.lt_of_lt_of_le I.lt hb),I.nofs hb,.inr (Nat.le_trans I.sz hb),fun x c e z=>?_,fun p hp z=>?_⟩
 ·obtain ⟨v,q⟩:=I.cell x c e
  exact absurd (Nat.lt_of_lt_of_le q.lt (by rw [z];exact hb)) (Nat.lt_irrefl _)
 ·exact absurd (Nat.lt_of_lt_of_le (Heap.lt_size (I.pin p hp).1) (by rw [z];exact hb)) (Nat.lt_irrefl _)
structure Turn (P:Program) (w:World) (K:PySem.W.Frag) (tg:Expr) (J:It) (fp:List Addr) (it:Addr) (tn:Nat→Heap→Prop):Prop where
 mem:it∈fp
 obj:∀ i h,tn i h→∀ b∈fp,∃ o,h.get? b=some o∧∀ v,o.data ≠ .cell v
 keep:∀ i h h',tn i h→(∀ b∈fp,∀ o,h.get? b=some o→h'.get? b=some o)→tn i h'
 item:∀ (X:Cx),X.prog=P→X.w=w→X.K=K→X.calm=true→∀ (i:Nat) (pins:List (Addr×Obj)) (s:Shared) (σ:St) (H:Hp) (E:Value→Shared→Prop),Inv X pins σ H s→(∀ b∈fp,Xr X pins H b)→tn i s.heap→J.go i H →
  wpAny (model P w) X.A (pyNext (.ref it)) (fun r s1=>∃ u,r=some u ∧
   wpAny (model P w) X.A (letOwnedTupleGo tg (.ref it) u) (fun _ s2=>∃ x H',Inv X pins σ H' s2∧Ys x u∧J.yld i H x H'∧tn (i+1) s2.heap∧∀ b∈fp,H' b=none) E s1) E s
 done:∀ (X:Cx),X.prog=P→X.w=w→X.K=K→X.calm=true→∀ (i:Nat) (pins:List (Addr×Obj)) (s:Shared) (σ:St) (H:Hp) (E:Value→Shared→Prop),Inv X pins σ H s→(∀ b∈fp,Xr X pins H b)→tn i s.heap→J.stop i H →
  wpAny (model P w) X.A (pyNext (.ref it)) (fun r s1=>r=none∧Inv X pins σ H s1) E s
 self:∀ (A:Around) (i:Nat) (s:Shared) (Q:Value→Shared→Prop) (E:Value→Shared→Prop),tn i s.heap→Q (.ref it) s→wpAny (model P w) A (pyIter (.ref it)) Q E s
abbrev TI:=St→Hp→(It→Hp→Prop)→Prop
def PIE (X:Cx) (pins:List (Addr×Obj)) (σ:St) (tg:Expr) (R:It→Hp→Prop) (itv:Value) (s2:Shared):Prop :=
 ∃ (it:Addr) (fp:List Addr) (tn:Nat→Heap→Prop) (J:It) (H':Hp),itv = .ref it∧Inv X pins σ H' s2∧Turn X.prog X.w X.K tg J fp it tn∧tn 0 s2.heap∧(∀ b∈fp,Xr X pins H' b)∧R J H'
def PI (X:Cx) (tg iter:Expr) (wi:TI):Prop :=
 ∀ (pins:List (Addr×Obj)) (s:Shared) (σ:St) (H:Hp) (R:It→Hp→Prop),Inv X pins σ H s→wi σ H R →
  wpAny (model X.prog X.w) X.A (eval iter X.env) (fun v s1=>wpAny (model X.prog X.w) X.A (pyIter v) (PIE X pins σ tg R) X.xe s1) X.xe s
theorem QX {M:Model} {A:Around} {E:Value→Shared→Prop} {s:Shared} {tg:Expr} {it:Addr} {u:Value} {o:Obj} {n:String} {vs:Array Value} {Q:Unit→Shared→Prop} (ho:s.heap.get? it=some o) (hc:o.cls = .type n) (hd:o.data = .fields vs)
  (hn:["enumerate","zip","dict_itemiterator","dict_reverseitemiterator","odict_iterator","itertools.zip_longest","itertools.pairwise"].contains n=false) (hQ:Q () s):wpAny M A (letOwnedTupleGo tg (.ref it) u) Q E s:=by
 unfold letOwnedTupleGo
 cases tg<;>first
  | exact wpAny_pure hQ
  | (cases u<;>first
    | exact wpAny_pure hQ
    | (refine wpAny_bind (wpAny_load ho ?_)
       rw [hc,hd]
       show wpAny M A (if (["enumerate","zip","dict_itemiterator","dict_reverseitemiterator","odict_iterator","itertools.zip_longest","itertools.pairwise"].contains n&&vs[0]?==some (rawInt _))=true then _ else _) Q E s
       rw [if_neg (by intro h;rw [hn,Bool.false_and] at h;cases h)]
       exact wpAny_pure hQ))
def Itl (K:PySem.W.Frag) (a:Addr):It :=
 ⟨fun i H=>∃ xs x,SqL K H a xs∧xs[i]?=some x,fun i H x H'=>H'=H∧∀ xs,SqL K H a xs→xs[i]?=some x,fun i H=>∃ xs,SqL K H a xs∧xs.length≤i⟩
def Itr (lo:Int) (n:Nat):It:=⟨fun i _=>i<n,fun i H x H'=>H'=H∧x = .int (lo+i),fun i _=>n≤i⟩
theorem Yas {P:Program} {w:World} {K:PySem.W.Frag} {tg:Expr} (a it:Addr):Turn P w K tg (Itl K a) [it] it (fun i h=>h.IsListIter it a i) where
 mem:=by simp
 obj:=fun i h st b hb=>by
  have e:b=it:=by simpa using hb
  subst e
  obtain ⟨o,e,c,d⟩:=st
  exact ⟨o,e,fun v z=>by rw [d] at z;cases z⟩
 keep:=fun i h h' st k=>st.at fun o e=>k it (by simp) o e
 item:=by
  intro X hP hw hK hc i pins s σ H E I hf st hg
  subst hP hw hK
  obtain ⟨xs,x,hq,hx⟩:=hg
  obtain ⟨its,rv,p,hz⟩:=I.list hq
  obtain ⟨u,hu,ru⟩:=rv.get hx
  obtain ⟨f0,f1,f2,f3,f4,f5⟩:=hf it (by simp)
  refine wpAny_pyNext_list_item st p.isList (x:=u) (by simpa using hu) fun h' st' sb=>?_
  have I1:Inv X pins σ H { s with heap:=h' }:=I.turned (t':=s.toks) (fun b o hb e=>(sb.2 b hb).trans e) f0 f1 f3 f4 f5
  obtain ⟨o,e,c,d⟩:=id st'
  exact ⟨u,rfl,QX (s:={ s with heap:=h' }) e c d (by decide) ⟨x,H,I1,ru,⟨rfl,fun ys hy=>by rw [I.list_inj hy hq];exact hx⟩,st',fun b hb=>(hf b hb).1⟩⟩
 done:=by
  intro X hP hw hK hc i pins s σ H E I hf st hg
  subst hP hw hK
  obtain ⟨xs,hq,hx⟩:=hg
  obtain ⟨its,rv,p,hz⟩:=I.list hq
  obtain ⟨f0,f1,f2,f3,f4,f5⟩:=hf it (by simp)
  have hl:=rv.length
  exact wpAny_pyNext_list_end (I.ok.hd hc) st p.isList (by simp;omega) fun h' eb=>⟨rfl,I.turned (t':=s.toks) (fun b o hb e=>eb b o hb e) f0 f1 f3 f4 f5⟩
 self:=fun _ _ _ _ _ st h=>wpAny_pyIter_listiter st h
theorem QY {P:Program} {w:World} {K:PySem.W.Frag} {tg:Expr} (it:Addr) (lo:Int) (n:Nat):Turn P w K tg (Itr lo n) [it] it (fun i h=>IsRangeIter h it (lo+(i:Nat)*1) ((n:Int) - (i:Nat)) 1) where
 mem:=by simp
 obj:=fun i h st b hb=>by
  have e:b=it:=by simpa using hb
  subst e
  exact ⟨_,st,fun v z=>by
   have z':Data.fields _=Data.cell v:=z
   cases z'⟩
 keep:=fun i h h' st k=>k it (by simp) _ st
 item:=by
  intro X hP hw hK hc i pins s σ H E I hf st hg
  subst hP hw hK
  obtain ⟨f0,f1,f2,f3,f4,f5⟩:=hf it (by simp)
  have W:=Walks.range (prog:=X.prog) (w:=X.w) (I.ok.hd hc) it lo 1 n
  refine W.item i s _ _ hg st fun v h' tk hv st' kk=>?_
  obtain ⟨t,rfl⟩:=hv
  have I1:Inv X pins σ H { s with heap:=h',toks:=tk }:=I.turned (fun b o hb e=>kk b o (by simpa using hb) e) f0 f1 f3 f4 f5
  refine ⟨_,rfl,QX (s:={ s with heap:=h',toks:=tk }) (n:="range_iterator") st' rfl rfl (by decide) ⟨.int (lo+i),H,I1,⟨t,?_⟩,⟨rfl,rfl⟩,st',fun b hb=>(hf b hb).1⟩⟩
  rw [Int.mul_one]
 done:=by
  intro X hP hw hK hc i pins s σ H E I hf st hg
  subst hP hw hK
  obtain ⟨f0,f1,f2,f3,f4,f5⟩:=hf it (by simp)
  exact wpAny_pyNext_range_end (I.ok.hd hc) st (by have:n≤i:=hg;omega) fun h' eb=>⟨rfl,I.turned (t':=s.toks) (fun b o hb e=>eb b o hb e) f0 f1 f3 f4 f5⟩
 self:=fun _ _ _ _ _ st h=>wpAny_pyIter_rangeiter st h
end L2
namespace L2
open PySem PySem.Spec PyProof.Rows
section
variable {X:Cx} {tg:Expr}
def Wd (K:PySem.W.Frag) (tl:TE):TI:=fun σ H R=>tl σ H fun x H1=>∃ a,x = .ref a∧(∃ xs,SqL K H1 a xs)∧R (Itl K a) H1
theorem YT {l:Expr} {tl:TE} (hl:PE X l tl):PI X tg l (Wd X.K tl):=by
 intro pins s σ H R I h
 refine thn (hl pins s σ H _ I h) fun v s1 ⟨x,H1,I1,r1,q1⟩=>?_
 obtain ⟨a,e,⟨xs,hq⟩,q⟩:=q1
 subst e
 cases r1
 obtain ⟨its,rv,p,hz⟩:=I1.list hq
 refine wpAny_pyIter_list p.isList ?_
 refine ⟨s1.heap.objs.size,[s1.heap.objs.size],_,_,H1,rfl,I1.kept (t':=s1.toks) fun b o e=>Heap.get?_push_of_some _ e,Yas a _,⟨_,Heap.get?_push_size _ rfl,rfl,rfl⟩,fun b hb=>?_,q⟩
 have e:b=s1.heap.objs.size:=by simpa using hb
 subst e
 exact I1.fpOk (Nat.le_refl _) (I1.hok.fresh (Nat.le_refl _))
theorem Ybg {pins:List (Addr×Obj)} {σ:St} {H:Hp} {s:Shared} {R:It→Hp→Prop} {E:Value→Shared→Prop} {lo hi:Int} {t u v:Tok} {tk:Nat} (I:Inv X pins σ H s) (h1 : -(2^62)≤lo) (h2:lo<2^62) (h3 : -(2^62)≤hi) (h4:hi<2^62)
  (q:R (Itr lo (hi - lo).toNat) H):wpAny (model X.prog X.w) X.A (pyIter (.ref s.heap.objs.size)) (PIE X pins σ tg R) E { s with heap:=s.heap.push { cls := .type "range",data := .fields #[.int lo t,.int hi u,.int 1 v] },toks:=tk }:=by
 refine wpAny_pyIter_range (IsRange.new ..) (small_one h1 h2 h3 h4) ?_
 have I1:Inv X pins σ H { s with heap:=s.heap.push { cls := .type "range",data := .fields #[.int lo t,.int hi u,.int 1 v] },toks:=tk }:=I.kept fun b o e=>Heap.get?_push_of_some _ e
 refine ⟨(s.heap.push { cls := .type "range",data := .fields #[.int lo t,.int hi u,.int 1 v] }).objs.size,[(s.heap.push { cls := .type "range",data := .fields #[.int lo t,.int hi u,.int 1 v] }).objs.size],_,_,H,rfl,
  I1.kept (t':=tk) fun b o e=>Heap.get?_push_of_some _ e,QY _ lo (hi - lo).toNat,?_,fun b hb=>?_,q⟩
 ·have e1:lo+((0:Nat):Int)*1=lo:=by simp
  have e2:(((hi - lo).toNat:Nat):Int) - ((0:Nat):Int)=Builtin.Range.rangeSize lo hi 1:=by rw [rangeSize_one];split<;>omega
  show IsRangeIter _ _ (lo+((0:Nat):Int)*1) ((((hi - lo).toNat:Nat):Int) - ((0:Nat):Int)) 1
  rw [e1,e2]
  exact Heap.get?_push_size _ rfl
 ·have e:b=(s.heap.push { cls := .type "range",data := .fields #[.int lo t,.int hi u,.int 1 v] }).objs.size:=by simpa using hb
  subst e
  exact I1.fpOk (Nat.le_refl _) (I1.hok.fresh (Nat.le_refl _))
def YbN (ta:TA):TI:=fun σ H R=>ta σ H fun vs H1=>∃ j:Int,vs=[.int j] ∧ -(2^62)≤j∧j<2^62∧R (Itr 0 j.toNat) H1
theorem WJ {a:Expr} {ta:TA} {p pos:Pos} (hg:Gl X "range") (hm:X.mg "range"=none) (ha:PA X [a] ta) (hs:starEach [a] X.env=[(false,eval a X.env)]):PI X tg (.Call (.Name "range" p) [a] [] pos) (YbN ta):=by
 intro pins s σ H R I h
 refine Call_ (XT I hg hm boot_range (PyProof.Rows.callWith_type1 (thn (ha pos pins s σ H _ I h) fun us s1 ⟨vs,H1,I1,r1,q1⟩=>?_) hs rfl))
 obtain ⟨j,e,q1,q2,q⟩:=q1
 subst e
 cases r1 with
 | cons r rr =>
  cases rr
  obtain ⟨t,rfl⟩:=r
  exact call_range_1 (Ybg I1 (by omega) (by omega) q1 q2 (by simpa using q))
def Vz (wi:TI) (g:TG) (tb:TS):TS:=fun D σ H=>wi σ H fun J H1=>∃ W:Nat→Nat→St→Hp→Prop,(∃ m,W 0 m σ H1)∧∀ i m σ H,W i m σ H →
 (J.stop i H∧D.nx σ H)∨(J.go i H∧∃ N:St→Hp→Prop,(∀ σ' H',N σ' H'→∃ m',m'<m∧W (i+1) m' σ' H')∧∀ x H',J.yld i H x H'→g x σ H' fun σ2 H2=>tb { D with nx:=N,ct:=N,bk:=D.nx } σ2 H2)
def Wn (fp:List Addr) (h:Heap):List (Addr×Obj):=fp.filterMap fun b=>(h.get? b).map fun o=>(b,o)
theorem Y5 {fp:List Addr} {h:Heap} {b:Addr} {o:Obj} (hb:b∈fp) (e:h.get? b=some o):(b,o)∈Wn fp h:=List.mem_filterMap.mpr ⟨b,hb,by rw [e];rfl⟩
theorem Yat {fp:List Addr} {h:Heap} {p:Addr×Obj} (hp:p∈Wn fp h):p.1∈fp∧h.get? p.1=some p.2:=by
 obtain ⟨b,hb,e⟩:=List.mem_filterMap.mp hp
 cases q:h.get? b with
 | none=>rw [q] at e;cases e
 | some o =>
  rw [q] at e
  have e':(b,o)=p:=Option.some.inj e
  subst e'
  exact ⟨hb,q⟩
theorem Inv.pinned {pins:List (Addr×Obj)} {σ:St} {H:Hp} {s:Shared} {fp:List Addr} (I:Inv X pins σ H s) (hf:∀ b∈fp,Xr X pins H b) (ho:∀ b∈fp,∃ o,s.heap.get? b=some o∧∀ v,o.data ≠ .cell v):Inv X (pins++Wn fp s.heap) σ H s :=
 I.pins_of fun p hp=>(List.mem_append.mp hp).elim (fun z=>I.pin p (List.mem_append_right _ z)) fun z=>by
  obtain ⟨hb,e⟩:=Yat z
  obtain ⟨f0,f1,f2,_⟩:=hf p.1 hb
  obtain ⟨o,e',d⟩:=ho p.1 hb
  rw [e] at e';cases e'
  exact ⟨e,f0,f1,f2,d⟩
theorem Inv.unpinned {pins pl:List (Addr×Obj)} {σ:St} {H:Hp} {s:Shared} (I:Inv X (pins++pl) σ H s):Inv X pins σ H s:=I.pins_of fun p hp=>I.pin p (List.mem_append_right _ (List.mem_append_left _ hp))
theorem Xg {iter:Expr} {body:List Stmt} {wi:TI} {g:TG} {tb:TS} {pos:Pos} (hp:PassesOwn (model X.prog X.w) X.A X.env X.xe) (hc:X.calm=true) (hi:PI X tg iter wi) (hg:PG X tg g) (hb:PSs X body tb)
  (hs:∀ x,foldedSetIterable iter X.env x=pure x):PS X (.For tg iter body [] pos) (Vz wi g tb):=by
 intro pins s σ H D I h
 refine wpAny_For (thn (hi pins s σ H _ I h) fun v s1 h1=>thn h1 fun itv s2 h2=>?_) hs
 obtain ⟨it,fp,tn,J,H2,e,I2,T,st2,f2,W,⟨m0,w0⟩,turn⟩:=h2
 subst e
 -- what stays true of the iterator's objects through the loop
 have stat:∀ {H':Hp},(∀ b∈fp,H' b=none)→∀ b∈fp,Xr X pins H' b:=fun hn b hb=>⟨hn b hb,(f2 b hb).2⟩
 refine codeAny_forLoop_any (fun n s'=>∃ i σ' H',Inv X pins σ' H' s'∧tn i s'.heap∧(∀ b∈fp,H' b=none)∧W i n σ' H') ?_ m0 ⟨0,σ,H2,I2,st2,fun b hb=>(f2 b hb).1,w0⟩
 rintro n s3 ⟨i,σ3,H3,I3,st3,fr3,w3⟩
 rcases turn i n σ3 H3 w3 with ⟨stop,qn⟩ | ⟨go,N,hN,step⟩
 ·refine wpAny_passesOwn hp (thn (T.done X rfl rfl rfl hc i pins s3 σ3 H3 X.xe I3 (stat fr3) st3 stop) fun r s4 ⟨hr,I4⟩=>?_)
  subst hr
  exact wpAny_execs_nil ⟨σ3,H3,I4,qn⟩
 ·refine wpAny_passesOwn hp (thn (T.item X rfl rfl rfl hc i pins s3 σ3 H3 X.xe I3 (stat fr3) st3 go) fun r s4 ⟨u,hr,h4⟩=>?_)
  subst hr
  refine wpAny_passesOwn hp (thn h4 fun _ s5 ⟨x,H5,I5,r5,y5,st5,fr5⟩=>?_)
  have I5':=I5.pinned (stat fr5) (T.obj _ _ st5)
  refine wpAny_passesOwn hp (thn (hg _ s5 σ3 H5 x u _ I5' r5 (step x H5 y5)) fun _ s6 ⟨σ6,H6,I6,q6⟩=>?_)
  refine wpAny_passesOwn hp (thn (hb _ s6 σ6 H6 _ I6 q6) fun f s7 q7=>?_)
  have again:∀ {σ7:St} {H7:Hp},Inv X (pins++Wn fp s5.heap) σ7 H7 s7→N σ7 H7→∃ m,m<n∧∃ i σ' H',Inv X pins σ' H' s7∧tn i s7.heap∧(∀ b∈fp,H' b=none)∧W i m σ' H':=fun {σ7 H7} I7 n7=>by
   obtain ⟨m',hm,w7⟩:=hN σ7 H7 n7
   refine ⟨m',hm,i+1,σ7,H7,I7.unpinned,T.keep _ _ _ st5 fun b hb o e=>(I7.pin (b,o) (List.mem_append_right _ (List.mem_append_right _ (Y5 hb e)))).1,fun b hb=>?_,w7⟩
   obtain ⟨o,e,d⟩:=T.obj _ _ st5 b hb
   exact (I7.pin (b,o) (List.mem_append_right _ (List.mem_append_right _ (Y5 hb e)))).2.1
  cases f with
  | next=>obtain ⟨σ7,H7,I7,n7⟩:=q7;exact again I7 n7
  | cont=>obtain ⟨σ7,H7,I7,n7⟩:=q7;exact again I7 n7
  | brk=>obtain ⟨σ7,H7,I7,q7⟩:=q7;exact ⟨σ7,H7,I7.unpinned,q7⟩
  | ret v=>obtain ⟨x7,σ7,H7,I7,r7,q7⟩:=q7;exact ⟨x7,σ7,H7,I7.unpinned,r7,q7⟩
end
theorem UA {K:PySem.W.Frag} {a:Addr} {xs:List V} {g:TG} {tb:TS} {D:Ends} {σ:St} {H:Hp} (Pv:Nat→St→Hp→Prop) (h0:Pv 0 σ H) (hl:∀ i σ H,i≤xs.length→Pv i σ H→SqL K H a xs)
  (hs:∀ i x σ H,xs[i]?=some x→Pv i σ H→g x σ H fun σ2 H2=>tb { D with nx:=Pv (i+1),ct:=Pv (i+1),bk:=D.nx } σ2 H2) (hd:∀ σ H,Pv xs.length σ H→D.nx σ H) :
  ∃ W:Nat→Nat→St→Hp→Prop,(∃ m,W 0 m σ H)∧∀ i m σ H,W i m σ H →
   ((Itl K a).stop i H∧D.nx σ H)∨((Itl K a).go i H∧∃ N:St→Hp→Prop,(∀ σ' H',N σ' H'→∃ m',m'<m∧W (i+1) m' σ' H')∧∀ x H',(Itl K a).yld i H x H'→g x σ H' fun σ2 H2=>tb { D with nx:=N,ct:=N,bk:=D.nx } σ2 H2):=by
 refine ⟨fun i m σ H=>m=xs.length - i∧i≤xs.length∧Pv i σ H,⟨xs.length,by simp,Nat.zero_le _,h0⟩,?_⟩
 rintro i m σ H ⟨rfl,hi,p⟩
 have q:=hl i σ H hi p
 by_cases hlt:i<xs.length
 ·refine .inr ⟨⟨xs,xs[i],q,by simp [hlt]⟩,Pv (i+1),fun σ' H' p'=>⟨xs.length - (i+1),by omega,rfl,hlt,p'⟩,fun x H' y=>?_⟩
  obtain ⟨e,y⟩:=y
  subst e
  exact hs i x σ _ (y xs q) p
 ·have e:i=xs.length:=by omega
  subst e
  exact .inl ⟨⟨xs,q,Nat.le_refl _⟩,hd σ H p⟩
theorem Yau {lo:Int} {n:Nat} {g:TG} {tb:TS} {D:Ends} {σ:St} {H:Hp} (Pv:Nat→St→Hp→Prop) (h0:Pv 0 σ H)
  (hs:∀ i σ H,i<n→Pv i σ H→g (.int (lo+i)) σ H fun σ2 H2=>tb { D with nx:=Pv (i+1),ct:=Pv (i+1),bk:=D.nx } σ2 H2) (hd:∀ σ H,Pv n σ H→D.nx σ H) :
  ∃ W:Nat→Nat→St→Hp→Prop,(∃ m,W 0 m σ H)∧∀ i m σ H,W i m σ H →
   ((Itr lo n).stop i H∧D.nx σ H)∨((Itr lo n).go i H∧∃ N:St→Hp→Prop,(∀ σ' H',N σ' H'→∃ m',m'<m∧W (i+1) m' σ' H')∧∀ x H',(Itr lo n).yld i H x H'→g x σ H' fun σ2 H2=>tb { D with nx:=N,ct:=N,bk:=D.nx } σ2 H2):=by
 refine ⟨fun i m σ H=>m=n - i∧i≤n∧Pv i σ H,⟨n,by simp,Nat.zero_le _,h0⟩,?_⟩
 rintro i m σ H ⟨rfl,hi,p⟩
 by_cases hlt:i<n
 ·refine .inr ⟨hlt,Pv (i+1),fun σ' H' p'=>⟨n - (i+1),by omega,rfl,hlt,p'⟩,fun x H' y=>?_⟩
  obtain ⟨e,y⟩:=y
  subst e y
  exact hs i σ _ hlt p
 ·have e:i=n:=by omega
  subst e
  exact .inl ⟨Nat.le_refl _,hd σ H p⟩
end L2
namespace L2
open PySem PySem.Spec PyProof.Rows
abbrev R2:=V→V→Hp→VK→Prop
def OpR (X:Cx) (f:Value→Value→Sem Value) (r:R2):Prop :=
 ∀ (pins:List (Addr×Obj)) (s:Shared) (σ:St) (H:Hp) (x y:V) (v u:Value) (Q:VK),Inv X pins σ H s→Ys x v→Ys y u→r x y H Q →
  wpAny (model X.prog X.w) X.A (f v u) (EP X pins σ Q) X.xe s
def UnR (X:Cx) (f:Value→Sem Value) (r:V→Hp→VK→Prop):Prop :=
 ∀ (pins:List (Addr×Obj)) (s:Shared) (σ:St) (H:Hp) (x:V) (v:Value) (Q:VK),Inv X pins σ H s→Ys x v→r x H Q →
  wpAny (model X.prog X.w) X.A (f v) (EP X pins σ Q) X.xe s
def Xn (X:Cx) (f:Value) (r:List V→Hp→VK→Prop):Prop :=
 ∀ (pins:List (Addr×Obj)) (s:Shared) (σ:St) (H:Hp) (xs:List V) (us:List Value) (Q:VK),Inv X pins σ H s→Yn xs us→r xs H Q →
  wpAny (model X.prog X.w) X.A (call f us) (EP X pins σ Q) X.xe s
def tOp (r:R2) (ta tb:TE):TE:=fun σ H Q=>ta σ H fun x H1=>tb σ H1 fun y H2=>r x y H2 Q
def tUn (r:V→Hp→VK→Prop) (ta:TE):TE:=fun σ H Q=>ta σ H fun x H1=>r x H1 Q
def rI (C:Int→Int→Prop) (g:Int→Int→V):R2:=fun x y H Q=>∃ i j,x = .int i∧y = .int j∧C i j∧Q (g i j) H
def rI0 (g:Int→Int→V):R2:=fun x y H Q=>∃ i j,x = .int i∧y = .int j∧Q (g i j) H
def rU (g:Int→V):V→Hp→VK→Prop:=fun x H Q=>∃ i,x = .int i∧Q (g i) H
section
variable {X:Cx} {a b c:Expr} {ta tb tc:TE} {pos:Pos}
theorem binT (ha:PE X a ta) (hb:PE X b tb) {pins:List (Addr×Obj)} {s:Shared} {σ:St} {H:Hp} {R:V→V→Hp→Prop} (I:Inv X pins σ H s)
  (h:ta σ H fun x H1=>tb σ H1 fun y H2=>R x y H2) {Q:Value→Shared→Prop} {f:Value→Value→Sem Value}
  (hf:∀ v u s2 x y H2,Inv X pins σ H2 s2→Ys x v→Ys y u→R x y H2→wpAny (model X.prog X.w) X.A (f v u) Q X.xe s2) :
  wpAny (model X.prog X.w) X.A (eval a X.env) (fun v s₁=>wpAny (model X.prog X.w) X.A (eval b X.env) (fun u s₂=>wpAny (model X.prog X.w) X.A (f v u) Q X.xe s₂) X.xe s₁) X.xe s:=by
 refine thn (ha pins s σ H _ I h) fun v s1 ⟨x,H1,I1,r1,q1⟩=>?_
 refine thn (hb pins s1 σ H1 _ I1 q1) fun u s2 ⟨y,H2,I2,r2,q2⟩=>?_
 exact hf v u s2 x y H2 I2 r1 r2 q2
theorem Yw {op:Operator} {r:R2} (ho:OpR X (binaryOp op) r) (ha:PE X a ta) (hb:PE X b tb):PE X (.BinOp a op b pos) (tOp r ta tb):=by
 intro pins s σ H Q I h
 exact wpAny_BinOp (binT ha hb I h fun v u s2 x y H2 I2 rx ry q=>ho pins s2 σ H2 x y v u Q I2 rx ry q)
theorem Wy {op:UnaryOp} {r:V→Hp→VK→Prop} (ho:UnR X (unaryOp op) r) (ha:PE X a ta):PE X (.UnaryOp op a pos) (tUn r ta):=by
 intro pins s σ H Q I h
 exact UnaryOp_ (thn (ha pins s σ H _ I h) fun v s1 ⟨x,H1,I1,r1,q1⟩=>ho pins s1 σ H1 x v Q I1 r1 q1)
theorem opI {f:Value→Value→Sem Value} {C:Int→Int→Prop} {g:Int→Int→Int}
  (rule:∀ (i j:Int) (t u:Tok) (s:Shared) (Q:Value→Shared→Prop) (E:Value→Shared→Prop),C i j→Q (.int (g i j) s.toks) { s with toks:=s.toks+1 }→wpAny (model X.prog X.w) X.A (f (.int i t) (.int j u)) Q E s) :
  OpR X f (rI C fun i j => .int (g i j)):=by
 intro pins s σ H x y v u Q I rx ry h
 obtain ⟨i,j,rfl,rfl,hc,q⟩:=h
 obtain ⟨t,rfl⟩:=rx
 obtain ⟨t',rfl⟩:=ry
 exact rule i j t t' s _ _ hc ⟨.int (g i j),H,I.tok _,⟨_,rfl⟩,q⟩
theorem opI0 {f:Value→Value→Sem Value} {g:Int→Int→Int}
  (rule:∀ (i j:Int) (t u:Tok) (s:Shared) (Q:Value→Shared→Prop) (E:Value→Shared→Prop),Q (.int (g i j) s.toks) { s with toks:=s.toks+1 }→wpAny (model X.prog X.w) X.A (f (.int i t) (.int j u)) Q E s) :
  OpR X f (rI0 fun i j => .int (g i j)):=by
 intro pins s σ H x y v u Q I rx ry h
 obtain ⟨i,j,rfl,rfl,q⟩:=h
 obtain ⟨t,rfl⟩:=rx
 obtain ⟨t',rfl⟩:=ry
 exact rule i j t t' s _ _ ⟨.int (g i j),H,I.tok _,⟨_,rfl⟩,q⟩
theorem opB0 {f:Value→Value→Sem Value} {g:Int→Int→Bool}
  (rule:∀ (i j:Int) (t u:Tok) (s:Shared) (Q:Value→Shared→Prop) (E:Value→Shared→Prop),Q (.bool (g i j)) s→wpAny (model X.prog X.w) X.A (f (.int i t) (.int j u)) Q E s) :
  OpR X f (rI0 fun i j => .bl (g i j)):=by
 intro pins s σ H x y v u Q I rx ry h
 obtain ⟨i,j,rfl,rfl,q⟩:=h
 obtain ⟨t,rfl⟩:=rx
 obtain ⟨t',rfl⟩:=ry
 exact rule i j t t' s _ _ ⟨.bl (g i j),H,I,rfl,q⟩
def CPow (i j:Int):Prop:=0≤j∧j≤1000000∧i.natAbs<2^64
def CMul (i j:Int):Prop:=(-(2^64)<i∧i<2^64)∨(-(2^64)<j∧j<2^64)
theorem CMul.ok {i j:Int} (h:CMul i j):IntMulOk i j:=by
 rcases h with ⟨h1,h2⟩ | ⟨h1,h2⟩
 ·exact .of_left (intBits_le_64 h1 h2)
 ·exact .of_right (intBits_le_64 h1 h2)
theorem XV:OpR X (binaryOp .Add) (rI0 fun i j => .int (i+j)):=opI0 fun _ _ _ _ _ _ _ q=>add_int q
theorem Wo:OpR X (binaryOp .Sub) (rI0 fun i j => .int (i - j)):=opI0 fun _ _ _ _ _ _ _ q=>sub_int q
theorem Xh:OpR X (binaryOp .Mod) (rI (fun _ j=>0<j) fun i j => .int (i%j)):=opI fun i j _ _ _ _ _ hc q=>by
 have h1:(0:Int)<j:=hc
 exact mod_int' (by omega) (by rw [Int.fmod_eq_emod_of_nonneg i (by omega)];exact q)
theorem Yav:OpR X (binaryOp .Pow) (rI CPow fun i j => .int (i^j.toNat)):=opI fun _ _ _ _ _ _ _ hc q=>pow_int_small hc.1 hc.2.1 hc.2.2 q
theorem unI {f:Value→Sem Value} {g:Int→Int}
  (rule:∀ (i:Int) (t:Tok) (s:Shared) (Q:Value→Shared→Prop) (E:Value→Shared→Prop),Q (.int (g i) s.toks) { s with toks:=s.toks+1 }→wpAny (model X.prog X.w) X.A (f (.int i t)) Q E s) :
  UnR X f (rU fun i => .int (g i)):=by
 intro pins s σ H x v Q I rx h
 obtain ⟨i,rfl,q⟩:=h
 obtain ⟨t,rfl⟩:=rx
 exact rule i t s _ _ ⟨.int (g i),H,I.tok _,⟨_,rfl⟩,q⟩
theorem X8:UnR X (unaryOp .USub) (rU fun i => .int (-i)):=unI fun _ _ _ _ _ q=>neg_int q
end
def QZ:V→V→Bool
 | .non,.non=>true | .non,.int _=>true | .int _,.non=>true | .non,.bl _=>true | .bl _,.non=>true | .non,.str _=>true | .str _,.non=>true
 | .int _,.int _=>true | .bl _,.bl _=>true | .str _,.str _=>true | .byt _,.byt _=>true
 | .int _,.str _=>true | .str _,.int _=>true | .bl _,.str _=>true | .str _,.bl _=>true
 | _,_=>false
def rEq:R2:=fun x y H Q=>QZ x y=true∧Q (.bl (decide (x=y))) H
def rNe:R2:=fun x y H Q=>QZ x y=true∧Q (.bl (!decide (x=y))) H
theorem Qx {i j:Int}:decide (V.int i=V.int j)=(i==j):=by
 rw [Bool.eq_iff_iff]
 simp
theorem Yaw {i j:Bool}:decide (V.bl i=V.bl j)=(i==j):=by
 rw [Bool.eq_iff_iff]
 simp
theorem Qy {i j:Str}:decide (V.str i=V.str j)=(i==j):=by
 rw [Bool.eq_iff_iff]
 simp
theorem Qz {i j:Array UInt8}:decide (V.byt i=V.byt j)=(i.toList==j.toList):=by
 rw [Bool.eq_iff_iff]
 cases i
 cases j
 simp
section
variable {X:Cx} {a b c:Expr} {ta tb tc:TE} {pos:Pos}
theorem Yx {pins:List (Addr×Obj)} {σ:St} {H:Hp} {s:Shared} {Q:VK} {k k':Bool} (I:Inv X pins σ H s) (q:Q (.bl k) H) (e:k=k'):EP X pins σ Q (.bool k') s:=by
 subst e
 exact ⟨.bl k,H,I,rfl,q⟩
theorem YG:OpR X (compareOp .Eq) rEq:=by
 intro pins s σ H x y v u Q I rx ry h
 obtain ⟨hs,q⟩:=h
 cases x with
 | non =>
  cases rx
  cases y with
  | non=>cases ry;exact PySem.EqNone.eq_none_none (Yx I q (by simp))
  | bl j=>cases ry;exact PySem.EqNone.eq_none_bool (Yx I q (by simp))
  | int j=>obtain ⟨t',rfl⟩:=ry;exact PySem.EqNone.eq_none_int (Yx I q (by simp))
  | str j=>obtain ⟨t',rfl⟩:=ry;exact PySem.EqNone.eq_none_str (Yx I q (by simp))
  | _=>exact absurd (show false=true from hs) Bool.false_ne_true
 | bl i =>
  cases rx
  cases y with
  | non=>cases ry;exact PySem.EqNone.eq_bool_none (Yx I q (by simp))
  | bl j=>cases ry;exact eq_bool (Yx I q Yaw)
  | str j=>obtain ⟨t',rfl⟩:=ry;exact PySem.EqMixed.eq_bool_str (Yx I q (by simp))
  | _=>exact absurd (show false=true from hs) Bool.false_ne_true
 | int i =>
  obtain ⟨t,rfl⟩:=rx
  cases y with
  | non=>cases ry;exact PySem.EqNone.eq_int_none (Yx I q (by simp))
  | int j=>obtain ⟨t',rfl⟩:=ry;exact eq_int (Yx I q Qx)
  | str j=>obtain ⟨t',rfl⟩:=ry;exact PySem.EqMixed.eq_int_str (Yx I q (by simp))
  | _=>exact absurd (show false=true from hs) Bool.false_ne_true
 | str i =>
  obtain ⟨t,rfl⟩:=rx
  cases y with
  | non=>cases ry;exact PySem.EqNone.eq_str_none (Yx I q (by simp))
  | bl j=>cases ry;exact PySem.EqMixed.eq_str_bool (Yx I q (by simp))
  | int j=>obtain ⟨t',rfl⟩:=ry;exact PySem.EqMixed.eq_str_int (Yx I q (by simp))
  | str j=>obtain ⟨t',rfl⟩:=ry;exact eq_str (Yx I q Qy)
  | _=>exact absurd (show false=true from hs) Bool.false_ne_true
 | byt i =>
  obtain ⟨t,rfl⟩:=rx
  cases y with
  | byt j=>obtain ⟨t',rfl⟩:=ry;exact PySem.W.eq_bytes (Yx I q Qz)
  | _=>exact absurd (show false=true from hs) Bool.false_ne_true
 | _=>cases y<;>exact absurd (show false=true from hs) Bool.false_ne_true
theorem Uo:OpR X (compareOp .NotEq) rNe:=by
 intro pins s σ H x y v u Q I rx ry h
 obtain ⟨hs,q⟩:=h
 cases x with
 | non =>
  cases rx
  cases y with
  | non=>cases ry;exact PySem.EqNone.ne_none_none (Yx I q (by simp))
  | bl j=>cases ry;exact PySem.EqNone.ne_none_bool (Yx I q (by simp))
  | int j=>obtain ⟨t',rfl⟩:=ry;exact PySem.EqNone.ne_none_int (Yx I q (by simp))
  | str j=>obtain ⟨t',rfl⟩:=ry;exact PySem.EqNone.ne_none_str (Yx I q (by simp))
  | _=>exact absurd (show false=true from hs) Bool.false_ne_true
 | bl i =>
  cases rx
  cases y with
  | non=>cases ry;exact PySem.EqNone.ne_bool_none (Yx I q (by simp))
  | bl j=>cases ry;exact ne_bool (Yx I q (congrArg not Yaw))
  | str j=>obtain ⟨t',rfl⟩:=ry;exact PySem.EqMixed.ne_bool_str (Yx I q (by simp))
  | _=>exact absurd (show false=true from hs) Bool.false_ne_true
 | int i =>
  obtain ⟨t,rfl⟩:=rx
  cases y with
  | non=>cases ry;exact PySem.EqNone.ne_int_none (Yx I q (by simp))
  | int j=>obtain ⟨t',rfl⟩:=ry;exact ne_int (Yx I q (congrArg not Qx))
  | str j=>obtain ⟨t',rfl⟩:=ry;exact PySem.EqMixed.ne_int_str (Yx I q (by simp))
  | _=>exact absurd (show false=true from hs) Bool.false_ne_true
 | str i =>
  obtain ⟨t,rfl⟩:=rx
  cases y with
  | non=>cases ry;exact PySem.EqNone.ne_str_none (Yx I q (by simp))
  | bl j=>cases ry;exact PySem.EqMixed.ne_str_bool (Yx I q (by simp))
  | int j=>obtain ⟨t',rfl⟩:=ry;exact PySem.EqMixed.ne_str_int (Yx I q (by simp))
  | str j=>obtain ⟨t',rfl⟩:=ry;exact ne_str (Yx I q (congrArg not Qy))
  | _=>exact absurd (show false=true from hs) Bool.false_ne_true
 | byt i =>
  obtain ⟨t,rfl⟩:=rx
  cases y with
  | byt j=>obtain ⟨t',rfl⟩:=ry;exact PySem.W.ne_bytes (Yx I q (congrArg not Qz))
  | _=>exact absurd (show false=true from hs) Bool.false_ne_true
 | _=>cases y<;>exact absurd (show false=true from hs) Bool.false_ne_true
theorem Vh:OpR X (compareOp .Lt) (rI0 fun i j => .bl (decide (i<j))):=opB0 fun _ _ _ _ _ _ _ q=>lt_int q
theorem YbO:OpR X (compareOp .LtE) (rI0 fun i j => .bl (decide (i≤j))):=opB0 fun _ _ _ _ _ _ _ q=>le_int q
theorem Q0:OpR X (compareOp .Gt) (rI0 fun i j => .bl (decide (j<i))):=opB0 fun _ _ _ _ _ _ _ q=>gt_int q
theorem Yax:OpR X (compareOp .In) (fun x y H Q=>∃ i j,x = .str i∧y = .str j∧Q (.bl (!(Builtin.Str.occurrences j i 0 j.length 1).isEmpty)) H):=by
 intro pins s σ H x y v u Q I rx ry h
 obtain ⟨i,j,rfl,rfl,q⟩:=h
 obtain ⟨t,rfl⟩:=rx
 obtain ⟨t',rfl⟩:=ry
 exact in_str (Yx I q rfl)
theorem Yay:OpR X (compareOp .Is) (fun x y H Q=>y = .non∧Q (.bl (decide (x = .non))) H):=by
 intro pins s σ H x y v u Q I rx ry h
 obtain ⟨rfl,q⟩:=h
 cases ry
 refine is_none_gen (Yx I q ?_)
 cases x<;>first
  | (cases rx;rfl)
  | (obtain ⟨t,rfl⟩:=rx;rfl)
theorem Yb7:OpR X (compareOp .IsNot) (fun x y H Q=>y = .non∧Q (.bl (!decide (x = .non))) H):=by
 intro pins s σ H x y v u Q I rx ry h
 obtain ⟨rfl,q⟩:=h
 cases ry
 refine isnot_none_gen (Yx I q ?_)
 cases x<;>first
  | (cases rx;rfl)
  | (obtain ⟨t,rfl⟩:=rx;rfl)
theorem Yj (b:Expr) {op:CmpOp} (h:op ≠ .In:=by decide) (h2:op ≠ .NotIn:=by decide):behindInMarks op b=false:=by
 have e1:(op==CmpOp.In)=false:=by cases op<;>first | rfl | exact absurd rfl h
 have e2:(op==CmpOp.NotIn)=false:=by cases op<;>first | rfl | exact absurd rfl h2
 cases b<;>simp [behindInMarks,e1,e2]
theorem YU {op:CmpOp} {r:R2} (ho:OpR X (compareOp op) r) (ha:PE X a ta) (hb:PE X b tb) (hm:behindInMarks op b=false):PE X (.Compare a [op] [b] pos) (tOp r ta tb):=by
 intro pins s σ H Q I h
 exact wpAny_Compare1 (binT ha hb I h fun v u s2 x y H2 I2 rx ry q=>ho pins s2 σ H2 x y v u Q I2 rx ry q) hm
def YbP (t:TE):TT:=fun σ H Q=>t σ H fun x H'=>∃ k,x = .bl k∧Q k H'
theorem Yo {op:CmpOp} {r:R2} (ho:OpR X (compareOp op) r) (ha:PE X a ta) (hb:PE X b tb) (hm:behindInMarks op b=false):PT X (.Compare a [op] [b] pos) (YbP (tOp r ta tb)):=by
 intro pins s σ H Q I h
 refine wpAny_isTrue_Compare1 (thn (ha pins s σ H _ I h) fun v s1 ⟨x,H1,I1,r1,q1⟩=>thn (hb pins s1 σ H1 _ I1 q1) fun u s2 ⟨y,H2,I2,r2,q2⟩ =>
  thn (ho pins s2 σ H2 x y v u _ I2 r1 r2 q2) fun c s3 ⟨z,H3,I3,r3,k,e,q3⟩=>?_) hm
 subst e
 cases r3
 exact wpAny_truthy_bool ⟨H3,I3,q3⟩
def Yaz (r r':R2) (ta tb tc:TE):TE:=fun σ H Q=>ta σ H fun x H1=>tb σ H1 fun y H2=>r x y H2 fun z H3=>∃ k,z = .bl k ∧
 (if k=true then tc σ H3 fun w' H4=>r' y w' H4 Q else Q (.bl false) H3)
theorem Ybh {op op':CmpOp} {r r':R2} (ho:OpR X (compareOp op) r) (ho':OpR X (compareOp op') r') (ha:PE X a ta) (hb:PE X b tb) (hc:PE X c tc)
  (hm:lastMarks [op,op'] [b,c]=false):PE X (.Compare a [op,op'] [b,c] pos) (Yaz r r' ta tb tc):=by
 intro pins s σ H Q I h
 refine Compare_chain (thn (ha pins s σ H _ I h) fun v s1 ⟨x,H1,I1,r1,q1⟩=>chain_link (thn (hb pins s1 σ H1 _ I1 q1) fun u s2 ⟨y,H2,I2,r2,q2⟩ =>
  thn (ho pins s2 σ H2 x y v u _ I2 r1 r2 q2) fun d s3 ⟨z,H3,I3,r3,k,e,q3⟩=>?_)) hm
 subst e
 cases r3
 refine wpAny_truthy_bool ?_
 cases k with
 | false=>exact ite_ff ⟨.bl false,H3,I3,rfl,q3⟩
 | true=>exact ite_tt (chain_last (thn (hc pins s3 σ H3 _ I3 q3) fun w' s4 ⟨z',H4,I4,r4,q4⟩=>ho' pins s4 σ H4 y z' u w' Q I4 r2 r4 q4))
theorem WK:(sizeLine:Nat)<2^63:=by rw [sizeLine_eq];decide
theorem Q1:OpR X (binaryOp .Add) (fun x y H Q=>∃ i j,x = .str i∧y = .str j∧i.length+j.length≤sizeLine∧Q (.str (i++j)) H):=by
 intro pins s σ H x y v u Q I rx ry h
 obtain ⟨i,j,rfl,rfl,hz,q⟩:=h
 obtain ⟨t,rfl⟩:=rx
 obtain ⟨t',rfl⟩:=ry
 exact add_str (fun t' tk=>⟨.str (i++j),H,I.tok _,⟨_,rfl⟩,q⟩) hz
theorem XA {x:V} {us:List Value} (r:Yn [x] us):∃ u,us=[u]∧Ys x u:=by
 cases r with
 | cons r1 r2=>cases r2;exact ⟨_,rfl,r1⟩
theorem Q2 {x y:V} {us:List Value} (r:Yn [x,y] us):∃ u w',us=[u,w']∧Ys x u∧Ys y w':=by
 cases r with
 | cons r1 r2 =>
  cases r2 with
  | cons r3 r4=>cases r4;exact ⟨_,_,rfl,r1,r3⟩
theorem Xv:Xn X (.type "int") (fun xs H Q=>(∃ i,xs=[.int i]∧Q (.int i) H)∨∃ k,xs=[.bl k]∧Q (.int (if k then 1 else 0)) H):=by
 intro pins s σ H xs us Q I r h
 rcases h with ⟨i,rfl,q⟩ | ⟨k,rfl,q⟩
 ·obtain ⟨u,rfl,t,rfl⟩:=XA r
  exact call_int_int ⟨.int i,H,I,⟨_,rfl⟩,q⟩
 ·obtain ⟨u,rfl,r1⟩:=XA r
  cases r1
  exact call_int_bool ⟨.int (if k then 1 else 0),H,I.tok _,⟨_,rfl⟩,q⟩
end
end L2
namespace L2
open PySem PySem.Spec PyProof.Rows
structure ObjM (h:Heap) (x dx C:Addr) (mA:Str→Option Value):Prop where
 obj:h.get? x=some (PySem.W.instObj C dx)
 ns:h.Ns1 dx mA
 ne:dx≠x
theorem YaA {h:Heap} {dx:Addr} {mA:Str→Option Value} (n:h.Ns1 dx mA):∃ od,h.get? dx=some od∧∀ name,PySem.W.lookIn name od=some (mA name):=by
 obtain ⟨o,es,ep,ho,hd,hk,_,hm⟩:=n
 refine ⟨o,ho,fun name=>?_⟩
 have e:=hm name
 unfold nsFind findBy at e
 rw [← Array.find?_toList] at e
 unfold PySem.W.lookIn
 rw [hd]
 dsimp only
 split
 ·rename_i y q
  rw [q] at e
  exact congrArg some e
 ·rename_i q
  rw [q] at e
  have a:es.toList.any (·.refKey)=false:=by
   rw [List.any_eq_false]
   intro y hy
   obtain ⟨z,t,hkey⟩:=hk y (Array.mem_toList_iff.mp hy)
   simp [DictEntry.refKey,hkey]
  have a':¬ es.toList.any (·.refKey)=true:=by rw [a];exact Bool.false_ne_true
  rw [if_neg a']
  exact congrArg some e
theorem ObjM.look {h:Heap} {x dx C:Addr} {mA:Str→Option Value} (I:ObjM h x dx C mA):∃ od,PySem.W.InstAt h x (PySem.W.instObj C dx) C (some od)∧∀ name,PySem.W.lookIn name od=some (mA name) :=
 let ⟨od,ho,hl⟩:=YaA I.ns
 ⟨od,⟨I.obj,rfl,rfl,ho⟩,hl⟩
section
variable {prog:Program} {w:World} {A:Around} {E:Value→Shared→Prop} {s:Shared} {K:PySem.W.Frag} {x dx C f:Addr} {mA:Str→Option Value} {name:Str} {v:Value}
end
def putF (f:Str) (v:V):List (Str×V)→List (Str×V)
 | []=>[(f,v)]
 | (g,x)::r=>if g=f then (g,v)::r else (g,x)::putF f v r
section
variable {P:Program} {w:World} {H H':Hp} {h h':Heap} {a C dx:Addr} {fs fs':List (Str×V)}
theorem Yb8 (hok:HOk P w H h) (e:H a=some (.ins C dx fs)):∃ mA,ObjM h a dx C mA∧(∀ f,Uw (fs.lookup f) (mA f))∧PySem.Within mA (fs.map (·.1))∧fs.length≤1000∧H dx=some (.own a):=by
 obtain ⟨d,z,ne,ob,mA,n,r,q⟩:=(show YN P w H h a (.ins C dx fs) from hok a _ e)
 exact ⟨mA,⟨ob,n,ne⟩,r,q,z,d⟩
end
structure Cls (K:PySem.W.Frag) (C:Addr):Prop where
 pg:PySem.W.plainGet K C Str.empty=true
 hd:PySem.W.hasDictIn K C=true
 po:PySem.W.plainOver K C=true
 sa:PySem.W.findIn K (.ref C) "__setattr__"=some (some (.builtin "object.__setattr__"))
theorem Cls.get {K:PySem.W.Frag} {C:Addr} (c:Cls K C) (f:Str):PySem.W.plainGet K C f=true:=c.pg
def YaB (K:PySem.W.Frag) (C:Addr) (f:Str):Prop:=PySem.W.findIn K (.ref C) f=some none
structure Meth (K:PySem.W.Frag) (C:Addr) (m:Str) (f:Addr):Prop where
 at_:PySem.W.findIn K (.ref C) m=some (some (.ref f))
 fn:PySem.W.isFn K (.ref f)=true
 kp:PySem.W.keepIn K (.ref f)=true
section
variable {X:Cx} {pins:List (Addr×Obj)} {σ:St} {H:Hp} {s:Shared} {a C dx:Addr} {fs:List (Str×V)} {f:Str} {v:V} {A:Around} {E:Value→Shared→Prop}
end
def tFld (K:PySem.W.Frag) (ta:TE) (f:Str):TE:=fun σ H Q=>ta σ H fun x H1=>∃ a C dx fs v,x = .ref a∧H1 a=some (.ins C dx fs)∧Cls K C∧YaB K C f∧fs.lookup f=some v∧Q v H1
def sFld (K:PySem.W.Frag) (ta tv:TE) (f:Str):TS:=fun D σ H=>tv σ H fun y H1=>ta σ H1 fun x H2=>∃ a C dx fs,x = .ref a∧H2 a=some (.ins C dx fs)∧Cls K C∧YaB K C f∧fs.length<1000 ∧
 D.nx σ (upd H2 a (.ins C dx (putF f y fs)))
section
variable {X:Cx} {o e value:Expr} {f:Str} {pos pos' tpos:Pos} {ta tv:TE}
end
section
variable {X:Cx} {pins:List (Addr×Obj)} {σ:St} {H:Hp} {s:Shared} {A:Around} {E:Value→Shared→Prop} {Q:Value→Shared→Prop} {c:Value} {b:Bool}
inductive TyOf (K:PySem.W.Frag) (H:Hp):V→Value→Prop where
 | non:TyOf K H .non (.type "NoneType")
 | bl (x:Bool):TyOf K H (.bl x) (.type "bool")
 | int (i:Int):TyOf K H (.int i) (.type "int")
 | str (x:Str):TyOf K H (.str x) (.type "str")
 | flt (x:UInt64):TyOf K H (.flt x) (.type "float")
 | lst {a:Addr} {xs:List V} (e:H a=some (.lst xs)):TyOf K H (.ref a) (.type "list")
 | frz {a:Addr} {o:Obj} {xs:List V} (e:H a=some (.frz o (.lst xs))):TyOf K H (.ref a) (.type "list")
 | tup {a:Addr} {xs:List V} (e:H a=some (.tup xs)):TyOf K H (.ref a) (.type "tuple")
 | dK {a:Addr} {kvs:List (Key×V)} (e:H a=some (.dK kvs)):TyOf K H (.ref a) (.type "dict")
 | dT {a:Addr} {kvs:List (List Key×V)} (e:H a=some (.dT kvs)):TyOf K H (.ref a) (.type "dict")
 | ins {a C dx:Addr} {fs:List (Str×V)} (e:H a=some (.ins C dx fs)) (cl:Cls K C) (ha:PySem.W.findIn K (.ref C) "__class__"=some (some (.builtin "object.__class__")))
   (hn:PySem.W.specialIn K (.builtin "object.__class__") "__get__"=some (some (.builtin "getset_descriptor.__get__"))) (htk:PySem.W.takesIn K (.builtin "object.__class__")=some true)
   (hm:PySem.W.mroIn K C (.type "object")=some true):TyOf K H (.ref a) (.ref C)
theorem YaC {x:V} {u t:Value} (I:Inv X pins σ H s) (rx:Ys x u) (ty:TyOf X.K H x t) (e:PySem.W.kitOne X.K t c=some b) (h:∀ tk,Q (.bool b) { s with toks:=tk }) :
  wpAny (model X.prog X.w) A (call (.builtin "isinstance") [u,c]) Q E s:=by
 cases ty with
 | non=>cases (show u=Value.none from rx);exact PySem.W.kia_one PySem.W.kitx_none I.kIn True.intro e (fun z=>nomatch z) h
 | bl y=>cases (show u=Value.bool y from rx);exact PySem.W.kia_one PySem.W.kitx_bool I.kIn True.intro e (fun z=>nomatch z) h
 | int i=>obtain ⟨t,q⟩:=(show ∃ t,u=Value.int i t from rx);cases q;exact PySem.W.kia_one PySem.W.kitx_int I.kIn True.intro e (fun z=>nomatch z) h
 | str y=>obtain ⟨t,q⟩:=(show ∃ t,u=Value.str y t from rx);cases q;exact PySem.W.kia_one PySem.W.kitx_str I.kIn True.intro e (fun z=>nomatch z) h
 | flt y=>obtain ⟨t,q⟩:=(show ∃ t,u=Value.float y t from rx);cases q;exact PySem.W.kia_one PySem.W.kitx_float I.kIn True.intro e (fun z=>nomatch z) h
 | @lst a xs ea =>
  cases (show u=Value.ref a from rx)
  obtain ⟨_,_,n,_,h1⟩:=(show YN X.prog X.w H s.heap a (.lst xs) from I.hok a _ ea)
  exact PySem.W.kia_one PySem.W.kitx_list I.kIn ⟨_,h1,rfl⟩ e (fun z=>nomatch z) h
 | @frz a ob xs ea =>
  cases (show u=Value.ref a from rx)
  obtain ⟨_,_,_,n,_,h1⟩:=(show YN X.prog X.w H s.heap a (.frz ob (.lst xs)) from I.hok a _ ea)
  exact PySem.W.kia_one PySem.W.kitx_list I.kIn ⟨_,h1,rfl⟩ e (fun z=>nomatch z) h
 | @tup a xs ea =>
  cases (show u=Value.ref a from rx)
  obtain ⟨_,_,_,p⟩:=(show YN X.prog X.w H s.heap a (.tup xs) from I.hok a _ ea)
  obtain ⟨o,h1,h2,_⟩:=p
  exact PySem.W.kia_one PySem.W.kitx_tuple I.kIn ⟨o,h1,h2⟩ e (fun z=>nomatch z) h
 | @dK a kvs ea =>
  cases (show u=Value.ref a from rx)
  obtain ⟨_,_,vs,_,p⟩:=(show YN X.prog X.w H s.heap a (.dK kvs) from I.hok a _ ea)
  obtain ⟨o,es,ep,h1,h2,_⟩:=p
  exact PySem.W.kia_one PySem.W.kitx_dict I.kIn ⟨o,h1,h2.1⟩ e (fun z=>nomatch z) h
 | @dT a kvs ea =>
  cases (show u=Value.ref a from rx)
  obtain ⟨_,_,xs,_,o,es,ep,h1,h2,_⟩:=(show YN X.prog X.w H s.heap a (.dT kvs) from I.hok a _ ea)
  exact PySem.W.kia_one PySem.W.kitx_dict I.kIn ⟨o,h1,h2.1⟩ e (fun z=>nomatch z) h
 | @ins a C dx fs ea cl ha hn htk hm =>
  cases (show u=Value.ref a from rx)
  obtain ⟨mA,O,_⟩:=Yb8 I.hok ea
  obtain ⟨od,J,_⟩:=O.look
  exact PySem.W.kia_one (PySem.W.kitx_own (cl.get _) cl.hd ha hn htk hm) I.kIn J e (fun z=>nomatch z) h
end
end L2
namespace L2
open PySem PySem.Spec PyProof.Rows
structure Room (k:Nat) (A:Around):Prop where
 hd:A.handled=none
 dp:A.depth+3*k+5<recursionLimit
 un:A.units+16*k+200<cLine
 gd:A.guards=some []
theorem Room.mono {j k:Nat} {A:Around} (r:Room k A) (h:j≤k):Room j A:=⟨r.hd,by have:=r.dp;omega,by have:=r.un;omega,r.gd⟩
theorem Room.deeper {k:Nat} {A:Around} (r:Room (k+1) A) (env:Env):Room k (A.deeper env) :=
 ⟨r.hd,by have:=r.dp;show A.depth+1+3*k+5<_;omega,by have:=r.un;show A.units+3+16*k+200<_;omega,r.gd⟩
theorem Room.in1 {k:Nat} {A:Around} (r:Room (k+1) A):Room k A.in1 :=
 ⟨r.hd,by have:=r.dp;show A.depth+3*k+5<_;omega,by have:=r.un;show A.units+1+16*k+200<_;omega,r.gd⟩
theorem Room.depth {k:Nat} {A:Around} (r:Room k A):A.depth<recursionLimit:=by have:=r.dp;omega
theorem Room.units {k:Nat} {A:Around} (r:Room k A):A.units+64<cLine:=by have:=r.un;omega
def tNil:TA:=fun _ H Q=>Q [] H
def YbQ (ta:TE) (tr:TA):TA:=fun σ H Q=>ta σ H fun x H1=>tr σ H1 fun xs H2=>Q (x::xs) H2
section
variable {X:Cx} {e:Expr} {es:List Expr} {te:TE} {t:TA} {pos:Pos}
theorem Yb:PA X [] tNil:=fun _ _ _ _ H Q I h=>Calls.spliced_nil ⟨[],H,I,.nil,h⟩
theorem Ya (ha:PE X e te) (hr:PA X es t) (hs:starEach (e::es) X.env=(false,eval e X.env)::starEach es X.env):PA X (e::es) (YbQ te t):=by
 intro pos pins s σ H Q I h
 rw [hs]
 show wpAny _ _ (spliced ((false,eval e X.env)::backTo pos (starEach es X.env))) _ _ s
 refine Calls.spliced_cons (thn (ha pins s σ H _ I h) fun u s1 ⟨x,H1,I1,r1,q1⟩=>?_)
 exact thn (hr pos pins s1 σ H1 _ I1 q1) fun us s2 ⟨xs,H2,I2,r2,q2⟩=>⟨x::xs,H2,I2,.cons r1 r2,q2⟩
def tTup (t:TA):TE:=fun σ H Q=>t σ H fun xs H1=>xs.length≤sizeLine∧∀ p,H1 p=none→Q (.ref p) (upd H1 p (.tup xs))
def tLst (t:TA):TE:=fun σ H Q=>t σ H fun xs H1=>xs.length≤sizeLine∧∀ p,H1 p=none→Q (.ref p) (upd H1 p (.lst xs))
theorem Y2 {x1} (h:PA X es t):PE X (.Tuple es x1 pos) (tTup t):=by
 intro pins s σ H Q I hq
 refine wpAny_Tuple_spliced (thn (h pos pins s σ H _ I hq) fun us s1 ⟨xs,H1,I1,r,z,q⟩=>⟨by rw [← r.length];exact z,?_⟩)
 have hf:H1 s1.heap.objs.size=none:=I1.hok.fresh (Nat.le_refl _)
 refine ⟨.ref s1.heap.objs.size,upd H1 s1.heap.objs.size (.tup xs),I1.laid (t':=s1.toks) (fun b u e=>Heap.get?_push_of_some _ e) (Nat.le_refl _) ?_,rfl,q _ hf⟩
 exact ⟨z,us,r,⟨_,Heap.get?_push_size _ rfl,rfl,_,rfl⟩⟩
theorem YF (h:PA X es t):PE X (.List es pos) (tLst t):=by
 intro pins s σ H Q I hq
 refine wpAny_List_spliced (thn (h pos pins s σ H _ I hq) fun us s1 ⟨xs,H1,I1,r,z,q⟩=>⟨by rw [← r.length];exact z,?_⟩)
 have hf:H1 s1.heap.objs.size=none:=I1.hok.fresh (Nat.le_refl _)
 refine ⟨.ref s1.heap.objs.size,upd H1 s1.heap.objs.size (.lst xs),I1.laid (t':=s1.toks) (fun b u e=>Heap.get?_push_of_some _ e) (Nat.le_refl _) ?_,rfl,q _ hf⟩
 exact ⟨z,us,0,r,Heap.get?_push_size _ rfl⟩
end
abbrev Sp:=List V→Hp→VK→XK→Prop
abbrev CXT:=List Env→Hp→Shared→XK→Value→Shared→Prop
structure Env0 (P:Program) (w:World) (K:PySem.W.Frag) (mg:Str→Option Value) (base:Heap) (A:Around) (outer:List Env) (s:Shared) (H:Hp):Prop where
 frames:A.frames=some outer
 mod:Mod K mg base
 bs:∀ b o,base.get? b=some o→s.heap.get? b=some o∧H b=none
 bsz:base.objs.size≤s.heap.objs.size
 funs:s.heap.FunFrames base outer
 frf:∀ b∈frs outer,H b=none
 hok:HOk P w H s.heap
 bare:AllBare s.gens
def CE (outer:List Env) (P:Program) (w:World) (H:Hp) (s:Shared) (Q:VK) (u:Value) (s':Shared):Prop :=
 ∃ v H',s'.os=s.os∧AllBare s'.gens∧Un (frs outer) [] H H' s.heap s'.heap∧HOk P w H' s'.heap∧Ys v u∧Q v H'
def CR (CX:CXT) (outer:List Env) (P:Program) (w:World) (H:Hp) (s:Shared) (Q:VK) (E:XK) (r:Result) (s':Shared):Prop :=
 match r with
 | .ok (.ret u)=>CE outer P w H s Q u s'
 | .ok _=>False
 | .error e=>CX outer H s E e s'
structure FnOk (P:Program) (w:World) (K:PySem.W.Frag) (mg:Str→Option Value) (base:Heap) (CX:CXT) (k:Nat) (f:Addr) (fd:FuncData) (ps:List Str) (sp:Sp):Prop where
 len:∀ vs H Q E,sp vs H Q E→vs.length=ps.length
 run:∀ (A:Around) (outer:List Env) (s:Shared) (H:Hp) (args:Args) (us:List Value) (vs:List V) (Q:VK) (E:XK),Room k A→Env0 P w K mg base A outer s H→BindsTo s fd args (ps.zip us)→Yn vs us→sp vs H Q E →
  codeAny (model P w) A (.call (.ref f) args) (CR CX outer P w H s Q E) s
theorem FnOk.mono {P:Program} {w:World} {K:PySem.W.Frag} {mg:Str→Option Value} {base:Heap} {CX:CXT} {j k:Nat} {f:Addr} {fd:FuncData} {ps:List Str} {sp:Sp} (F:FnOk P w K mg base CX j f fd ps sp) (h:j≤k) :
  FnOk P w K mg base CX k f fd ps sp:=⟨F.len,fun A outer s H args us vs Q E hr=>F.run A outer s H args us vs Q E (hr.mono h)⟩
theorem Env0.in1 {P:Program} {w:World} {K:PySem.W.Frag} {mg:Str→Option Value} {base:Heap} {A:Around} {outer:List Env} {s:Shared} {H:Hp} (e:Env0 P w K mg base A outer s H) :
  Env0 P w K mg base A.in1 outer s H:=⟨e.frames,e.mod,e.bs,e.bsz,e.funs,e.frf,e.hok,e.bare⟩
section
variable {X:Cx} {pins:List (Addr×Obj)} {σ:St} {H:Hp} {s s':Shared}
theorem Inv.env0 (I:Inv X pins σ H s):Env0 X.prog X.w X.K X.mg X.base X.A X.stack s H :=
 ⟨I.ok.frames,I.ok.mod,I.bs,Nat.le_trans I.ok.bsz I.sz,I.stack,I.stkFree,I.hok,I.bare⟩
theorem Inv.after {Q:VK} {u:Value} (I:Inv X pins σ H s) (h:CE X.stack X.prog X.w H s Q u s'):EP X pins σ Q u s':=by
 obtain ⟨v,H',os,bare,un,hok,r,q⟩:=h
 obtain ⟨hh,g,d,t,os'⟩:=s'
 obtain rfl:os'=s.os:=os
 exact ⟨v,H',I.call (h':=hh) (g':=g) (d':=d) (t':=t) (ch:=[]) un hok bare (fun b z=>absurd z (by simp)),r,q⟩
end
def Q3 (sp:Sp) (dvs:List V) (E:XK) (t:TA):TE:=fun σ H Q=>t σ H fun vs H1=>sp (vs++dvs) H1 Q E
def tMeth (C:Addr) (m:Str) (sp:Sp) (dvs:List V) (E:XK) (ta:TE) (t:TA):TE:=fun σ H Q=>ta σ H fun x H1=>∃ a dx fs,x = .ref a∧H1 a=some (.ins C dx fs)∧fs.lookup m=none ∧
 t σ H1 fun vs H2=>sp (x::(vs++dvs)) H2 Q E
def tMake (C:Addr) (sp:Sp) (dvs:List V) (E:XK) (t:TA):TE:=fun σ H Q=>t σ H fun vs H1=>∀ x dx,H1 x=none→H1 dx=none→dx≠x →
 sp (.ref x::(vs++dvs)) (upd (upd H1 dx (.own x)) x (.ins C dx [])) (fun v H2=>v = .non∧Q (.ref x) H2) E
def XN (K:PySem.W.Frag) (fd:FuncData) (ps:List Str) (ds:List Value):Prop :=
 ∀ (s:Shared) (us:List Value),K.In s.heap→(us++ds).length=ps.length→BindsTo s fd ⟨us,[]⟩ (ps.zip (us++ds))
theorem XN.all {K:PySem.W.Frag} {fd:FuncData} {ps:List Str} (h:∀ us:List Value,us.length=ps.length→bindArgs fd ⟨us,[]⟩=pure (ps.zip us)):XN K fd ps []:=fun s us _ hl=>by
 rw [List.append_nil] at hl ⊢
 exact .of_eq (h us hl)
def UB (CX:CXT) (X:Cx) (E:XK):Prop:=∀ (pins:List (Addr×Obj)) (σ:St) (H:Hp) (s:Shared) (e:Value) (s':Shared),Inv X pins σ H s→CX X.stack H s E e s'→X.xe e s'
section
variable {X:Cx} {CX:CXT} {k:Nat} {f C:Addr} {fd:FuncData} {ps:List Str} {sp:Sp} {dvs:List V} {ds:List Value} {E:XK} {x m:Str} {p pos apos:Pos} {e o:Expr} {es:List Expr} {ta:TE} {t:TA}
theorem YcJ {pins:List (Addr×Obj)} {σ:St} {H:Hp} {s:Shared} {Q:VK} {us:List Value} {vs:List V} (F:FnOk X.prog X.w X.K X.mg X.base CX k f fd ps sp) (hr:Room k X.A) (hb:XN X.K fd ps ds) (hd:Yn dvs ds) (hx:UB CX X E)
  (I:Inv X pins σ H s) (r:Yn vs us) (h:sp (vs++dvs) H Q E):wpAny (model X.prog X.w) X.A (call (.ref f) us) (EP X pins σ Q) X.xe s:=by
 have r2:Yn (vs++dvs) (us++ds):=r.append hd
 have hl:(us++ds).length=ps.length:=by rw [← r2.length];exact F.len _ _ _ _ h
 refine wpAny_call (codeAny_mono (F.run X.A X.stack s H ⟨us,[]⟩ (us++ds) (vs++dvs) Q E hr I.env0 (hb s us I.kIn hl) r2 h) fun r s' hq=>?_)
 cases r with
 | error e=>exact hx pins σ H s e s' I hq
 | ok fl =>
  cases fl with
  | ret u=>exact I.after hq
  | next=>exact False.elim hq
  | brk=>exact False.elim hq
  | cont=>exact False.elim hq
theorem Yb9 (F:FnOk X.prog X.w X.K X.mg X.base CX k f fd ps sp) (hr:Room k X.A) (hg:Gl X x) (hm:X.mg x=some (.ref f)) (hk:PySem.W.keepIn X.K (.ref f)=true) (hb:XN X.K fd ps ds) (hd:Yn dvs ds) (hx:UB CX X E)
  (ha:PA X (e::es) t) (hdb:(x==("__debug__":Str))=false:=by decide) (he:starEach (e::es) X.env=(false,eval e X.env)::starEach es X.env:=by rfl) (hpl:(backTo pos (starEach es X.env)).any (·.1)=false:=by rfl) :
  PE X (.Call (.Name x p) (e::es) [] pos) (Q3 sp dvs E t):=by
 intro pins s σ H Q I h
 refine wpAny_Call_Name_kw (Qv I hg hm ?_ hdb)
 refine PySem.W.callWith_K (h₀:=X.base) I.ok.mod.kin hk (thn (ha pos pins s σ H _ I h) fun us s1 ⟨vs,H1,I1,r,q⟩=>⟨I1.kIn,?_⟩) he hpl
 exact YcJ F hr hb hd hx I1 r q
end
section
variable {X:Cx} {CX:CXT} {k:Nat} {f C:Addr} {fd:FuncData} {ps ks:List Str} {sp:Sp} {E:XK} {x m:Str} {p pos apos kpos:Pos} {e o:Expr} {es:List Expr} {kws:List Keyword} {te ta:TE} {t tk:TA} {nm:Option Str}
variable {g:List Value→List Value→List Value} {gV:List V→List V→List V}
end
structure FnScope (N P:List Str) (sc:Scope):Prop where
 kind:sc.kind = .function
 co:sc.isCoroutine=false
 gen:sc.isGenerator=false
 nd:N.Nodup
 pre:N.take P.length=P
 par:∀ x∈P,sc.names.lookup x=some .local∨sc.names.lookup x=some .cell
 nofree:∀ y∈sc.names,y.2 ≠ .free
theorem VN {kindOf:Str→Option NameKind} {x:Str}:∀ {binds:List (Str×Value)} {m:Str→Option Value},(∀ v,(x,v)∉binds)→bindL kindOf binds m x=m x
 | [],_,_=>rfl
 | (n,v)::r,m,h=>by
  unfold bindL
  rw [VN fun w hw=>h w (List.mem_cons_of_mem _ hw)]
  split
  ·have:x≠n:=by rintro rfl;exact h v List.mem_cons_self
   simp [this]
  ·rfl
theorem VO {kindOf:Str→Option NameKind} {x:Str}:∀ {binds:List (Str×Value)} {m:Str→Option Value},(∀ v,(x,v)∉binds)→bindC kindOf binds m x=m x
 | [],_,_=>rfl
 | (n,v)::r,m,h=>by
  unfold bindC
  rw [VO fun w hw=>h w (List.mem_cons_of_mem _ hw)]
  split
  ·rfl
  ·have:x≠n:=by rintro rfl;exact h v List.mem_cons_self
   simp [this]
theorem VP {kindOf:Str→Option NameKind} {x:Str} {v:Value}:∀ {P:List Str} {vs:List Value} {i:Nat} {m:Str→Option Value},P.Nodup→P[i]?=some x→vs[i]?=some v→kindOf x=some .local →
  bindL kindOf (P.zip vs) m x=some v
 | [],_,_,_,_,h,_,_=>by simp at h
 | _::_,[],_,_,_,_,h,_=>by simp at h
 | p::P,w::vs,0,m,nd,h1,h2,hk=>by
  simp at h1 h2;subst h1;subst h2
  show bindL kindOf ((p,w)::P.zip vs) m p=_
  unfold bindL
  rw [VN fun v hv=>(List.nodup_cons.mp nd).1 (List.of_mem_zip hv).1,if_pos hk]
  simp
 | p::P,w::vs,i+1,m,nd,h1,h2,hk=>by
  show bindL kindOf ((p,w)::P.zip vs) m x=_
  unfold bindL
  exact VP (i:=i) (List.nodup_cons.mp nd).2 (by simpa using h1) (by simpa using h2) hk
theorem VQ {kindOf:Str→Option NameKind} {x:Str} {v:Value}:∀ {P:List Str} {vs:List Value} {i:Nat} {m:Str→Option Value},P.Nodup→P[i]?=some x→vs[i]?=some v→kindOf x≠some .local →
  bindC kindOf (P.zip vs) m x=some v
 | [],_,_,_,_,h,_,_=>by simp at h
 | _::_,[],_,_,_,_,h,_=>by simp at h
 | p::P,w::vs,0,m,nd,h1,h2,hk=>by
  simp at h1 h2;subst h1;subst h2
  show bindC kindOf ((p,w)::P.zip vs) m p=_
  unfold bindC
  rw [VO fun v hv=>(List.nodup_cons.mp nd).1 (List.of_mem_zip hv).1,if_neg hk]
  simp
 | p::P,w::vs,i+1,m,nd,h1,h2,hk=>by
  show bindC kindOf ((p,w)::P.zip vs) m x=_
  unfold bindC
  exact VQ (i:=i) (List.nodup_cons.mp nd).2 (by simpa using h1) (by simpa using h2) hk
def XO (N:List Str) (vs:List V):St:=vs.map some++List.replicate (N.length - vs.length) none
def WL (CX:CXT) (P:Program) (w:World) (K:PySem.W.Frag) (mg:Str→Option Value) (base:Heap) (N:List Str) (qual:Str) (scope:Scope) (f:Addr) (cd:Value) (A:Around) (outer:List Env) (s:Shared) (H:Hp) (E:XK):Cx where
 prog:=P
 w:=w
 K:=K
 mg:=mg
 base:=base
 A:=A.deeper (envOfC qual scope s.heap.objs.size f cd)
 N:=N
 s₀:=s
 H₀:=H
 env:=envOfC qual scope s.heap.objs.size f cd
 outer:=outer
 stack:=envOfC qual scope s.heap.objs.size f cd::outer
 ex:=[]
 calm:=true
 fn:=fun _=>true
 pn:=[]
 xe:=fun e s'=>wpAny (model P w) (A.deeper (envOfC qual scope s.heap.objs.size f cd)) (leaving (envOfC qual scope s.heap.objs.size f cd) e) (fun _ s''=>CX outer H s E e s'') (fun e' s''=>CX outer H s E e' s'') s'
theorem UC {sc:Scope} {n:Nat} {x:Str} (h:sc.names.lookup x=some .cell):∃ c,(cellsFrom n sc.names []).lookup x=some c:=by
 have q:=PySem.W.cellsFrom_some sc.names n [] (.inl h)
 exact Option.isSome_iff_exists.mp q
theorem YaD {CX:CXT} {P:Program} {w:World} {K:PySem.W.Frag} {mg:Str→Option Value} {base:Heap} {N ps:List Str} {qual:Str} {scope:Scope} {f:Addr} {cd:Value} {A:Around} {outer:List Env} {s s1:Shared} {H:Hp} {E:XK} {us:List Value} {vs:List V}
  (S:FnScope N ps scope) (hd:A.handled=none) (e0:Env0 P w K mg base A outer s H) (hl:vs.length=ps.length) (r:Yn vs us)
  (x:InCallC s s.heap.objs.size (bindL (envOfC qual scope s.heap.objs.size f cd).kindOf (ps.zip us) fun _=>none) (cellsFrom (s.heap.objs.size+1) scope.names []) (bindC (envOfC qual scope s.heap.objs.size f cd).kindOf (ps.zip us) fun _=>none) s1) :
  Inv (WL CX P w K mg base N qual scope f cd A outer s H E) [] (XO N vs) H s1:=by
 have hpl:ps.length≤N.length:=by have:=congrArg List.length S.pre;rw [List.length_take] at this;omega
 obtain ⟨h1,tk,rfl,hk⟩:=x.done
 have noA:∀ b:Addr,b∉(WL CX P w K mg base N qual scope f cd A outer s H E).ex:=fun b z=>absurd (show b∈([]:List Addr) from z) (by simp)
 refine ⟨⟨e0.mod,S.kind,rfl,rfl,Nat.le_refl _,fun y z c h1 h2=>?_,fun y hy=>?_,fun y c _ h=>?_,fun _=>hd,Around.frames_deeper e0.frames,.inr ⟨rfl,rfl⟩,fun b z=>absurd z (noA b),e0.bs,e0.bsz,fun b _ _=>noA b,fun b z=>absurd z (noA b),e0.funs,e0.frf⟩,
  rfl,e0.bare,Un.kept hk,⟨_,x.toInCall.ns,fun i y v h1 h2 h3=>?_⟩,fun y c h=>⟨_,x.cell y c h⟩,e0.hok.fresh (Nat.le_refl _),fun y c h=>?_,fun p hp=>absurd (show p∈([]:List (Addr×Obj)) from hp) (by simp),e0.hok.kept hk,?_⟩
 ·exact name_of_addr x.apart (PySem.mem_of_lookup h1) (PySem.mem_of_lookup h2)
 ·have hy:scope.names.lookup y=some .cell∨scope.names.lookup y=some .free:=hy
  rcases hy with hy | hy
  ·exact UC hy
  ·exact absurd rfl (S.nofree _ (PySem.mem_of_lookup hy))
 ·exact Nat.le_of_lt (x.above y c (PySem.mem_of_lookup h))
 ·have hi:i<vs.length:=by
   unfold XO at h2
   by_cases hi:i<vs.length
   ·exact hi
   ·rw [List.getElem?_append_right (by simpa using hi)] at h2
    rw [List.getElem?_replicate] at h2
    split at h2<;>cases h2
  have ha:vs[i]?=some v:=by
   unfold XO at h2
   rw [List.getElem?_append_left (by simpa using hi),List.getElem?_map] at h2
   cases e:vs[i]? with
   | none=>rw [e] at h2;cases h2
   | some a=>rw [e] at h2;cases h2;rfl
  obtain ⟨u,hu,rv⟩:=r.get ha
  have hp:ps[i]?=some y:=by
   rw [← S.pre,List.getElem?_take_of_lt (by omega)];exact h1
  have ndP:ps.Nodup:=by rw [← S.pre];exact S.nd.sublist (List.take_sublist _ _)
  refine ⟨u,rv,?_⟩
  rcases S.par y (List.mem_of_getElem? hp) with k | k
  ·exact .inl ⟨k,VP ndP hp hu k⟩
  ·obtain ⟨c,e⟩:=UC (n:=s.heap.objs.size+1) k
   refine .inr ⟨.inl k,c,e,?_⟩
   have q:=x.cell y c e
   rw [VQ ndP hp hu (by show scope.names.lookup y≠_;rw [k];decide)] at q
   exact q
 ·exact e0.hok.fresh (Nat.le_of_lt (x.above y c (PySem.mem_of_lookup h)))
 ·unfold XO
  show _=N.length
  rw [List.length_append,List.length_map,List.length_replicate]
  omega
theorem fn_of {CX:CXT} {P:Program} {w:World} {K:PySem.W.Frag} {mg:Str→Option Value} {base:Heap} {k:Nat} {f:Addr} {name qual:Str} {params:Arguments} {body:List Stmt} {scope:Scope} {dV kV doc pm cdv ct oc:Value} {an od:Option Addr}
  {osl:Array (Option Value)} {N ps:List Str} {sp:Sp} (lk:K.lookup f=some ⟨oc,od,.func (PySem.W.fnOf name qual params body scope dV kV doc pm an cdv ct),osl⟩) (hcd:PySem.W.codeIn K cdv qual=true) (S:FnScope N ps scope)
  (len:∀ vs H Q E,sp vs H Q E→vs.length=ps.length)
  (hbody:∀ (A:Around) (outer:List Env) (s:Shared) (H:Hp) (vs:List V) (Q:VK) (E:XK),Room k (A.deeper (envOfC qual scope s.heap.objs.size f cdv))→sp vs H Q E →
   ∃ t,PSs (WL CX P w K mg base N qual scope f cdv A outer s H E) body t∧t { nx:=fun _ H'=>Q .non H',rt:=Q } (XO N vs) H) :
  FnOk P w K mg base CX (k+1) f (PySem.W.fnOf name qual params body scope dV kV doc pm an cdv ct) ps sp:=by
 refine ⟨len,fun A outer s H args us vs Q E hr e0 hb r hsp=>?_⟩
 have hl:=len _ _ _ _ hsp
 have KX:K.In s.heap:=e0.mod.kin.keeps fun b o e=>(e0.bs b o e).1
 have lim:s.heap.NoLimit:=e0.mod.nolimit.keeps fun b o e=>(e0.bs b o e).1
 have hkind:∀ y∈ps.zip us,scope.names.lookup y.1=some .local∨(scope.names.lookup y.1=some .cell∧((cellsFrom (s.heap.objs.size+1) scope.names []).lookup y.1).isSome=true):=fun ⟨n,v⟩ hy=>by
  rcases S.par n (List.of_mem_zip hy).1 with q | q
  ·exact .inl q
  ·exact .inr ⟨q,PySem.W.cellsFrom_some _ _ _ (.inl q)⟩
 refine codeAny_call_function hr.depth (KX _ _ lk) rfl S.co S.gen rfl (PySem.W.codeRec_of KX hcd) (hb _ _ _ _ ?_)
 refine wpAny_newFunctionEnv_cells S.kind hkind fun env he s1 x=>?_
 subst he
 refine ⟨lim.keeps x.toInCall.keep,codeAny_func ?_⟩
 obtain ⟨t,ht,hq⟩:=hbody A outer s H vs Q E (hr.deeper _) hsp
 have I:Inv (WL CX P w K mg base N qual scope f cdv A outer s H E) [] (XO N vs) H s1:=YaD S hr.hd e0 hl r x
 refine wpAny_mono (ht [] s1 (XO N vs) H _ I hq) (fun fl s' hs=>?_) fun e s' hs=>hs
 have fin:∀ {σ':St} {H':Hp} {v:V} {u:Value},Inv (WL CX P w K mg base N qual scope f cdv A outer s H E) [] σ' H' s'→Ys v u→Q v H'→CE outer P w H s Q u s' :=
  fun {σ' H' v u} J rv q=>⟨v,H',J.os,J.bare,J.base,J.hok,rv,q⟩
 cases fl with
 | ret u =>
  obtain ⟨v,σ',H',J,rv,q⟩:=hs
  exact fin J rv q
 | next =>
  obtain ⟨σ',H',J,q⟩:=hs
  exact fin (v:=V.non) (u:=Value.none) J rfl q
 | brk =>
  obtain ⟨_,_,_,q⟩:=hs
  exact False.elim q
 | cont =>
  obtain ⟨_,_,_,q⟩:=hs
  exact False.elim q
end L2
namespace L2
open PySem PySem.Spec PyProof.Rows
section
variable {X:Cx} {x:Str} {p pos:Pos} {e:Expr} {es:List Expr} {t:TA} {id T:String} {r:List V→Hp→VK→Prop}
def tCB (r:List V→Hp→VK→Prop) (t:TA):TE:=fun σ H Q=>t σ H fun vs H1=>r vs H1 Q
theorem Ybi (hc:Xn X (.builtin id) r) (hg:Gl X x) (hm:X.mg x=none) (hv:bootBuiltins x=some (.builtin id)) (ha:PA X (e::es) t) (hn:x≠"__name__":=by decide) (hdb:(x==("__debug__":Str))=false:=by decide)
  (he:starEach (e::es) X.env=(false,eval e X.env)::starEach es X.env:=by rfl) (hpl:(backTo pos (starEach es X.env)).any (·.1)=false:=by rfl):PE X (.Call (.Name x p) (e::es) [] pos) (tCB r t):=by
 intro pins s σ H Q I h
 refine wpAny_Call_Name_kw (XT I hg hm hv ?_ hn hdb)
 exact PyProof.Rows.callWith_builtin1 (thn (ha pos pins s σ H _ I h) fun us s1 ⟨vs,H1,I1,r1,q1⟩=>hc pins s1 σ H1 vs us Q I1 r1 q1) he hpl
theorem YaE (hc:Xn X (.type T) r) (hg:Gl X x) (hm:X.mg x=none) (hv:bootBuiltins x=some (.type T)) (ha:PA X (e::es) t) (hn:x≠"__name__":=by decide) (hdb:(x==("__debug__":Str))=false:=by decide)
  (he:starEach (e::es) X.env=(false,eval e X.env)::starEach es X.env:=by rfl) (hpl:(backTo pos (starEach es X.env)).any (·.1)=false:=by rfl):PE X (.Call (.Name x p) (e::es) [] pos) (tCB r t):=by
 intro pins s σ H Q I h
 refine wpAny_Call_Name_kw (XT I hg hm hv ?_ hn hdb)
 exact PyProof.Rows.callWith_type1 (thn (ha pos pins s σ H _ I h) fun us s1 ⟨vs,H1,I1,r1,q1⟩=>hc pins s1 σ H1 vs us Q I1 r1 q1) he hpl
end
end L2
namespace HT
open PySem PyProof.Rows
theorem rcLt_int (A:Around) (s:Shared) (a:Int) (t:Tok) (c:Int) (u:Tok) (prog:Program) (w:World) (E:Value→Shared→Prop) (Q:Value→Shared→Prop) (h:Q (.bool (decide (a<c))) s) :
  wpAny (model prog w) A (richCompare .Lt (.int a t) (.int c u)) Q E s :=
 (PyProof.Rows.lt_int h:wpAny (model prog w) A (compareOp .Lt (.int a t) (.int c u)) Q E s)
section
open PySem.SeqAt
open PySem.AutoSeq1 (wpAny_loadPart')
open PySem.MeetsSeq PySem.MeetsSeq2 PySem.MeetsSeq3
end
section
variable {prog:Program} {w:World} {A:Around} {E:Value→Shared→Prop} {s:Shared}
def sIx (n d:Nat):Option Int→Nat
 | none=>d
 | some v=>if v<0 then (v+(n:Int)).toNat else min v.toNat n
theorem sIx_none (n d:Nat):sIx n d none=d:=rfl
theorem sIx_nat (n d k:Nat):sIx n d (some (k:Int))=min k n:=by
 show (if (k:Int)<0 then ((k:Int)+(n:Int)).toNat else min (k:Int).toNat n)=min k n
 rw [if_neg (by omega),Int.toNat_natCast]
end
end HT
namespace L2
open PySem PySem.Spec PyProof.Rows
abbrev TO:=St→Hp→(Option Int→Hp→Prop)→Prop
def PO (X:Cx) (e:Option Expr) (t:TO):Prop :=
 ∀ (pins:List (Addr×Obj)) (s:Shared) (σ:St) (H:Hp) (Q:Option Int→Hp→Prop),Inv X pins σ H s→t σ H Q →
  wpAny (model X.prog X.w) X.A (evalPart e X.env) (fun u s'=>∃ o H',Inv X pins σ H' s'∧IsPart u o∧Q o H') X.xe s
def QA:TO:=fun _ H Q=>Q none H
def YbR (t:TE):TO:=fun σ H Q=>t σ H fun x H1=>∃ i,x = .int i∧Q (some i) H1
theorem Q4 {ns:List Int}:∀ {us:List Value},Yn (ns.map V.int) us→IntsAre us ns:=by
 induction ns with
 | nil=>intro us r;rw [List.map_nil] at r;cases r;exact .nil
 | cons n ns ih =>
  intro us r
  rw [List.map_cons] at r
  cases r with
  | cons r1 r2 =>
   obtain ⟨t,e⟩:=r1
   subst e
   exact .cons n t (ih r2)
section
variable {X:Cx} {e:Expr} {te:TE} {lo hi:Option Expr} {tl th:TO} {pos p2:Pos}
theorem VA:PO X none QA:=by
 intro pins s σ H Q I h
 rw [evalPart_none]
 exact wpAny_pure ⟨none,H,I,.none,h⟩
theorem Wp (h:PE X e te):PO X (some e) (YbR te):=by
 intro pins s σ H Q I hw
 rw [evalPart_some]
 refine thn (h pins s σ H _ I hw) fun u s1 ⟨x,H1,I1,r1,q1⟩=>?_
 obtain ⟨i,rfl,q⟩:=q1
 obtain ⟨t,rfl⟩:=r1
 exact ⟨some i,H1,I1,.int i t,q⟩
def SlR (X:Cx) (r:V→Option Int→Option Int→Hp→VK→Prop):Prop :=
 ∀ (pins:List (Addr×Obj)) (s:Shared) (σ:St) (H:Hp) (x:V) (v vl vu:Value) (lo hi:Option Int) (sl:Addr) (Q:VK),Inv X pins σ H s→Ys x v→s.heap.IsSliceOf sl vl vu .none→IsPart vl lo→IsPart vu hi→r x lo hi H Q →
  ∃ T id,typeLookup (.type T) "__getitem__"=pure (some (.builtin id))∧s.TypeIs v T∧wpAny (model X.prog X.w) X.A (getItem v (.ref sl)) (EP X pins σ Q) X.xe s
def tSl (r:V→Option Int→Option Int→Hp→VK→Prop) (te:TE) (tl th:TO):TE:=fun σ H Q=>te σ H fun x H1=>tl σ H1 fun l H2=>th σ H2 fun u H3=>r x l u H3 Q
theorem Wz {r:V→Option Int→Option Int→Hp→VK→Prop} (hr:SlR X r) (he:PE X e te) (hl:PO X lo tl) (hu:PO X hi th):PE X (.Subscript e (.Slice lo hi none p2) pos) (tSl r te tl th):=by
 intro pins s σ H Q I h
 refine Subscript_ (thn (he pins s σ H _ I h) fun v s1 ⟨x,H1,I1,r1,q1⟩=>?_)
 refine wpAny_Slice (thn (hl pins s1 σ H1 _ I1 q1) fun vl s2 ⟨l,H2,I2,pl,q2⟩=>thn (hu pins s2 σ H2 _ I2 q2) fun vu s3 ⟨u,H3,I3,pu,q3⟩=>?_)
 rw [evalPart_none]
 refine wpAny_pure ?_
 have I4:Inv X pins σ H3 { s3 with heap:=s3.heap.push { cls := .type "slice",data := .fields #[vl,vu,.none] } }:=I3.kept (t':=s3.toks) fun b ob q=>Heap.get?_push_of_some _ q
 obtain ⟨T,id,hT,ht,hg⟩:=hr pins { s3 with heap:=s3.heap.push { cls := .type "slice",data := .fields #[vl,vu,.none] } } σ H3 x v vl vu l u s3.heap.objs.size Q I4 r1 (Heap.IsSliceOf.new ..) pl pu q3
 show wpAny (model X.prog X.w) X.A (subscriptTail e (.Slice lo hi none p2) v (.ref s3.heap.objs.size)) (EP X pins σ Q) X.xe { s3 with heap:=s3.heap.push { cls := .type "slice",data := .fields #[vl,vu,.none] } }
 exact tail_any (ops:=[.ref s3.heap.objs.size,v]) ht hT hg (by with_unfolding_all rfl)
def Y6 (xs:List V) (lo hi:Option Int):List V:=(xs.drop (HT.sIx xs.length 0 lo)).take (HT.sIx xs.length xs.length hi - HT.sIx xs.length 0 lo)
theorem Qe (xs:List V) (lo hi:Option Int):(Y6 xs lo hi).length≤xs.length:=by
 unfold Y6
 rw [List.length_take,List.length_drop]
 omega
end
end L2
namespace L2
open PySem PySem.Spec PyProof.Rows
def ixN (n:Nat) (i:Int):Option Nat:=if 0≤i then (if i<n then some i.toNat else none) else if -(n:Int)≤i then some (i+n).toNat else none
def atI {α:Type} (xs:List α) (i:Int):Option α:=(ixN xs.length i).bind fun j=>xs[j]?
theorem Yca {n:Nat} {i:Int} {j:Nat} (h:ixN n i=some j):seqIndex? i n=some j∧j<n ∧ -(n:Int)≤i∧i<n:=by
 unfold ixN at h
 by_cases h0:0≤i
 ·rw [if_pos h0] at h
  by_cases h1:i<n
  ·rw [if_pos h1] at h
   have e:i.toNat=j:=Option.some.inj h
   exact ⟨by rw [seqIndex_of h0 h1,e],by omega,by omega,h1⟩
  ·rw [if_neg h1] at h;cases h
 ·rw [if_neg h0] at h
  by_cases h1 : -(n:Int)≤i
  ·rw [if_pos h1] at h
   have e:(i+n).toNat=j:=Option.some.inj h
   exact ⟨by rw [seqIndex_neg (by omega) h1,e],by omega,h1,by omega⟩
  ·rw [if_neg h1] at h;cases h
theorem VB {α:Type} {xs:List α} {i:Int} {v:α} (h:atI xs i=some v):∃ j,seqIndex? i xs.length=some j∧xs[j]?=some v∧j<xs.length ∧ -(xs.length:Int)≤i∧i<xs.length:=by
 unfold atI at h
 cases e:ixN xs.length i with
 | none=>rw [e] at h;cases h
 | some j =>
  rw [e] at h
  obtain ⟨h1,h2,h3,h4⟩:=Yca e
  exact ⟨j,h1,h,h2,h3,h4⟩
theorem X5 {α:Type} {xs:List α} {j:Nat} {v:α} (h:xs[j]?=some v):atI xs (j:Int)=some v:=by
 have hj:j<xs.length:=(List.getElem?_eq_some_iff.mp h).1
 have e:ixN xs.length (j:Int)=some j:=by
  unfold ixN
  rw [if_pos (by omega),if_pos (by omega)];simp
 unfold atI;rw [e];exact h
def Ycb (b:Expr):Prop:=∀ o i,subscripted b false o i=operate [o,i] (getItem o i)
def IxR (X:Cx) (r:R2):Prop :=
 ∀ (value slice:Expr) (pins:List (Addr×Obj)) (s:Shared) (σ:St) (H:Hp) (x y:V) (v u:Value) (Q:VK),Inv X pins σ H s→Ys x v→Ys y u→r x y H Q →
  subscripted slice false v u=operate [v,u] (getItem v u)→wpAny (model X.prog X.w) X.A (subscriptTail value slice v u) (EP X pins σ Q) X.xe s
def MtR (X:Cx) (id:String) (r:V→List V→Hp→VK→Prop):Prop :=
 ∀ (pins:List (Addr×Obj)) (s:Shared) (σ:St) (H:Hp) (x:V) (xs:List V) (v:Value) (us:List Value) (Q:VK),Inv X pins σ H s→Ys x v→Yn xs us→r x xs H Q →
  wpAny (model X.prog X.w) X.A (call (.builtin id) (v::us)) (EP X pins σ Q) X.xe s
section
variable {X:Cx} {a b:Expr} {ta tb:TE} {pos:Pos}
theorem Yk {r:R2} (hr:IxR X r) (ha:PE X a ta) (hb:PE X b tb) (hs:Ycb b):PE X (.Subscript a b pos) (tOp r ta tb):=by
 intro pins s σ H Q I h
 exact Subscript_ (binT ha hb I h fun v u s2 x y H2 I2 rx ry q=>hr a b pins s2 σ H2 x y v u Q I2 rx ry q (hs _ _))
def rIxL (K:PySem.W.Frag):R2:=fun x y H Q=>∃ p xs i v,x = .ref p∧y = .int i∧SqL K H p xs∧atI xs i=some v∧Q v H
def rIxT (K:PySem.W.Frag):R2:=fun x y H Q=>∃ p xs i v,x = .ref p∧y = .int i∧SqT K H p xs∧atI xs i=some v∧Q v H
def rIxS:R2:=fun x y H Q=>∃ z i c,x = .str z∧y = .int i∧z.length≤sizeLine∧atI z.cps.toList i=some c∧Q (.str ⟨#[c]⟩) H
theorem YO:IxR X (rIxL X.K):=by
 intro value slice pins s σ H x y v u Q I rx ry h hs
 obtain ⟨p,xs,i,z,rfl,rfl,hq,he,q⟩:=h
 cases rx
 obtain ⟨t,rfl⟩:=ry
 obtain ⟨its,r,pl,hz⟩:=I.list hq
 obtain ⟨j,h1,h2,h3,h4,h5⟩:=VB he
 obtain ⟨w,ew,rw'⟩:=r.get h2
 have hl:=r.length
 have hn:=WK
 have fin:EP X pins σ Q w s:=⟨z,H,I,rw',q⟩
 by_cases h0:0≤i
 ·have hj:i.toNat=j:=by
   rw [seqIndex_of h0 h5] at h1
   exact Option.some.inj h1
  exact item_listR pl.isList h0 (by omega) (by rw [hj];simpa using ew) fin hs
 ·have hj:(i+(its.toArray.size:Int)).toNat=j:=by
   rw [seqIndex_neg (by omega) h4] at h1
   rw [List.size_toArray,← hl]
   exact Option.some.inj h1
  exact subscriptTail_builtinR (x:=w) pl.isList.typeIs slot_list_getitem.lookup
   (wpAny_getItem_list_neg (Q:=fun r s'=>r=w∧EP X pins σ Q r s') pl.isList (by omega) (by rw [List.size_toArray]<;>omega) (by omega) (by rw [hj];simpa using ew) ⟨rfl,fin⟩) hs
theorem Yr:IxR X (rIxT X.K):=by
 intro value slice pins s σ H x y v u Q I rx ry h hs
 obtain ⟨p,xs,i,z,rfl,rfl,hq,he,q⟩:=h
 cases rx
 obtain ⟨t,rfl⟩:=ry
 obtain ⟨its,r,pl,hz⟩:=I.tuple hq
 obtain ⟨j,h1,h2,h3,h4,h5⟩:=VB he
 obtain ⟨w,ew,rw'⟩:=r.get h2
 have hl:=r.length
 have hn:=WK
 have fin:EP X pins σ Q w s:=⟨z,H,I,rw',q⟩
 exact subscriptTail_builtinR (x:=w) pl.typeIs slot_tuple_getitem.lookup
  (getItem_tuple (j:=j) (Q:=fun r s'=>r=w∧EP X pins σ Q r s') pl (by omega) (by omega) (by rw [List.size_toArray,← hl];exact h1) (by simpa using ew) ⟨rfl,fin⟩) hs
theorem YcK:IxR X rIxS:=by
 intro value slice pins s σ H x y v u Q I rx ry h hs
 obtain ⟨z,i,c,rfl,rfl,hz,he,q⟩:=h
 obtain ⟨t,rfl⟩:=rx
 obtain ⟨t',rfl⟩:=ry
 obtain ⟨j,h1,h2,h3,h4,h5⟩:=VB he
 have hl:z.cps.toList.length=z.length:=by simp [Str.length]
 rw [hl] at h1 h4 h5
 have hn:=WK
 exact tail_any (typeIs_str s z t) slot_str_getitem.lookup (getItem_str (c:=c) (by
  have e1:decide (i < -(2^63:Int))=false:=decide_eq_false (by omega)
  have e2:decide (i≥2^63)=false:=decide_eq_false (by omega)
  rw [e1,e2,Bool.or_false]) (by rw [h1];simpa using h2) ⟨.str ⟨#[c]⟩,H,I.tok _,⟨_,rfl⟩,q⟩) hs
theorem Inv.lst {pins:List (Addr×Obj)} {σ:St} {H:Hp} {s:Shared} {p:Addr} {xs:List V} (I:Inv X pins σ H s) (h:H p=some (.lst xs)) :
  ∃ (its:List Value) (n:Nat),Yn xs its∧s.heap.get? p=some { cls := .type "list",data := .seq its.toArray n }∧xs.length≤sizeLine:=by
 obtain ⟨z,its,n,r,e⟩:=I.hok p _ h
 exact ⟨its,n,r,e,z⟩
def rSetL:V→V→V→Hp→(Hp→Prop)→Prop:=fun o i v H Q=>∃ p xs k j,o = .ref p∧i = .int k∧H p=some (.lst xs)∧ixN xs.length k=some j∧Q (upd H p (.lst (xs.set j v)))
theorem UD (lo hi:Option Int) (n:Nat):(sliceBounds lo hi none n).1=((HT.sIx n 0 lo:Nat):Int)∧(sliceBounds lo hi none n).2.1=((HT.sIx n n hi:Nat):Int)∧(sliceBounds lo hi none n).2.2=1:=by
 refine ⟨?_,?_,rfl⟩
 ·cases lo with
  | none=>simp [sliceBounds,HT.sIx]
  | some i =>
   simp only [sliceBounds,HT.sIx,Option.getD_none,show (1:Int)>0 by decide,if_true]
   by_cases h:i<0
   ·simp only [h,if_true]<;>omega
   ·simp only [h,if_false]<;>omega
 ·cases hi with
  | none=>simp [sliceBounds,HT.sIx]
  | some i =>
   simp only [sliceBounds,HT.sIx,Option.getD_none,show (1:Int)>0 by decide,if_true]
   by_cases h:i<0
   ·simp only [h,if_true]<;>omega
   ·simp only [h,if_false]<;>omega
theorem Uf (its:List Value) (lo hi:Option Int):slicePick its.toArray lo hi none=((its.drop (HT.sIx its.length 0 lo)).take (HT.sIx its.length its.length hi - HT.sIx its.length 0 lo)).toArray:=by
 obtain ⟨h1,h2,h3⟩:=UD lo hi its.toArray.size
 unfold slicePick
 rw [h1,h2,h3]
 simp only [sliceRange_one,pick_run,List.size_toArray]<;>rfl
def rSlL (K:PySem.W.Frag):V→Option Int→Option Int→Hp→VK→Prop:=fun x lo hi H Q=>∃ a xs,x = .ref a∧SqL K H a xs∧∀ p,H p=none→Q (.ref p) (upd H p (.lst (Y6 xs lo hi)))
theorem WW:SlR X (rSlL X.K):=by
 intro pins s σ H x v vl vu lo hi sl Q I rx hs pl pu h
 obtain ⟨a,xs,rfl,hx,q⟩:=h
 cases rx
 obtain ⟨its,r,ht,hz⟩:=I.list hx
 have hlen:=r.length
 refine ⟨"list",_,slot_list_getitem.lookup,ht.isList.typeIs,?_⟩
 refine wpAny_getItem_list_slice ht.isList hs pl pu .none (by simp) ?_ (by rw [List.size_toArray]<;>omega)
 rw [Uf,← hlen]
 refine ⟨.ref s.heap.objs.size,_,I.laid (t':=s.toks) (o := .lst (Y6 xs lo hi)) (fun b ob q=>Heap.get?_push_of_some _ q) (Nat.le_refl _) ?_,rfl,q _ (I.hok.fresh (Nat.le_refl _))⟩
 exact ⟨Nat.le_trans (Qe xs lo hi) hz,_,0,(r.drop (HT.sIx xs.length 0 lo)).take (HT.sIx xs.length xs.length hi - HT.sIx xs.length 0 lo),Heap.get?_push_size _ rfl⟩
def We:V→Bool
 | .non=>true
 | .bl _=>true
 | .int _=>true
 | .str _=>true
 | _=>false
def eqV:V→V→Bool
 | .non,.non=>true
 | .bl a,.bl b=>a==b
 | .bl a,.int b=>(if a then 1 else 0)==b
 | .int a,.bl b=>a==(if b then 1 else 0)
 | .int a,.int b=>a==b
 | .str a,.str b=>a==b
 | _,_=>false
theorem YcL {A:Around} {s:Shared} {y x:V} {u v:Value} (ry:Ys y u) (rx:Ys x v) (fy:We y=true) (fx:We x=true):SeqAt.EqAt A s u v (eqV y x):=by
 cases y with
 | non =>
  cases ry
  cases x with
  | non=>cases rx;exact SeqAt.EqAt.same _
  | bl b=>cases rx;exact SeqAt.EqAt.none_bool b
  | int b=>obtain ⟨t,rfl⟩:=rx;exact SeqAt.EqAt.none_int b t
  | str b=>obtain ⟨t,rfl⟩:=rx;exact SeqAt.EqAt.none_str b t
  | _=>exact absurd (show false=true from fx) Bool.false_ne_true
 | bl a =>
  cases ry
  cases x with
  | non=>cases rx;exact SeqAt.EqAt.bool_none a
  | bl b=>cases rx;exact SeqAt.EqAt.bool_bool a b
  | int b=>obtain ⟨t,rfl⟩:=rx;exact SeqAt.EqAt.bool_int a b t
  | str b=>obtain ⟨t,rfl⟩:=rx;exact SeqAt.EqAt.bool_str a b t
  | _=>exact absurd (show false=true from fx) Bool.false_ne_true
 | int a =>
  obtain ⟨t',rfl⟩:=ry
  cases x with
  | non=>cases rx;exact SeqAt.EqAt.int_none a t'
  | bl b=>cases rx;exact SeqAt.EqAt.int_bool a t' b
  | int b=>obtain ⟨t,rfl⟩:=rx;exact SeqAt.EqAt.int_int a t' b t
  | str b=>obtain ⟨t,rfl⟩:=rx;exact SeqAt.EqAt.int_str a t' b t
  | _=>exact absurd (show false=true from fx) Bool.false_ne_true
 | str a =>
  obtain ⟨t',rfl⟩:=ry
  cases x with
  | non=>cases rx;exact SeqAt.EqAt.str_none a t'
  | bl b=>cases rx;exact SeqAt.EqAt.str_bool a t' b
  | int b=>obtain ⟨t,rfl⟩:=rx;exact SeqAt.EqAt.str_int a t' b t
  | str b=>obtain ⟨t,rfl⟩:=rx;exact SeqAt.EqAt.str_str a t' b t
  | _=>exact absurd (show false=true from fx) Bool.false_ne_true
 | _=>exact absurd (show false=true from fy) Bool.false_ne_true
def eqU (x:V) (u:Value):Bool:=match u with
 | .none=>eqV .non x
 | .bool b=>eqV (.bl b) x
 | .int i _=>eqV (.int i) x
 | .str z _=>eqV (.str z) x
 | _=>false
theorem YaF {x y:V} {u:Value} (r:Ys y u) (f:We y=true):eqU x u=eqV y x:=by
 cases y with
 | non=>cases r;rfl
 | bl b=>cases r;rfl
 | int i=>obtain ⟨t,rfl⟩:=r;rfl
 | str z=>obtain ⟨t,rfl⟩:=r;rfl
 | _=>exact absurd (show false=true from f) Bool.false_ne_true
theorem VC {x:V}:∀ {xs:List V} {us:List Value},Yn xs us→xs.all We=true→us.any (eqU x)=xs.any fun y=>eqV y x
 | _,_,.nil,_=>rfl
 | y::xs,u::us,.cons r t,f=>by
  rw [List.all_cons,Bool.and_eq_true] at f
  rw [List.any_cons,List.any_cons,YaF r f.1,VC t f.2]
theorem W8 {A:Around} {s:Shared} {x:V} {v:Value} (rx:Ys x v) (fx:We x=true):∀ {xs:List V} {us:List Value},Yn xs us→xs.all We=true→∀ u∈us,SeqAt.EqAt A s u v (eqU x u)
 | _,_,.nil,_=>fun u hu=>by cases hu
 | y::xs,u::us,.cons r t,f=>fun u' hu=>by
  rw [List.all_cons,Bool.and_eq_true] at f
  rcases List.mem_cons.mp hu with rfl | hu
  ·rw [YaF r f.1];exact YcL r rx f.1 fx
  ·exact W8 rx fx t f.2 u' hu
def inV (x:V) (xs:List V):Bool:=xs.any fun y=>eqV y x
def rIn (K:PySem.W.Frag) (neg:Bool):R2:=fun x y H Q=>∃ p xs,y = .ref p∧(SqL K H p xs∨SqT K H p xs)∧We x=true∧xs.all We=true∧Q (.bl (if neg then !inV x xs else inV x xs)) H
theorem VR:OpR X (compareOp .In) (rIn X.K false):=by
 intro pins s σ H x y v u Q I rx ry h
 obtain ⟨p,xs,rfl,hq,fx,fs,q⟩:=h
 cases ry
 rcases hq with hq | hq
 ·obtain ⟨its,r,pl,hz⟩:=I.list hq
  refine SeqAt.in_listAt (eqU x) pl.isList (fun w hw=>W8 rx fx r fs w (by simpa using hw)) ⟨.bl _,H,I,rfl,?_⟩
  rw [show its.toArray.any (eqU x)=its.any (eqU x) by simp,VC r fs]
  exact q
 ·obtain ⟨its,r,pl,hz⟩:=I.tuple hq
  refine SeqAt.in_tupleAt (eqU x) pl (fun w hw=>W8 rx fx r fs w (by simpa using hw)) ⟨.bl _,H,I,rfl,?_⟩
  rw [show its.toArray.any (eqU x)=its.any (eqU x) by simp,VC r fs]
  exact q
theorem Yu:Xn X (.builtin "len") (fun xs H Q=>∃ p ys,xs=[.ref p]∧(SqL X.K H p ys∨SqT X.K H p ys)∧Q (.int ys.length) H):=by
 intro pins s σ H xs us Q I r h
 obtain ⟨p,ys,rfl,hq,q⟩:=h
 obtain ⟨u,rfl,rx⟩:=XA r
 cases rx
 have hn:=WK
 rcases hq with hq | hq
 ·obtain ⟨its,r',pl,hz⟩:=I.list hq
  have hlen:=r'.length
  exact Calls.call_len_list pl.isList (by simp only [List.size_toArray]<;>omega) ⟨.int ys.length,H,I.tok _,⟨s.toks+1,by rw [List.size_toArray,hlen]⟩,q⟩
 ·obtain ⟨its,r',pl,hz⟩:=I.tuple hq
  have hlen:=r'.length
  exact len_tuple pl (by simp only [List.size_toArray]<;>omega) ⟨.int ys.length,H,I.tok _,⟨s.toks+1,by rw [List.size_toArray,hlen]⟩,q⟩
theorem UE:Xn X (.builtin "len") (fun xs H Q=>∃ z,xs=[.str z]∧z.length≤sizeLine∧Q (.int z.length) H):=by
 intro pins s σ H xs us Q I r h
 obtain ⟨z,rfl,hz,q⟩:=h
 obtain ⟨u,rfl,t,rfl⟩:=XA r
 have hn:=WK
 exact len_str (by omega) ⟨.int z.length,H,I.tok _,⟨_,rfl⟩,q⟩
theorem WM:Xn X (.type "list") (fun xs H Q=>∃ p ys,xs=[.ref p]∧(SqL X.K H p ys∨SqT X.K H p ys)∧∀ l,H l=none→Q (.ref l) (upd H l (.lst ys))):=by
 intro pins s σ H xs us Q I r h
 obtain ⟨p,ys,rfl,hq,q⟩:=h
 obtain ⟨u,rfl,rx⟩:=XA r
 cases rx
 have fin:∀ (its:List Value),Yn ys its→ys.length≤sizeLine→∀ (h':Heap) (c':Nat),(∀ b o',s.heap.get? b=some o'→h'.get? b=some o') →
   h'.get? s.heap.objs.size=some { cls := .type "list",dict:=none,data := .seq its.toArray c',slots:=#[] }→EP X pins σ Q (.ref s.heap.objs.size) { s with heap:=h' }:=fun its r' hz h' c' kp e =>
  ⟨.ref s.heap.objs.size,_,I.laid (t':=s.toks) kp (Nat.le_refl _) (show YN X.prog X.w _ h' _ (.lst ys) from ⟨hz,its,c',r',e⟩),rfl,q _ (I.hok.fresh (Nat.le_refl _))⟩
 rcases hq with hq | hq
 ·obtain ⟨its,r',pl,hz⟩:=I.list hq
  have hlen:=r'.length
  obtain ⟨o,ho,hc,n,hd⟩:=pl.isList
  exact call_list_seq p (.inl rfl) ho hc hd (fun h' c' kp e=>fin its r' hz h' c' kp e) (by simp only [List.size_toArray]<;>omega)
 ·obtain ⟨its,r',pl,hz⟩:=I.tuple hq
  have hlen:=r'.length
  obtain ⟨o,ho,hc,n,hd⟩:=pl
  exact call_list_seq p (.inr rfl) ho hc hd (fun h' c' kp e=>fin its r' hz h' c' kp e) (by simp only [List.size_toArray]<;>omega)
theorem Y8:Xn X (.type "tuple") (fun xs H Q=>∃ p ys,xs=[.ref p]∧((SqL X.K H p ys∧∀ l,H l=none→Q (.ref l) (upd H l (.tup ys)))∨(SqT X.K H p ys∧Q (.ref p) H))):=by
 intro pins s σ H xs us Q I r h
 obtain ⟨p,ys,rfl,h⟩:=h
 obtain ⟨u,rfl,rx⟩:=XA r
 cases rx
 rcases h with ⟨hq,q⟩ | ⟨hq,q⟩
 ·obtain ⟨its,r',pl,hz⟩:=I.list hq
  have hlen:=r'.length
  refine call_tuple_list pl.isList (fun h' kp=>?_) (by simp only [List.size_toArray]<;>omega)
  have I1:Inv X pins σ H { s with heap:=h' }:=I.kept (t':=s.toks) kp
  have I2:Inv X pins σ (upd H h'.objs.size (.tup ys)) { s with heap:=h'.push { cls := .type "tuple",data := .seq its.toArray } } :=
   I1.laid (t':=s.toks) (fun b o e=>Heap.get?_push_of_some _ e) (Nat.le_refl _) (show YN X.prog X.w _ _ _ (.tup ys) from ⟨hz,its,r',IsTup.new _ _⟩)
  exact ⟨.ref h'.objs.size,_,I2,rfl,q _ (I1.hok.fresh (Nat.le_refl _))⟩
 ·obtain ⟨its,r',pl,hz⟩:=I.tuple hq
  exact call_tuple_same pl ⟨.ref p,H,I,rfl,q⟩
def tyV (K:PySem.W.Frag) (T:String) (x:V) (H:Hp):Prop:=match x with
 | .str _=>T="str"
 | .int _=>T="int"
 | .ref p=>(T="list"∧∃ xs,SqL K H p xs)∨(T="tuple"∧∃ o,K.lookup p=some o∧o.cls = .type "tuple"∧o.dict=none) ∨
   (T="dict"∧((∃ kvs,H p=some (.dK kvs))∨∃ kvs,H p=some (.dT kvs)))∨(T="set"∧∃ S n,H p=some (.set S n))
 | _=>False
theorem YaG {pins:List (Addr×Obj)} {σ:St} {H:Hp} {s:Shared} {T:String} {x:V} {v:Value} (I:Inv X pins σ H s) (r:Ys x v) (ty:tyV X.K T x H) :
  s.TypeIs v T∧∀ a,v = .ref a→∃ ob,s.heap.get? a=some ob∧ob.dict=none:=by
 cases x with
 | str z =>
  obtain ⟨t,rfl⟩:=r
  cases (show T="str" from ty)
  exact ⟨typeIs_str s z t,fun _ e=>nomatch e⟩
 | int i =>
  obtain ⟨t,rfl⟩:=r
  cases (show T="int" from ty)
  exact ⟨typeIs_int s i t,fun _ e=>nomatch e⟩
 | ref p =>
  cases r
  rcases ty with ⟨rfl,xs,hq⟩ | ⟨rfl,o,hk,hc,hd⟩ | ⟨rfl,hk⟩ | ⟨rfl,S,n,hk⟩
  ·obtain ⟨its,_,pl,_⟩:=I.list hq
   refine ⟨pl.isList.typeIs,fun a e=>?_⟩
   cases e
   obtain ⟨o,n,e,c,hd,_⟩:=pl
   exact ⟨o,e,hd⟩
  ·refine ⟨⟨o,I.kIn p o hk,hc⟩,fun a e=>?_⟩
   cases e
   exact ⟨o,I.kIn _ o hk,hd⟩
  ·have z:∃ o,s.heap.get? p=some o∧o.ExactDict:=by
    rcases hk with ⟨kvs,hk⟩ | ⟨kvs,hk⟩
    ·obtain ⟨_,_,_,_,o,_,_,e,ex,_⟩:=I.hok p _ hk
     exact ⟨o,e,ex⟩
    ·obtain ⟨_,_,_,_,o,_,_,e,ex,_⟩:=I.hok p _ hk
     exact ⟨o,e,ex⟩
   obtain ⟨o,e,ex⟩:=z
   refine ⟨⟨o,e,ex.1⟩,fun a e2=>?_⟩
   cases e2
   exact ⟨o,e,ex.2.1⟩
  ·obtain ⟨o,_,_,_,e,ex,_⟩:=I.hok p _ hk
   refine ⟨⟨o,e,ex.1⟩,fun a e2=>?_⟩
   cases e2
   exact ⟨o,e,ex.2.1⟩
 | _=>exact False.elim ty
def tBM0 (K:PySem.W.Frag) (T:String) (r:V→List V→Hp→VK→Prop) (to:TE):TE:=fun σ H Q=>to σ H fun x H1=>tyV K T x H1∧r x [] H1 Q
def tBM (K:PySem.W.Frag) (T:String) (r:V→List V→Hp→VK→Prop) (to:TE) (t:TA):TE:=fun σ H Q=>to σ H fun x H1=>tyV K T x H1∧t σ H1 fun xs H2=>r x xs H2 Q
variable {o e:Expr} {es:List Expr} {to:TE} {t:TA} {name:Str} {apos cpos:Pos} {T id:String} {r:V→List V→Hp→VK→Prop}
theorem YcM (pa:PlainAttrs T) (slot:Slot T name id) (hty:typeOf (.builtin id)=pure (.type "method_descriptor")) (hm:MtR X id r) (ho:PE X o to)
  (hbase:attributeBase o name X.env (eval o X.env)=eval o X.env) (hline:(apos.endLine==cpos.line)=true):PE X (.Call (.Attribute o name apos) [] [] cpos) (tBM0 X.K T r to):=by
 intro pins s σ H Q I h
 refine wpAny_Call_method0_late hbase hline (thn (ho pins s σ H _ I h) fun v s1 ⟨x,H1,I1,r1,ty,q1⟩=>?_)
 obtain ⟨h1,h2⟩:=YaG I1 r1 ty
 exact ⟨T,id,pa,slot,hty,h1,h2,Calls.callWith_builtin rfl (PySem.evalArgs_none (hm pins s1 σ H1 x [] v [] Q I1 r1 .nil q1))⟩
theorem XB (pa:PlainAttrs T) (slot:Slot T name id) (hty:typeOf (.builtin id)=pure (.type "method_descriptor")) (hm:MtR X id r) (ho:PE X o to) (ha:PA X (e::es) t)
  (hbase:attributeBase o name X.env (eval o X.env)=eval o X.env:=by rfl)
  (hfew:((backTo cpos (starEach (e::es) X.env)).all (fun x => !x.1)&&(backToKw cpos (keywordEach [] X.env)).all (fun x=>x.1.isSome)
   && decide ((e::es).length+([]:List Keyword).length+(if ([]:List Keyword).isEmpty then 0 else 1)<30))=true:=by rfl)
  (hline:(apos.endLine==cpos.line)=true:=by rfl) (hs:starEach (e::es) X.env=(false,eval e X.env)::starEach es X.env:=by rfl) (hplain:(backTo cpos (starEach es X.env)).any (·.1)=false:=by rfl) :
  PE X (.Call (.Attribute o name apos) (e::es) [] cpos) (tBM X.K T r to t):=by
 intro pins s σ H Q I h
 refine wpAny_Call_method_late hbase hfew hline rfl (thn (ho pins s σ H _ I h) fun v s1 ⟨x,H1,I1,r1,ty,q1⟩=>?_)
 obtain ⟨h1,h2⟩:=YaG I1 r1 ty
 refine ⟨T,id,pa,slot,hty,h1,h2,?_⟩
 have hA:=ha cpos pins s1 σ H1 _ I1 q1
 rw [hs] at hA ⊢
 refine Calls.callWith_builtin (by show (false||(backTo cpos (starEach es X.env)).any (·.1))=false;rw [hplain]<;>rfl) (Calls.evalArgs_plain ?_)
 exact thn hA fun us s2 ⟨vs,H2,I2,r2,q2⟩=>hm pins s2 σ H2 x vs v us Q I2 r1 r2 q2
/- xs.append(e),list.index on a module's tuple .. are MtR facts of 06m -/
end
end L2
namespace L2
open PySem PySem.Spec PyProof.Rows
def MtM (X:Cx) (id:String) (r:V→List V→Hp→VK→Prop):Prop :=
 ∀ (pins:List (Addr×Obj)) (s:Shared) (σ:St) (H:Hp) (x:V) (xs:List V) (v:Value) (us:List Value) (Q:VK),Inv X pins σ H s→Ys x v→Yn xs us→r x xs H Q →
  wpAny (model X.prog X.w) X.A (call (.builtin id) (v::us)) (EP X pins σ Q) X.xe s
theorem Yn.one:∀ {x:V} {us:List Value},Yn [x] us→∃ u,us=[u]∧Ys x u
 | _,_,.cons r .nil=>⟨_,rfl,r⟩
theorem Yn.two:∀ {x y:V} {us:List Value},Yn [x,y] us→∃ u v,us=[u,v]∧Ys x u∧Ys y v
 | _,_,_,.cons r (.cons q .nil)=>⟨_,_,rfl,r,q⟩
theorem Yn.zero:∀ {us:List Value},Yn [] us→us=[]
 | _,.nil=>rfl
theorem Yn.reverse {xs:List V} {us:List Value} (h:Yn xs us):Yn xs.reverse us.reverse:=by
 induction h with
 | nil=>exact .nil
 | cons r t ih=>rw [List.reverse_cons,List.reverse_cons];exact Yn.append ih (.cons r .nil)
section
variable {X:Cx} {pins:List (Addr×Obj)} {σ:St} {H:Hp} {s:Shared} {l b:Addr} {xs ys zs:List V}
theorem Inv.lset {its its':List Value} {n:Nat} {f:Array Value→Array Value} {t':Nat} (I:Inv X pins σ H s) (hH:H l=some (.lst xs))
  (e:s.heap.get? l=some { cls := .type "list",data := .seq its.toArray n }) (hf:f its.toArray=its'.toArray) (hv:Yn ys its') (hz:ys.length≤sizeLine) :
  Inv X pins σ (upd H l (.lst ys)) { s with heap:=s.heap.update l (Obj.mapSeq f),toks:=t' }:=by
 have q:=PySem.IsL.update e f
 rw [hf] at q
 refine I.write (x:=l) (e:=l) (by rw [hH];exact trivial) (.inl rfl) (fun b' u hb hu=>(Heap.get?_update_other s.heap (Obj.mapSeq f) (Ne.symm hb)).trans hu) ⟨_,q⟩ ?_
 exact ⟨hz,its',_,hv,q⟩
theorem Inv.lnew {its:List Value} {t':Nat} (I:Inv X pins σ H s) (hv:Yn ys its) (hz:ys.length≤sizeLine) :
  Inv X pins σ (upd H s.heap.objs.size (.lst ys)) { s with heap:=s.heap.push { cls := .type "list",data := .seq its.toArray },toks:=t' } :=
 I.laid (fun _ _ q=>Heap.get?_push_of_some _ q) (Nat.le_refl _) ⟨hz,its,0,hv,Heap.get?_push_size _ rfl⟩
theorem Inv.fresh (I:Inv X pins σ H s):H s.heap.objs.size=none:=I.hok.fresh (Nat.le_refl _)
theorem Inv.lstM (I:Inv X pins σ H s) (hH:H l=some (.lst xs)):xs.length≤sizeLine∧∃ (its:List Value) (n:Nat),Yn xs its∧xs.length=its.length∧s.heap.get? l=some { cls := .type "list",data := .seq its.toArray n }:=by
 obtain ⟨z,its,n,r,e⟩:=I.hok l _ hH
 exact ⟨z,its,n,r,r.length,e⟩
theorem Ybj {n:Nat} (h:n≤sizeLine):Builtin.List.listTooLong n=false:=by
 unfold Builtin.List.listTooLong
 exact decide_eq_false (by omega)
end
section
variable {X:Cx}
def QB:V→List V→Hp→VK→Prop:=fun x vs H Q=>∃ l xs y,x = .ref l∧vs=[y]∧H l=some (.lst xs)∧xs.length<sizeLine∧Q .non (upd H l (.lst (xs++[y])))
theorem YY:MtM X "list.append" QB:=by
 intro pins s σ H x vs v us Q I rx rv h
 obtain ⟨l,xs,y,rfl,rfl,hH,hz,q⟩:=h
 cases rx
 obtain ⟨u,rfl,ru⟩:=rv.one
 obtain ⟨z,its,n,r,hl,e⟩:=I.lstM hH
 refine call_meets F.slot_list_append ⟨_,e,rfl⟩ F.entry_list_append (F.args_list_append_2 _ _) (PySem.list_append l its.toArray n u (by rw [List.size_toArray];omega)) ⟨e,?_⟩
 refine ⟨.non,_,I.lset (its':=its++[u]) hH e (by simp) (r.append (.cons ru .nil)) ?_,rfl,q⟩
 rw [List.length_append,List.length_singleton]
 omega
def Ycc:V→List V→Hp→VK→Prop:=fun x vs H Q=>∃ l b xs zs,x = .ref l∧vs=[.ref b]∧H l=some (.lst xs)∧H b=some (.lst zs)∧xs.length+zs.length≤sizeLine∧Q .non (upd H l (.lst (xs++zs)))
theorem VS:MtM X "list.extend" Ycc:=by
 intro pins s σ H x vs v us Q I rx rv h
 obtain ⟨l,b,xs,zs,rfl,rfl,hH,hB,hz,q⟩:=h
 cases rx
 obtain ⟨u,rfl,ru⟩:=rv.one
 cases ru
 obtain ⟨z,its,n,r,hl,e⟩:=I.lstM hH
 obtain ⟨z2,its2,n2,r2,hl2,e2⟩:=I.lstM hB
 have hsz:its.toArray.size+its2.toArray.size≤sizeLine:=by rw [List.size_toArray,List.size_toArray];omega
 have hlong:¬ (!its.toArray.isEmpty&&Builtin.List.listTooLong (its.toArray.size+its2.toArray.size))=true:=by
  rw [Ybj hsz,Bool.and_false]
  exact Bool.false_ne_true
 refine call_meets F.slot_list_extend ⟨_,e,rfl⟩ F.entry_list_extend (F.args_list_extend_2 _ _)
  (AutoSeq1.list_extend_list_list_0 l its.toArray n b its2.toArray n2 hlong (by rw [List.size_toArray];omega) (by omega)) ⟨e,e2,?_⟩
 refine ⟨.non,_,I.lset (its':=its++its2) hH e (by simp) (r.append r2) ?_,rfl,q⟩
 rw [List.length_append]
 omega
def Ybk:V→List V→Hp→VK→Prop:=fun x vs H Q=>∃ l xs,x = .ref l∧vs=[]∧H l=some (.lst xs)∧Q .non (upd H l (.lst xs.reverse))
def rCat:R2:=fun x y H Q=>∃ l b xs zs,x = .ref l∧y = .ref b∧H l=some (.lst xs)∧H b=some (.lst zs)∧xs.length+zs.length≤sizeLine∧∀ p,H p=none→Q (.ref p) (upd H p (.lst (xs++zs)))
theorem Vi:OpR X (binaryOp .Add) rCat:=by
 intro pins s σ H x y v u Q I rx ry h
 obtain ⟨l,b,xs,zs,rfl,rfl,hH,hB,hz,q⟩:=h
 cases rx
 cases ry
 obtain ⟨z,its,n,r,hl,e⟩:=I.lstM hH
 obtain ⟨z2,its2,n2,r2,hl2,e2⟩:=I.lstM hB
 refine PySem.P.add_list e e2 ?_ (by rw [List.size_toArray,List.size_toArray];omega)
 have ea:its.toArray++its2.toArray=(its++its2).toArray:=by simp
 rw [ea]
 exact ⟨.ref _,_,I.lnew (t':=s.toks) (r.append r2) (by rw [List.length_append];omega),rfl,q _ I.fresh⟩
end
section
variable {prog:Program} {w:World} {A:Around} {E:Value→Shared→Prop} {s:Shared}
end
section
variable {X:Cx}
end
end L2
namespace Att
open PySem PySem.W PySem.Calls PyProof.Rows
theorem Vj {P:Params} {h:Heap}:∀ (ns:List Int) (vs:List Value),WellAll P h vs (ns.map WData.int)→IntsAre vs ns:=by
 intro ns
 induction ns with
 | nil =>
  intro vs w
  rw [List.map_nil] at w
  cases w
  exact .nil
 | cons n ns ih =>
  intro vs w
  rw [List.map_cons] at w
  cases w with
  | cons a b =>
   cases a
   exact .cons _ _ (ih _ b)
theorem YaH {l:OpenLaw} {n:Nat} (hn:l.most=some n) {P:Params} {h:Heap} {args:List WData} {vals:List Value}
  (hpre:l.row.toRowW.claim.pre args=true) (hwl:WellAll P h vals args) :
  ∃ a vs ns,vals=[Value.ref a]∧args=[WData.list (ns.map WData.int)]∧h.get? a=some { cls := .type "list",data := .seq vs.toArray }∧IntsAre vs ns∧ns.length≤n:=by
 have hsh:WShape.hasAll [] args [.list .int]=true:=(pre_splitW hpre).1
 have hc:l.pre.holds [] { args:=args }=true:=(pre_splitW hpre).2
 obtain ⟨d,r,rfl,h1,h2⟩:=hasAllW_cons hsh
 obtain rfl:=hasAllW_nil h2
 obtain ⟨xs,rfl,h3⟩:=hasW_list h1
 obtain ⟨ns,rfl⟩:=items_int h3
 have hlen:ns.length≤n:=by
  unfold OpenLaw.pre at hc
  have h4:(WTm.not (.lt (.lit (.int (n:Int))) (.len (.arg 0)))).holds [] { args:=[.list (ns.map .int)] }=true:=by
   have h4:=(holds_andW hc).1
   rw [hn] at h4
   exact h4
  have h5:=condW_of h4 (w_not (w_lt w_lit (w_len_list (w_arg rfl))))
  rw [List.length_map] at h5
  refine Nat.le_of_not_lt fun q=>?_
  have q':(n:Int)<((ns.length:Nat):Int):=by omega
  first
   | (rw [decide_eq_true q'] at h5;exact absurd h5 (by decide))
   | (simp at h5;omega)
 cases hwl with
 | cons w1 w2 =>
  cases w2
  cases w1 with
  | list ho hall=>exact ⟨_,_,ns,rfl,rfl,ho,Vj ns _ hall,hlen⟩
theorem YaI (l:OpenLaw) (args:List WData):l.row.toRowW.claim.post args (.bool true) args=true :=
 postW_of (r:=l.row.toRowW) (X:=(true==true))
  (show WShape.has [] (.bool true) .bool=true by first | rfl | decide | simp [WShape.has,WShape.arms,WShape.armsAll])
  (show (WTm.eq .res (.lit (.bool true))).value [] { args:=args,res:=some (.bool true),after:=args }=some (.bool (true==true)) from w_eq_bool (w_res rfl) w_lit) rfl
theorem attach_call {l:OpenLaw} {n:Nat} {q:Program} {loose:List Str} {XP:(Str→Option Value)→Heap→Prop} {YP:World→Heap→Prop} {d:DefRec}
  (hn:l.most=some n) (hdf:d.params.defaults=[])
  (call:∀ (w:World) (s₀ s₁:Shared) (mg mb:Str→Option Value) (fa:Addr) (o:Obj) (pm cd doc:Value) (a:Addr) (vs:List Value) (ns:List Int),
   Ground q loose [] XP w s₀ mg mb s₁.heap→YP w s₁.heap →
   s₁.heap.get? fa=some o→o.data = .func (docDef d.name d.params d.body d.scope pm cd doc)→s₁.heap.CodeRec cd d.name→mg d.name=some (.ref fa) →
   s₁.heap.get? a=some { cls := .type "list",data := .seq vs.toArray }→IntsAre vs ns→ns.length≤n→s₁.gens=#[] →
   codeAny (model l.prog w) callerA (.call (.ref fa) ⟨[.ref a],[]⟩) (fun r s'=>r = .ok (.ret (.bool true))∧OldK s₁.heap s'.heap∧s'.os=s₁.os∧AllBare s'.gens) s₁) :
  WalkO q loose XP YP l.row.toRowW d [] (fun f vs=>PySem.call f vs):=by
 intro w s₀ s₁ mg mb G Y fa o pm cd doc dV kV ho hd hcd hD hmg hg args vals as hpre hlay hrd hwl hlo
 obtain rfl:dV = .none:=Dflts.none hD hdf
 obtain rfl:kV = .none:=Dflts.noKw hD
 obtain ⟨a,vs,ns,rfl,rfl,hobj,hints,hlen⟩:=YaH hn hpre hwl
 refine enter_call (codeAny_mono (call w s₀ s₁ mg mb fa o pm cd doc a vs ns G Y ho (fd_plain hd) hcd hmg hobj hints hlen hg) fun r s' hq=>?_)
 obtain ⟨rfl,h2,h3,h4⟩:=hq
 exact ⟨.inl ⟨.bool true,.bool true,[],rfl,fun _=>rfl,.bool true,YaI l _,fun _=>⟨List.Pairwise.nil,fun _ hm=>(nomatch hm)⟩⟩,h2,h3,h4⟩
section
variable {prog:Program} {w:World} {A:Around} {E:Value→Shared→Prop} {s:Shared} {K:Frag}
def ledger (h:Heap) (L d:Addr):List (Addr×Obj):=(List.range h.objs.size).filterMap fun a=>if a=L∨a=d then none else (h.get? a).map fun o=>(a,o)
end
end Att
namespace L2
open PySem PySem.Spec PyProof.Rows
theorem VT:∀ {vs:List Value} {ns:List Int},IntsAre vs ns→Yn (ns.map V.int) vs
 | _,_,.nil => .nil
 | _,_,.cons n t h => .cons ⟨t,rfl⟩ (VT h)
def Only (H:Hp):Prop:=∀ b,H b=none∨∃ o xs,H b=some (.frz o (.lst xs))
theorem Ybl {P:Program} {w:World} {K:PySem.W.Frag} {mg mb:Str→Option Value} {CX:CXT} {k:Nat} {fa a:Addr} {fd:FuncData} {x:Str} {sp:Sp} {s₁:Shared} {vs:List Value} {ns:List Int}
  (KX:K.In s₁.heap) (hns:s₁.heap.Ns mainGlobals mg) (hb:s₁.heap.Ns builtinsNs mb) (hbb:∀ x:Str,x≠"__name__"→mb x=bootBuiltins x) (hlim:s₁.heap.NoLimit) (hg:s₁.gens=#[])
  (ha:s₁.heap.get? a=some { cls := .type "list",data := .seq vs.toArray }) (hi:IntsAre vs ns) (hl:ns.length≤sizeLine) (hr:Room k callerA)
  (F:∀ base:Heap,K.In base→base.Ns mainGlobals mg→FnOk P w K mg base CX k fa fd [x] sp) (hbind:∀ (s:Shared) (u:Value),BindsTo s fd ⟨[u],[]⟩ [(x,u)])
  (hsp:∀ H:Hp,Only H→SqL K H a (ns.map V.int)→sp [.ref a] H (fun v _=>v = .bl true) fun _ _ _=>False)
  (hCX:∀ H e s',CX [] H s₁ (fun _ _ _=>False) e s'→False) :
  codeAny (model P w) callerA (.call (.ref fa) ⟨[.ref a],[]⟩) (fun r s'=>r = .ok (.ret (.bool true))∧OldK s₁.heap s'.heap∧s'.os=s₁.os∧AllBare s'.gens) s₁:=by
 have rv:=VT hi
 have lenV:=hi.length
 -- from an abstract heap in which nothing but the script may be tracked
 have core:∀ H:Hp,Only H→SqL K H a (ns.map V.int)→HOk P w H s₁.heap→(∀ b,H b≠none→b=a)→(H a≠none→K.lookup a=none) →
   codeAny (model P w) callerA (.call (.ref fa) ⟨[.ref a],[]⟩) (fun r s'=>r = .ok (.ret (.bool true))∧OldK s₁.heap s'.heap∧s'.os=s₁.os∧AllBare s'.gens) s₁:=by
  intro H hO hS hok hA hK
  have base_of:∀ {b:Addr} {o:Obj},s₁.heap.get? b=some o→H b=none→(Ww s₁.heap H).get? b=some o:=fun e n=>Ybf e n
  have noA:∀ {b:Addr} {o:Obj} {es:Array DictEntry} {ep:Nat},s₁.heap.get? b=some o→o.data = .dict es ep→H b=none:=fun {b o es ep} e d=>by
   cases q:H b with
   | none=>rfl
   | some u =>
    have e':b=a:=hA b (by rw [q];simp)
    subst e'
    rw [ha] at e;cases e
    have d':Data.seq vs.toArray _=Data.dict es ep:=d
    cases d'
  have nsK:∀ {b:Addr} {m:Str→Option Value},s₁.heap.Ns b m→(Ww s₁.heap H).Ns b m:=fun {b m} ⟨o,es,ep,e,d,r⟩=>⟨o,es,ep,base_of e (noA e d),d,r⟩
  have hKb:K.In (Ww s₁.heap H):=fun b o e=>base_of (KX b o e) (by
   cases q:H b with
   | none=>rfl
   | some u =>
    have e':b=a:=hA b (by rw [q];simp)
    subst e'
    rw [hK (by rw [q];simp)] at e;cases e)
  have hM:Mod K mg (Ww s₁.heap H):=⟨hKb,nsK hns,⟨mb,nsK hb,hbb⟩,let ⟨mc,h1,h2⟩:=hlim;⟨mc,nsK h1,h2⟩⟩
  have e0:Env0 P w K mg (Ww s₁.heap H) callerA [] s₁ H:=⟨rfl,hM,fun b o e=>Yb3 e,Nat.le_of_eq (Yam _ _),trivial,fun b hb=>absurd (show b∈([]:List Addr) from hb) (by simp),hok,.of_eq hg⟩
  refine codeAny_mono ((F _ hKb (nsK hns)).run callerA [] s₁ H ⟨[.ref a],[]⟩ [.ref a] [.ref a] _ _ hr e0 (hbind s₁ (.ref a)) (.cons rfl .nil) (hsp H hO hS)) fun r s' h=>?_
  cases r with
  | error e=>exact (hCX H e s' h).elim
  | ok fl =>
   cases fl with
   | next=>exact False.elim h
   | brk=>exact False.elim h
   | cont=>exact False.elim h
   | ret u =>
    obtain ⟨v,H',os,bare,un,hok',r',q⟩:=h
    have q':v = .bl true:=q
    subst q'
    obtain rfl:u=Value.bool true:=r'
    refine ⟨rfl,OldK.of_keep fun b o e=>?_,os,bare⟩
    cases q:H b with
    | none=>exact un.keep b o e q (by intro z;exact absurd (show b∈([]:List Addr) from z) (by simp)) (by simp)
    | some u =>
     rcases hO b with z | ⟨ob,xs,z⟩
     ·rw [q] at z;cases z
     ·have z2:=un.frzs b ob _ z
      obtain ⟨e1,_⟩:=hok b _ z
      obtain ⟨e2,_⟩:=hok' b _ z2
      rw [e] at e1;cases e1
      exact e2
 cases hk:K.lookup a with
 | some o =>
  -- the script is one of the module's own objects
  have e:=KX a o hk
  rw [ha] at e
  cases e
  refine core (fun _=>none) (fun _ => .inl rfl) (.inr ⟨_,vs.toArray,_,hk,rfl,rfl,rfl,by rw [List.size_toArray,lenV];exact hl,by simpa using rv⟩) (fun b u z=>by have z':(none:Option HO)=some u:=z;cases z') (fun b z=>absurd rfl z) fun z=>absurd rfl z
 | none =>
  refine core (fun b=>if b=a then some (.frz { cls := .type "list",data := .seq vs.toArray } (.lst (ns.map V.int))) else none) (fun b=>?_) (.inl (.inr ⟨{ cls := .type "list",data := .seq vs.toArray },if_pos rfl⟩)) (fun b u z=>?_) (fun b z=>?_) fun _=>hk
  ·by_cases hb:b=a
   ·exact .inr ⟨_,_,if_pos hb⟩
   ·exact .inl (if_neg hb)
  ·by_cases hb:b=a
   ·have z':=(if_pos hb).symm.trans z
    cases z'
    subst hb
    exact ⟨ha,by rw [List.length_map];exact hl,vs,_,rv,ha⟩
   ·have z':=(if_neg hb).symm.trans z
    cases z'
  ·by_cases hb:b=a
   ·exact hb
   ·exact absurd (if_neg hb) z
end L2
namespace L2
open PySem PySem.Spec PyProof.Rows
theorem Ycd {l:PySem.W.OpenLaw} {n k:Nat} {q:Program} {loose:List Str} {XP:(Str→Option Value)→Heap→Prop} {YP:World→Heap→Prop} {d:DefRec} {K:Params→PySem.W.Frag} {CX:World→CXT} {sp:World→Sp} {x:Str}
  (hn:l.most=some n) (hn2:n≤sizeLine) (hdf:d.params.defaults=[]) (hr:Room k callerA)
  (hY:∀ (w:World) (h:Heap),YP w h→(K w.params).In h)
  (F:∀ (w:World) (mg:Str→Option Value) (fa:Addr) (h:Heap),(K w.params).In h→h.Ns mainGlobals mg→mg d.name=some (.ref fa) →
   ∃ fd:FuncData,(∀ (s:Shared) (u:Value),BindsTo s fd ⟨[u],[]⟩ [(x,u)]) ∧
    ∀ base:Heap,(K w.params).In base→base.Ns mainGlobals mg→FnOk l.prog w (K w.params) mg base (CX w) k fa fd [x] (sp w))
  (hsp:∀ (w:World) (H:Hp) (a:Addr) (ns:List Int),ns.length≤n→Only H→SqL (K w.params) H a (ns.map V.int)→sp w [.ref a] H (fun v _=>v = .bl true) fun _ _ _=>False)
  (hCX:∀ (w:World) (H:Hp) (s:Shared) (e:Value) (s':Shared),CX w [] H s (fun _ _ _=>False) e s'→False) :
  PySem.W.WalkO q loose XP YP l.row.toRowW d [] (fun f vs=>PySem.call f vs):=by
 refine Att.attach_call hn hdf fun w s₀ s₁ mg mb fa o pm cd doc a vs ns G Y ho hd hcd hmg hobj hints hlen hg=>?_
 have KX:=hY w _ Y
 obtain ⟨fd,hb,hF⟩:=F w mg fa _ KX G.T.g hmg
 exact Ybl KX G.T.g G.T.b G.T.builtins G.T.nolimit hg hobj hints (Nat.le_trans hlen hn2) hr hF hb (fun H hO hS=>hsp w H a ns hlen hO hS) fun H e s'=>hCX w H s₁ e s'
end L2
namespace L2
open PySem PySem.Spec PyProof.Rows
def Xw (s:Stmt):Arguments:=match s with
 | .FunctionDef _ a _ _ _ _ _ _ _ _=>a
 | _=>{ posonlyargs:=[],args:=[],vararg:=none,kwonlyargs:=[],kw_defaults:=[],kwarg:=none,defaults:=[] }
def Xc (s:Stmt):List Stmt:=match s with
 | .FunctionDef _ _ b _ _ _ _ _ _ _=>b
 | _=>[]
def Yi (s:Stmt):Scope:=match s with
 | .FunctionDef _ _ _ _ _ _ sc _ _ _=>sc
 | _=>{ kind := .function,names:=[],isGenerator:=false,isCoroutine:=false }
abbrev CX0:CXT:=fun _ _ _ _ _ _=>False
abbrev E0:XK:=fun _ _ _=>False
theorem pass0 {X:Cx}:UB CX0 X E0:=fun _ _ _ _ _ _ _ h=>h.elim
structure Fun (K:PySem.W.Frag) (x qual:Str) (st:Stmt) (f:Addr) (fd:FuncData):Prop where
 ex:∃ (oc:Value) (od:Option Addr) (kV doc pm:Value) (an:Option Addr) (cdv ct:Value) (osl:Array (Option Value)),
  fd=PySem.W.fnOf x qual (Xw st) (Xc st) (Yi st) .none kV doc pm an cdv ct∧K.lookup f=some ⟨oc,od,.func fd,osl⟩∧PySem.W.codeIn K cdv qual=true
 kp:PySem.W.keepIn K (.ref f)=true
section
variable {P:Program} {w:World} {K:PySem.W.Frag} {mg:Str→Option Value} {base:Heap}
theorem Fun.ok {x qual:Str} {st:Stmt} {f:Addr} {fd:FuncData} {N ps:List Str} {k:Nat} {sp:Sp} (F:Fun K x qual st f fd) (S:FnScope N ps (Yi st)) (len:∀ vs H Q E,sp vs H Q E→vs.length=ps.length)
  (hbody:∀ (cdv:Value) (A:Around) (outer:List Env) (s:Shared) (H:Hp) (vs:List V) (Q:VK) (E:XK),Room k (A.deeper (envOfC qual (Yi st) s.heap.objs.size f cdv))→sp vs H Q E →
   ∃ t,PSs (WL CX0 P w K mg base N qual (Yi st) f cdv A outer s H E).nox (Xc st) t∧t { nx:=fun _ H'=>Q .non H',rt:=Q } (XO N vs) H):FnOk P w K mg base CX0 (k+1) f fd ps sp:=by
 obtain ⟨oc,od,kV,doc,pm,an,cdv,ct,osl,rfl,lk,hcd⟩:=F.ex
 refine fn_of lk hcd S len fun A outer s H vs Q E hr hsp=>?_
 obtain ⟨t,h,q⟩:=hbody cdv A outer s H vs Q E hr hsp
 exact ⟨t,h.nox,q⟩
theorem Fun.binds {x qual:Str} {st:Stmt} {f:Addr} {fd:FuncData} {ps:List Str} (F:Fun K x qual st f fd)
  (h:∀ (kV doc pm:Value) (an:Option Addr) (cdv ct:Value) (us:List Value),us.length=ps.length→bindArgs (PySem.W.fnOf x qual (Xw st) (Xc st) (Yi st) .none kV doc pm an cdv ct) ⟨us,[]⟩=pure (ps.zip us)):XN K fd ps []:=by
 obtain ⟨oc,od,kV,doc,pm,an,cdv,ct,osl,rfl,lk,hcd⟩:=F.ex
 exact .all (h kV doc pm an cdv ct)
theorem YaJ {x qual:Str} {st:Stmt} {f:Addr} {oc:Value} {od an:Option Addr} {osl:Array (Option Value)} {kV doc pm cdv ct:Value} (l:K.lookup f=some ⟨oc,od,.func (PySem.W.fnOf x qual (Xw st) (Xc st) (Yi st) .none kV doc pm an cdv ct),osl⟩)
  (c:PySem.W.codeIn K cdv qual=true) (k:PySem.W.keepIn K (.ref f)=true):Fun K x qual st f (PySem.W.fnOf x qual (Xw st) (Xc st) (Yi st) .none kV doc pm an cdv ct):=⟨⟨oc,od,kV,doc,pm,an,cdv,ct,osl,rfl,l,c⟩,k⟩
end
section
variable {X:Cx}
theorem pv (i:Nat) {x:Str} {pos:Pos} (hN:X.N[i]?=some x:=by rfl) (hv:Vis X.env.scope x:=by first | exact .inl rfl | exact .inr (.inl rfl) | exact .inr (.inr rfl)) (hd:(x==("__debug__":Str))=false:=by decide)
  (hcd:(x==("__classdict__":Str))=false:=by decide):PE X (.Name x pos) (tVar i):=YcH hN hv hd hcd
end
theorem Wh {A B:Prop} (h:B):if false=true then A else B:=by
 rw [if_neg Bool.false_ne_true]
 exact h
theorem Wi {A B:Prop} (h:A):if true=true then A else B:=by
 rw [if_pos rfl]
 exact h
theorem Y7 {c A B:Prop} [Decidable c] (h1:c→A) (h2:¬ c→B):if c then A else B:=by
 by_cases h:c
 ·rw [if_pos h]
  exact h1 h
 ·rw [if_neg h]
  exact h2 h
def Yc (H H':Hp):Prop:=∀ b o,H b=some o→H' b=some o
theorem Yc.refl (H:Hp):Yc H H:=fun _ _ h=>h
theorem Yc.trans {H H1 H2:Hp} (a:Yc H H1) (b:Yc H1 H2):Yc H H2:=fun c o h=>b c o (a c o h)
theorem Yc.free {H H':Hp} (e:Yc H H') {l:Addr} (h:H' l=Option.none):H l=Option.none:=by
 cases q:H l with
 | none=>rfl
 | some o =>
  rw [e l o q] at h
  cases h
theorem Yc.seq {K:PySem.W.Frag} {H H':Hp} {a:Addr} {xs:List V} (e:Yc H H') (h:SqL K H a xs):SqL K H' a xs:=by
 rcases h with (h | ⟨o,h⟩) | h
 ·exact .inl (.inl (e _ _ h))
 ·exact .inl (.inr ⟨o,e _ _ h⟩)
 ·exact .inr h
end L2
namespace L2
open PySem PySem.Spec PyProof.Rows
section
variable {κ:Type} [DecidableEq κ]
theorem Uw.getD {o:Option V} {u:Option Value} {d:V} {d':Value} (r:Uw o u) (rd:Ys d d'):Ys (o.getD d) (u.getD d'):=by
 cases o with
 | none=>cases u with
  | none=>exact rd
  | some _=>exact (show False from r).elim
 | some _=>cases u with
  | none=>exact (show False from r).elim
  | some _=>exact r
theorem KV.any {kvs:List (κ×V)} {vs:List (κ×Value)} (r:KV kvs vs) (k:κ):(kvs.any fun kv=>decide (kv.1=k))=vs.any fun kv=>decide (kv.1=k):=by
 unfold KV at r
 induction r with
 | nil=>rfl
 | cons h t ih=>rw [List.any_cons,List.any_cons,ih,h.1]
theorem KV.keys {kvs:List (κ×V)} {vs:List (κ×Value)} (r:KV kvs vs):kvs.map (·.1)=vs.map (·.1):=by
 unfold KV at r
 induction r with
 | nil=>rfl
 | cons h t ih=>rw [List.map_cons,List.map_cons,ih,h.1]
theorem KV.length {kvs:List (κ×V)} {vs:List (κ×Value)} (r:KV kvs vs):kvs.length=vs.length:=Paired.length r
end
theorem YbS {P:Program} {w:World} {k:Key} {u:Value} (r:Ys (kV k) u):(Xl P w).is k u=true:=by
 cases k with
 | inl i=>obtain ⟨t,e⟩:=(show ∃ t,u=Value.int i t from r);subst e;exact Qc P w i t
 | inr x=>obtain ⟨t,e⟩:=(show ∃ t,u=Value.str x t from r);subst e;exact Qd P w x t
abbrev KT (H:Hp):List (List Key×V)→List (List Key×Addr×Value)→Prop:=Paired fun p q=>p.1=q.1∧H q.2.1=some (.tup (p.1.map kV))∧Ys p.2 q.2.2
theorem KT.keeps {H H':Hp} {kvs:List (List Key×V)} {xs:List (List Key×Addr×Value)} (r:KT H kvs xs) (ht:∀ b ys,H b=some (.tup ys)→H' b=some (.tup ys)):KT H' kvs xs :=
 Paired.mapP r fun _ _ z=>⟨z.1,ht _ _ z.2.1,z.2.2⟩
section
variable {P:Program} {w:World} {H:Hp} {h:Heap} {a:Addr}
end
section
variable {X:Cx} {pins:List (Addr×Obj)} {σ:St} {H:Hp} {s:Shared} {a:Addr} {y v:V} {u r:Value} {o:Option V} {A:Around} {E:Value→Shared→Prop}
end
section
variable {X:Cx} {pins:List (Addr×Obj)} {σ:St} {H:Hp} {s:Shared} {a:Addr} {kvs:List (Key×V)} {k:Key} {u:Value} {A:Around} {E:Value→Shared→Prop}
end
section
variable {X:Cx} {o i e value:Expr} {pos pos' tpos:Pos} {td ty tv:TE}
end
section
variable {X:Cx} {pos:Pos}
end
section
variable {X:Cx} {pins:List (Addr×Obj)} {σ:St} {H:Hp} {s:Shared} {a:Addr} {y d:V} {u r:Value} {o:Option V} {A:Around} {E:Value→Shared→Prop}
end
section
variable {X:Cx} {o e f:Expr} {apos cpos:Pos} {td ty tx:TE}
end
section
variable {X:Cx} {pins:List (Addr×Obj)} {σ:St} {H:Hp} {s:Shared} {a:Addr} {kvs:List (Key×V)} {A:Around} {E:Value→Shared→Prop}
end
section
variable {X:Cx} {pins:List (Addr×Obj)} {σ:St} {H:Hp} {s:Shared} {a:Addr} {y:V} {u:Value} {A:Around} {E:Value→Shared→Prop}
end
end L2
namespace L2
open PySem PySem.Spec PyProof.Rows
theorem X9 (env:Env):∀ (names:List (Str×NameKind)) (cs:List (Str×Addr)),(∀ x,(x,NameKind.free)∈names→∃ c,env.cells.lookup x=some c) →
  ∃ cl,(forIn names cs fun (p:Str×NameKind) (cs:List (Str×Addr))=>(if (p.2==NameKind.free)=true then (do let c ← cellOf env p.1;pure (ForInStep.yield ((p.1,c)::cs))) else pure (ForInStep.yield cs):Sem (ForInStep (List (Str×Addr)))))=pure cl ∧
   (∀ x c,cl.lookup x=some c→env.cells.lookup x=some c∨cs.lookup x=some c)∧(∀ x,(x,NameKind.free)∈names→∃ c,cl.lookup x=some c)∧(∀ x c,cs.lookup x=some c→∃ d,cl.lookup x=some d)
 | [],cs,_=>⟨cs,by simp,fun _ _ h => .inr h,(fun _ h=>nomatch h),fun x c h=>⟨c,h⟩⟩
 | (n,k)::r,cs,h=>by
  by_cases hk:k=NameKind.free
  ·subst hk
   obtain ⟨c,hc⟩:=h n (List.mem_cons_self ..)
   obtain ⟨cl,e,a,b,d⟩:=X9 env r ((n,c)::cs) (fun x hx=>h x (List.mem_cons_of_mem _ hx))
   have hcell:cellOf env n=pure c:=by unfold cellOf;rw [hc]
   refine ⟨cl,?_,fun x c' hx=>?_,fun x hx=>?_,fun x c' hx=>?_⟩
   ·rw [List.forIn_cons]
    simp only [beq_self_eq_true,if_true,hcell,pure_bind]
    exact e
   ·rcases a x c' hx with q | q
    ·exact .inl q
    ·rw [List.lookup_cons] at q
     by_cases hxn:(x==n)=true
     ·rw [hxn] at q
      have hx':x=n:=by simpa using hxn
      subst hx'
      have:c=c':=by simpa using q
      subst this
      exact .inl hc
     ·rw [Bool.eq_false_iff.mpr hxn] at q
      exact .inr q
   ·rcases List.mem_cons.mp hx with q | q
    ·have hx':x=n:=congrArg Prod.fst q
     subst hx'
     exact d x c (by rw [List.lookup_cons];simp)
    ·exact b x q
   ·have:∃ d',((n,c)::cs).lookup x=some d':=by
     rw [List.lookup_cons]
     by_cases hxn:(x==n)=true
     ·rw [hxn];exact ⟨c,rfl⟩
     ·rw [Bool.eq_false_iff.mpr hxn];exact ⟨c',hx⟩
    obtain ⟨d',hd'⟩:=this
    exact d x d' hd'
  ·obtain ⟨cl,e,a,b,d⟩:=X9 env r cs (fun x hx=>h x (List.mem_cons_of_mem _ hx))
   have hkf:(k==NameKind.free)=false:=by simpa using hk
   refine ⟨cl,?_,a,fun x hx=>?_,d⟩
   ·rw [List.forIn_cons]
    simp only [hkf,Bool.false_eq_true,if_false,pure_bind]
    exact e
   ·rcases List.mem_cons.mp hx with q | q
    ·exact absurd (congrArg Prod.snd q).symm hk
    ·exact b x q
theorem Vk (env:Env) (scope:Scope) (h:∀ x,(x,NameKind.free)∈scope.names→∃ c,env.cells.lookup x=some c) :
  ∃ cl,closureFor scope env=pure cl∧(∀ x c,cl.lookup x=some c→env.cells.lookup x=some c)∧(∀ x,(x,NameKind.free)∈scope.names→∃ c,cl.lookup x=some c):=by
 obtain ⟨cl,e,a,b,_⟩:=X9 env scope.names [] h
 refine ⟨cl,?_,fun x c hx=>(a x c hx).elim id (fun z=>by simp at z),b⟩
 unfold closureFor
 simp only [bind_pure]
 exact e
def cxC (X:Cx) (scope:Scope) (N':List Str) (cl:List (Str×Addr)) (C:Addr) (s₀:Shared) (H₀:Hp) (fp:List Addr) (pn:List (Addr×Obj)):Cx :=
 { X with N:=N',s₀:=s₀,H₀:=H₀,env:=compEnvC scope cl C X.env,outer:=X.stack,ex:=fp,fn:=fun _=>false,pn:=pn,xe:=fun _ _=>False }
inductive Cap (X:Cx) (scope:Scope):List (Option Nat)→List Str→Prop
 | nil:Cap X scope [] []
 | own {x src N'}:Cap X scope src N'→Cap X scope (none::src) (x::N')
 | cap {x i src N'}:X.N[i]?=some x→scope.names.lookup x=some NameKind.free→(X.env.scope.names.lookup x=some NameKind.cell∨X.env.scope.names.lookup x=some NameKind.free)→Cap X scope src N'→Cap X scope (some i::src) (x::N')
def Yz (src:List (Option Nat)) (σ:St):St:=src.map fun o=>match o with | none=>none | some i=>σ.getD i none
theorem Cap.length {X:Cx} {scope:Scope}:∀ {src:List (Option Nat)} {N':List Str},Cap X scope src N'→src.length=N'.length
 | _,_,.nil=>rfl
 | _,_,.own h=>congrArg (·+1) h.length
 | _,_,.cap _ _ _ h=>congrArg (·+1) h.length
theorem Cap.get {X:Cx} {scope:Scope} {σ:St}:∀ {src:List (Option Nat)} {N':List Str},Cap X scope src N'→∀ (j:Nat) (x:Str) (v:V),N'[j]?=some x→(Yz src σ)[j]?=some (some v) →
  ∃ i:Nat,X.N[i]?=some x∧σ[i]?=some (some v)∧scope.names.lookup x=some NameKind.free∧(X.env.scope.names.lookup x=some NameKind.cell∨X.env.scope.names.lookup x=some NameKind.free)
 | _,_,.nil,j,x,v,h,_=>by simp at h
 | _,_,.own h,0,x,v,_,e=>by simp [Yz] at e
 | _,_,.own h,j+1,x,v,e1,e2=>h.get j x v (by simpa using e1) (by simpa [Yz] using e2)
 | _,_,.cap (x:=y) (i:=i) hN hf hk h,0,x,v,e1,e2=>by
  have ex:y=x:=by simpa using e1
  subst ex
  refine ⟨i,hN,?_,hf,hk⟩
  simp only [Yz,List.map_cons,List.getElem?_cons_zero,Option.some.injEq] at e2
  rw [List.getD_eq_getElem?_getD] at e2
  cases q:σ[i]? with
  | none=>rw [q] at e2;simp at e2
  | some o=>rw [q] at e2;simp at e2;rw [e2]
 | _,_,.cap hN hf hk h,j+1,x,v,e1,e2=>h.get j x v (by simpa using e1) (by simpa [Yz] using e2)
theorem Wq (env:Env) (x:Str):∀ {names:List (Str×NameKind)},
  (names.map fun (n,k)=>if (k==NameKind.free&&env.scope.kind == .function&&env.kindOf n==some .cell) then (n,NameKind.cell) else (n,k)).lookup x =
   (names.lookup x).map fun k=>if (k==NameKind.free&&env.scope.kind == .function&&env.kindOf x==some .cell) then NameKind.cell else k
 | []=>rfl
 | (n,k)::r=>by
  have ih:=@Wq env x r
  rw [List.map_cons]
  dsimp only
  by_cases hx:(x==n)=true
  ·have e:x=n:=by simpa using hx
   subst e
   by_cases hc:(k==NameKind.free&&env.scope.kind == .function&&env.kindOf x==some .cell)=true
   ·rw [if_pos hc,List.lookup_cons,List.lookup_cons,hx]
    simp only [Option.map_some]
    rw [if_pos hc]
   ·rw [if_neg hc,List.lookup_cons,List.lookup_cons,hx]
    simp only [Option.map_some]
    rw [if_neg hc]
  ·have hx':=Bool.eq_false_iff.mpr hx
   by_cases hc:(k==NameKind.free&&env.scope.kind == .function&&env.kindOf n==some .cell)=true
   ·rw [if_pos hc];simp only [List.lookup_cons,hx'];exact ih
   ·rw [if_neg hc];simp only [List.lookup_cons,hx'];exact ih
theorem Wf {names:List (Str×NameKind)} {x:Str} (h:names.lookup x=some NameKind.free):(x,NameKind.free)∈names:=PySem.mem_of_lookup h
section
variable {X:Cx}
theorem UF {scope:Scope} {N':List Str} {src:List (Option Nat)} {cl:List (Str×Addr)} {pins:List (Addr×Obj)} {σ:St} {H:Hp} {s s':Shared} {h':Heap} {tk:Nat} {fp:List Addr} {m:Str→Option Value}
  (hk:scope.kind = .function) (hcell:∀ y∈scope.names,y.2 ≠ .cell) (hcap:Cap X scope src N')
  (a:∀ x c,cl.lookup x=some c→X.env.cells.lookup x=some c) (b:∀ x,(x,NameKind.free)∈scope.names→∃ c,cl.lookup x=some c)
  (I:Inv X pins σ H s) (hf:∀ b∈fp,Xr X pins H b) (hfl:∀ b∈fp,b<s.heap.objs.size) (es':s'={ s with heap:=h',toks:=tk })
  (keep:∀ b o,s.heap.get? b=some o→h'.get? b=some o) (hn:h'.Ns s.heap.objs.size m) :
  Inv (cxC X scope N' cl s.heap.objs.size s H fp (X.pn++pins)) [] (Yz src σ) H s':=by
 subst es'
 have kindOf:∀ x,(compEnvC scope cl s.heap.objs.size X.env).kindOf x=(scope.names.lookup x).map fun k=>if (k==NameKind.free&&X.env.scope.kind == .function&&X.env.kindOf x==some .cell) then NameKind.cell else k:=fun x=>Wq X.env x
 have freeOf:∀ x,((compEnvC scope cl s.heap.objs.size X.env).kindOf x=some .cell∨(compEnvC scope cl s.heap.objs.size X.env).kindOf x=some .free)→scope.names.lookup x=some .free:=fun x h=>by
  rw [kindOf] at h
  cases q:scope.names.lookup x with
  | none=>rw [q] at h;simp at h
  | some k =>
   rw [q] at h
   by_cases hkf:k=NameKind.free
   ·rw [hkf]
   ·have hkf':(k==NameKind.free)=false:=by simpa using hkf
    simp only [Option.map_some,hkf',Bool.false_and,Bool.false_eq_true,if_false] at h
    rcases h with h | h
    ·exact absurd (Option.some.inj h) (hcell _ (PySem.mem_of_lookup q))
    ·exact absurd (Option.some.inj h) hkf
 refine ⟨⟨I.ok.mod,hk,I.ok.glob,I.ok.blt,Nat.le_refl _,fun x y c h1 h2=>I.ok.inj x y c (a x c h1) (a y c h2),fun x hx=>b x (Wf (freeOf x hx)),(fun x c z _=>nomatch z),I.ok.hd,I.ok.frames,.inl rfl,fun b' hb=>?_,I.bs,Nat.le_trans I.ok.bsz I.sz,fun b' o e hb=>?_,fun b' hb z=>?_,I.stack,I.stkFree⟩,
  rfl,I.bare,Un.kept keep,⟨m,hn,fun j x v h1 h2 h3=>?_⟩,fun x c h=>?_,I.hok.fresh (Nat.le_refl _),fun x c h=>I.freeC x c (a x c h),fun p hp=>?_,I.hok.kept keep,?_⟩
 ·obtain ⟨f0,f1,f2,f3,f4,f5⟩:=hf b' hb
  exact ⟨Nat.ne_of_lt (hfl b' hb),fun x c h=>f4 x c (a x c h)⟩
 ·obtain ⟨f0,f1,f2,f3,f4,f5⟩:=hf b' hb
  rcases f3 with z | z
  ·exact I.ok.noex b' o e z
  ·exact absurd (Nat.lt_of_lt_of_le (Heap.lt_size e) (Nat.le_trans I.ok.bsz z)) (Nat.lt_irrefl _)
 ·obtain ⟨f0,f1,f2,f3,f4,f5⟩:=hf b' hb
  rcases List.mem_cons.mp (I.stkSub b' z) with e | e
  ·exact f1 e
  ·exact f2 e
 ·obtain ⟨i,e1,e2,e3,e4⟩:=hcap.get j x v h1 h2
  obtain ⟨m0,hn0,hl⟩:=I.loc
  obtain ⟨u,r,l⟩:=hl i x v e1 e2 (by rcases e4 with e4 | e4;exact .inr (.inl e4);exact .inr (.inr e4))
  refine ⟨u,r,?_⟩
  rcases l with ⟨l,_⟩ | ⟨k,c,e,z⟩
  ·have l':X.env.scope.names.lookup x=some NameKind.local:=l
   rcases e4 with e4 | e4<;>(rw [e4] at l';cases l')
  ·refine .inr ⟨?_,?_⟩
   ·show (compEnvC scope cl s.heap.objs.size X.env).kindOf x=some .cell∨(compEnvC scope cl s.heap.objs.size X.env).kindOf x=some .free
    rw [kindOf,e3]
    simp only [Option.map_some]
    split
    ·exact .inl rfl
    ·exact .inr rfl
   ·obtain ⟨c',hc'⟩:=b x (Wf e3)
    have:=a x c' hc'
    rw [e] at this
    cases this
    obtain ⟨o,ho,hd⟩:=z
    exact ⟨c,hc',o,keep _ _ ho,hd⟩
 ·obtain ⟨v,o,ho,hd⟩:=I.cell x c (a x c h)
  exact ⟨v,o,keep _ _ ho,hd⟩
 ·have hp':p∈X.pn++pins:=by simpa [cxC] using hp
  obtain ⟨e,n,ne,nf,d⟩:=I.pin p hp'
  refine ⟨keep _ _ e,n,Nat.ne_of_lt (Heap.lt_size e),fun z=>?_,d⟩
  rcases List.mem_cons.mp (I.stkSub p.1 z) with q | q
  ·exact ne q
  ·exact nf q
 ·show (Yz src σ).length=N'.length
  rw [← hcap.length]
  simp [Yz]
end
end L2
namespace L2
open PySem PySem.Spec PyProof.Rows
section
variable {prog:Program} {w:World} {A:Around} {R:Result→Shared→Prop} {s:Shared}
theorem VU {elt tg iter:Expr} {ifs:List Expr} {scope:Scope} {pos:Pos} {it acc:Value} {env:Env} (J:Nat→Shared→Prop)
  (turn:∀ n s,J n s→wpAny (model prog w) A (pyNext it) (fun r s₁=>match r with
    | none=>R (.ok .next) s₁
    | some v=>wpAny (model prog w) A (letOwnedTupleGo tg it v) (fun _ z₁=>wpAny (model prog w) A (assign tg env v) (fun _ s₂ =>
      wpAny (model prog w) A (forIn ifs true fun c r=>if r=true then do let ok ← isTrue c env (eval c env);pure (ForInStep.yield ok) else pure (ForInStep.yield r))
       (fun ok s₃=>if ok=true then wpAny (model prog w) A (eval elt env) (fun x s₄=>wpAny (model prog w) A (call (.builtin "list.append") [acc,x]) (fun _ s₅=>∃ m,m<n∧J m s₅) (fun _ _=>False) s₄) (fun _ _=>False) s₃
        else ∃ m,m<n∧J m s₃) (fun _ _=>False) s₂) (fun _ _=>False) z₁) (fun _ _=>False) s₁) (fun _ _=>False) s)
  (n:Nat) (h:J n s):codeAny (model prog w) A (.compLoop (.ListComp elt [⟨tg,iter,ifs,0⟩] scope pos) 0 it acc env) R s:=by
 refine codeAny_loop rfl J (fun n s hJ=>?_) n h
 show wpAny _ A (Sem.onRaise (compTurn (.ListComp elt [⟨tg,iter,ifs,0⟩] scope pos) 0 it acc env) (fun x=>do noteFrame x env;theTreesLotGoes x)) _ _ s
 refine wpAny_noted ?_
 rw [compTurn_list]
 have no:∀ {E:Value→Shared→Prop},∀ (e:Value) (s':Shared),False→E e s':=fun _ _ f=>f.elim
 refine wpAny_bind (wpAny_standAt (wpAny_bind (wpAny_mono (turn n s hJ) (fun r s₁ h₁=>?_) no)))
 cases r with
 | none=>exact wpAny_pure h₁
 | some v =>
  refine wpAny_bind (wpAny_mono h₁ (fun _ z₁ hz=>?_) no)
  refine wpAny_bind (wpAny_mono hz (fun _ s₂ h₂=>wpAny_bind (wpAny_mono h₂ (fun ok s₃ h₃=>?_) no)) no)
  cases ok with
  | false=>exact wpAny_pure ⟨rfl,h₃⟩
  | true =>
   exact wpAny_bind (wpAny_bind (wpAny_mono h₃ (fun x s₄ h₄=>wpAny_bind (wpAny_mono h₄ (fun _ s₅ h₅=>wpAny_pure (wpAny_pure ⟨rfl,h₅⟩)) no)) no))
end
def PTs (X:Cx) (ifs:List Expr) (t:TT):Prop :=
 ∀ (pins:List (Addr×Obj)) (s:Shared) (σ:St) (H:Hp) (Q:Bool→Hp→Prop),Inv X pins σ H s→t σ H Q →
  wpAny (model X.prog X.w) X.A (forIn ifs true fun c r=>if r=true then do let ok ← isTrue c X.env (eval c X.env);pure (ForInStep.yield ok) else pure (ForInStep.yield r)) (TP X pins σ Q) X.xe s
def Xt:TT:=fun _ H Q=>Q true H
theorem Y3 {X:Cx}:PTs X [] Xt:=fun _ _ _ H _ I h=>wpAny_tests_nil ⟨H,I,h⟩
theorem QC {X:Cx} {c:Expr} {t:TT} (h:PT X c t):PTs X [c] t:=fun pins s σ H Q I q=>wpAny_tests_one (h pins s σ H Q I q)
def LC (src:List (Option Nat)) (J:It) (g:TG) (tt:TT) (te:TE) (σ:St) (H1:Hp) (Q:VK) (D:Addr):Prop:=∃ W:Nat→Nat→List V→St→Hp→Prop,(∃ m,W 0 m [] (Yz src σ) (upd H1 D (.lst []))) ∧
 ∀ i m ys σ' H2,W i m ys σ' H2→H2 D=some (.lst ys)∧((J.stop i H2∧Q (.ref D) H2)∨(J.go i H2∧∃ N:List V→St→Hp→Prop,(∀ ys' σ3 H3,N ys' σ3 H3→∃ m',m'<m∧W (i+1) m' ys' σ3 H3)∧∀ x H3,J.yld i H2 x H3→g x σ' H3 fun σ2 H4=>tt σ2 H4 fun b H5 =>
  if b=true then te σ2 H5 fun y H6=>H6 D=some (.lst ys)∧ys.length<sizeLine∧N (ys++[y]) σ2 (upd H6 D (.lst (ys++[y])))
  else N ys σ2 H5))
def tLC (src:List (Option Nat)) (wi:TI) (g:TG) (tt:TT) (te:TE):TE:=fun σ H Q=>wi σ H fun J H1=>∀ D,H1 D=none→LC src J g tt te σ H1 Q D
section
variable {X:Cx}
theorem X3 {elt tg iter:Expr} {ifs:List Expr} {scope:Scope} {pos:Pos} {src:List (Option Nat)} {N':List Str} {wi:TI} {g:TG} {tt:TT} {te:TE} (hcap:Cap X scope src N') (hc:X.calm=true) (hi:PI X tg iter wi)
  (hg:∀ cl C s₀ H₀ fp pn,PG (cxC X scope N' cl C s₀ H₀ fp pn) tg g) (ht:∀ cl C s₀ H₀ fp pn,PTs (cxC X scope N' cl C s₀ H₀ fp pn) ifs tt) (he:∀ cl C s₀ H₀ fp pn,PE (cxC X scope N' cl C s₀ H₀ fp pn) elt te)
  (hfree:∀ x,(x,NameKind.free)∈scope.names→X.env.scope.names.lookup x=some NameKind.cell∨X.env.scope.names.lookup x=some NameKind.free)
  (hk:scope.kind = .function) (hcell:∀ y∈scope.names,y.2 ≠ .cell) (hnames:∀ y∈scope.names,y.2 = .local→scope.names.lookup y.1=some .local)
  (hs:∀ x,foldedSetIterable iter X.env x=pure x):PE X (.ListComp elt [⟨tg,iter,ifs,0⟩] scope pos) (tLC src wi g tt te):=by
 intro pins s σ H Q I h
 have no:∀ {E:Value→Shared→Prop},∀ (e:Value) (s':Shared),False→E e s':=fun _ _ f=>f.elim
 obtain ⟨cl,hcl,a,b⟩:=Vk X.env scope fun x hx=>I.ok.has x (hfree x hx)
 rw [eval_ListComp]
 refine wpAny_comprehension_free (use:=none) rfl hs hcl hk hnames (thn (hi pins s σ H _ I h) fun v s1 h1=>thn h1 fun itv s2 h2=>?_)
 obtain ⟨it,fp,tn,J,H2,e,I2,T,st2,f2,q⟩:=h2
 subst e
 have hD:H2 s2.heap.objs.size=none:=I2.hok.fresh (Nat.le_refl _)
 obtain ⟨W,⟨m0,w0⟩,turn⟩:=q s2.heap.objs.size hD
 have I3:=I2.lnew (t':=s2.toks) (ys:=[]) (its:=[]) .nil (Nat.zero_le _)
 have fl2:∀ b∈fp,b<s2.heap.objs.size:=fun b hb=>by
  obtain ⟨o,e,_⟩:=T.obj _ _ st2 b hb
  exact Heap.lt_size e
 refine wpAny_newObj_type ?_
 generalize es3:({ s2 with heap:=s2.heap.push { cls := .type "list",dict:=none,data := .seq ([]:List Value).toArray } }:Shared)=s3
 have I3':Inv X pins σ (upd H2 s2.heap.objs.size (.lst [])) s3:=es3▸I3
 have keep3:∀ b o,s2.heap.get? b=some o→s3.heap.get? b=some o:=fun b o e=>by rw [← es3];exact Heap.get?_push_of_some _ e
 have st3:tn 0 s3.heap:=T.keep _ _ _ st2 fun b _ o e=>keep3 b o e
 have fl3:∀ b∈fp,b<s3.heap.objs.size:=fun b hb=>by
  obtain ⟨o,e,_⟩:=T.obj _ _ st3 b hb
  exact Heap.lt_size e
 have f3:∀ b∈fp,Xr X pins (upd H2 s2.heap.objs.size (.lst [])) b:=fun b hb=>⟨by rw [Yl (Nat.ne_of_lt (fl2 b hb))];exact (f2 b hb).1,(f2 b hb).2⟩
 generalize eD:s2.heap.objs.size=D at *
 generalize eH3:upd H2 D (.lst [])=H3 at *
 refine wpAny_newFunctionEnv hcell (by intro y hy;simp at hy) (fun h₁ hns₁ hsb₁=>?_) hk
 have keep4:∀ b o,s3.heap.get? b=some o→h₁.get? b=some o:=fun b o e=>hsb₁.extBut b o (Nat.ne_of_lt (Heap.lt_size e)) (Heap.get?_push_of_some _ e)
 have I4:=UF (N':=N') (src:=src) (tk:=s3.toks+([]:List (Str×Value)).length) hk hcell hcap a b I3' f3 fl3 rfl keep4 hns₁
 -- the iterator's objects,through the block
 have stat:∀ {H':Hp},(∀ b∈fp,H' b=none)→∀ b∈fp,Xr (cxC X scope N' cl s3.heap.objs.size s3 H3 fp (X.pn++pins)) [] H' b:=fun hn b' hb=>by
  obtain ⟨f0,f1,fs,fe,f4,f5⟩:=f3 b' hb
  refine ⟨hn b' hb,Nat.ne_of_lt (fl3 b' hb),fun z=>?_,.inl hb,fun x c h=>f4 x c (a x c h),fun p hp=>f5 p (by simpa [cxC] using hp)⟩
  rcases List.mem_cons.mp (I3'.stkSub b' z) with e | e
  ·exact f1 e
  ·exact fs e
 -- behind the block
 have fin:∀ {H':Hp} {s':Shared} {σ':St} {pins':List (Addr×Obj)},Inv (cxC X scope N' cl s3.heap.objs.size s3 H3 fp (X.pn++pins)) pins' σ' H' s'→∀ h',Heap.SameBut s3.heap.objs.size s'.heap h'→Inv X pins σ H' { s' with heap:=h' }:=fun {H' s' σ' pins'} J' h' sb=>by
  have same:∀ b o,b≠s3.heap.objs.size→s'.heap.get? b=some o→h'.get? b=some o:=fun b o hb e=>sb.extBut b o hb e
  have u:Un (frs X.stack) fp H3 H' s3.heap s'.heap:=J'.base
  refine I3'.call' (s':={ s' with heap:=h' }) (ch:=fp) J'.os ⟨fun b o e n hb hx=>?_,fun b o e n hb hx=>?_,u.free,fun b o e hx=>?_,u.tups,u.frzs,u.tbls⟩ (fun b o e=>?_) J'.bare fun b hb=>?_
  ·exact same b o (Nat.ne_of_lt (Heap.lt_size e)) (u.keep b o e n hb hx)
  ·obtain ⟨sl,z⟩:=u.slot b o e n hb hx
   exact ⟨sl,same b _ (Nat.ne_of_lt (Heap.lt_size e)) z⟩
  ·obtain ⟨o',z⟩:=u.there b o e hx
   exact ⟨o',same b o' (Nat.ne_of_lt (Heap.lt_size e)) z⟩
  ·have nC:∀ c v,H' c=some v→c≠s3.heap.objs.size:=fun c v z q=>by
    have:=J'.free
    rw [show (cxC X scope N' cl s3.heap.objs.size s3 H3 fp (X.pn++pins)).env.locals=s3.heap.objs.size from rfl,← q,z] at this
    cases this
   refine (J'.hok b o e).stay (fun c v hc q=>same c v ?_ q) (fun _ q=>q) fun _ _ q=>q
   rcases hc with z | z
   ·rw [z];exact nC b o e
   ·exact nC c _ z
  ·obtain ⟨f0,f1,fs,fe,f4,f5⟩:=f3 b hb
   exact ⟨fe,f1,f4,f5⟩
 have loop:codeAny (model X.prog X.w) X.A (.compLoop (.ListComp elt [⟨tg,iter,ifs,0⟩] scope pos) 0 (.ref it) (.ref D) (compEnvC scope cl s3.heap.objs.size X.env))
   (compPost (model X.prog X.w) X.A X.xe none (EP X pins σ Q) (.ref D) s3.heap.objs.size) { s3 with heap:=h₁,toks:=s3.toks+([]:List (Str×Value)).length }:=by
  refine VU (fun n s'=>∃ i ys σ' H',Inv (cxC X scope N' cl s3.heap.objs.size s3 H3 fp (X.pn++pins)) [] σ' H' s'∧tn i s'.heap∧(∀ b∈fp,H' b=none)∧W i n ys σ' H') ?_ m0 ⟨0,[],Yz src σ,H3,I4,T.keep _ _ _ st3 fun b _ o e=>keep4 b o e,fun b hb=>(f3 b hb).1,w0⟩
  rintro n s5 ⟨i,ys,σ5,H5,I5,st5,fr5,w5⟩
  obtain ⟨hDs,stop | go⟩:=turn i n ys σ5 H5 w5
  ·obtain ⟨stop,qn⟩:=stop
   refine thn (T.done (cxC X scope N' cl s3.heap.objs.size s3 H3 fp (X.pn++pins)) rfl rfl rfl hc i [] s5 σ5 H5 _ I5 (stat fr5) st5 stop) fun r s6 ⟨hr,I6⟩=>?_
   subst hr
   obtain ⟨m,hn,_⟩:=id I6.loc
   exact ⟨m,hn,fun h' sb=>⟨.ref D,H5,fin I6 h' sb,rfl,qn⟩⟩
  ·obtain ⟨go,N,hN,step⟩:=go
   refine thn (T.item (cxC X scope N' cl s3.heap.objs.size s3 H3 fp (X.pn++pins)) rfl rfl rfl hc i [] s5 σ5 H5 _ I5 (stat fr5) st5 go) fun r s6 ⟨u,hr,h6⟩=>?_
   subst hr
   refine thn h6 fun _ s7 ⟨x,H7,I7,r7,y7,st7,fr7⟩=>?_
   have I7':=I7.pinned (stat fr7) (T.obj _ _ st7)
   have again:∀ {s8:Shared} {σ8:St} {H8:Hp} {ys':List V},Inv (cxC X scope N' cl s3.heap.objs.size s3 H3 fp (X.pn++pins)) ([]++Wn fp s7.heap) σ8 H8 s8→(∃ m',m'<n∧W (i+1) m' ys' σ8 H8) →
     ∃ m,m<n∧∃ i ys σ' H',Inv (cxC X scope N' cl s3.heap.objs.size s3 H3 fp (X.pn++pins)) [] σ' H' s8∧tn i s8.heap∧(∀ b∈fp,H' b=none)∧W i m ys σ' H':=fun {s8 σ8 H8 ys'} I8 ⟨m',hm,w8⟩=>by
    refine ⟨m',hm,i+1,ys',σ8,H8,I8.unpinned,T.keep _ _ _ st7 fun b hb o e=>(I8.pin (b,o) (List.mem_append_right _ (List.mem_append_right _ (Y5 hb e)))).1,fun b hb=>?_,w8⟩
    obtain ⟨o,e,d⟩:=T.obj _ _ st7 b hb
    exact (I8.pin (b,o) (List.mem_append_right _ (List.mem_append_right _ (Y5 hb e)))).2.1
   refine thn (hg cl _ s3 H3 fp _ _ s7 σ5 H7 x u _ I7' r7 (step x H7 y7)) fun _ s8 ⟨σ8,H8,I8,q8⟩=>?_
   refine thn (ht cl _ s3 H3 fp _ _ s8 σ8 H8 _ I8 q8) fun ok s9 ⟨H9,I9,q9⟩=>?_
   cases ok with
   | false=>exact again I9 (hN _ _ _ q9)
   | true =>
    rw [if_pos rfl]
    refine thn (he cl _ s3 H3 fp _ _ s9 σ8 H9 _ I9 q9) fun y s10 ⟨yv,H10,I10,r10,q10⟩=>?_
    obtain ⟨hDy,hlen,w10⟩:=q10
    refine thn (YY (X:=cxC X scope N' cl s3.heap.objs.size s3 H3 fp (X.pn++pins)) _ s10 σ8 H10 (.ref D) [yv] (.ref D) [y] (fun _ H'=>H'=upd H10 D (.lst (ys++[yv]))) I10 rfl (.cons r10 .nil) ⟨D,ys,yv,rfl,rfl,hDy,hlen,rfl⟩) fun _ s11 ⟨_,H11,I11,_,e11⟩=>?_
    subst e11
    exact again I11 (hN _ _ _ w10)
 exact codeAny_compStart_list loop (T.self _ 0 _ _ _ (T.keep _ _ _ st3 fun b _ o e=>keep4 b o e) loop)
end
end L2
namespace L2
open PySem PySem.Spec PyProof.Rows
section
variable {X:Cx}
def Its (x:Str):It:=⟨fun i _=>i<x.length,fun i H v H'=>H'=H∧∃ c,x.cps.toList[i]?=some c∧v = .str ⟨#[c]⟩,fun i _=>x.length≤i⟩
theorem Ybm {P:Program} {w:World} {K:PySem.W.Frag} {tg:Expr} (x:Str) (t:Tok) (it:Addr):Turn P w K tg (Its x) [it] it (fun i h=>h.IsStrIter it "str_ascii_iterator" x t i∨h.IsStrIter it "str_iterator" x t i) where
 mem:=by simp
 obj:=fun i h st b hb=>by
  have e:b=it:=by simpa using hb
  subst e
  rcases st with ⟨o,e,c,d⟩ | ⟨o,e,c,d⟩<;>exact ⟨o,e,fun v z=>by rw [d] at z;cases z⟩
 keep:=fun i h h' st k=>by
  rcases st with ⟨o,e,c⟩ | ⟨o,e,c⟩
  ·exact .inl ⟨o,k it (by simp) o e,c⟩
  ·exact .inr ⟨o,k it (by simp) o e,c⟩
 item:=by
  intro X hP hw hK hc i pins s σ H E I hf st hg
  subst hP hw hK
  have hi:i<x.cps.size:=hg
  have hx:x.cps[i]?=some x.cps[i]:=by simp [hi]
  obtain ⟨f0,f1,f2,f3,f4,f5⟩:=hf it (by simp)
  have fin:∀ (ty:String) (h':Heap),["enumerate","zip","dict_itemiterator","dict_reverseitemiterator","odict_iterator","itertools.zip_longest","itertools.pairwise"].contains ty=false→h'.IsStrIter it ty x t (i+1)→Heap.SameBut it s.heap h' →
    (h'.IsStrIter it ty x t (i+1)→(h'.IsStrIter it "str_ascii_iterator" x t (i+1)∨h'.IsStrIter it "str_iterator" x t (i+1))) →
    ∃ u,some (Value.str ⟨#[x.cps[i]]⟩ s.toks)=some u∧wpAny (model X.prog X.w) X.A (letOwnedTupleGo tg (.ref it) u) (fun _ s2=>∃ y H',Inv X pins σ H' s2∧Ys y u∧(Its x).yld i H y H' ∧
     (s2.heap.IsStrIter it "str_ascii_iterator" x t (i+1)∨s2.heap.IsStrIter it "str_iterator" x t (i+1))∧∀ b∈[it],H' b=none) E { s with heap:=h',toks:=s.toks+1 }:=fun ty h' hn st' sb hor=>by
   have I1:Inv X pins σ H { s with heap:=h',toks:=s.toks+1 }:=I.turned (t':=s.toks+1) (fun b o hb e=>(sb.2 b hb).trans e) f0 f1 f3 f4 f5
   obtain ⟨o,e,c,d⟩:=id st'
   exact ⟨_,rfl,QX (s:={ s with heap:=h',toks:=s.toks+1 }) e c d hn ⟨.str ⟨#[x.cps[i]]⟩,H,I1,⟨_,rfl⟩,⟨rfl,x.cps[i],by simp [hi],rfl⟩,hor st',fun b hb=>(hf b hb).1⟩⟩
  rcases st with st | st
  ·exact wpAny_pyNext_ascii_item st hx fun h' st' sb=>fin _ h' (by decide) st' sb .inl
  ·exact wpAny_pyNext_wide_item st hx fun h' st' sb=>fin _ h' (by decide) st' sb .inr
 done:=by
  intro X hP hw hK hc i pins s σ H E I hf st hg
  subst hP hw hK
  have hi:x.cps.size≤i:=hg
  have hx:x.cps[i]?=none:=by simp [hi]
  obtain ⟨f0,f1,f2,f3,f4,f5⟩:=hf it (by simp)
  rcases st with st | st
  ·exact wpAny_pyNext_ascii_end (I.ok.hd hc) st hx fun h' eb=>⟨rfl,I.turned (t':=s.toks) (fun b o hb e=>eb b o hb e) f0 f1 f3 f4 f5⟩
  ·exact wpAny_pyNext_wide_end (I.ok.hd hc) st hx fun h' eb=>⟨rfl,I.turned (t':=s.toks) (fun b o hb e=>eb b o hb e) f0 f1 f3 f4 f5⟩
 self:=fun A i s Q E st h=>by
  rcases st with st | st
  ·exact wpAny_pyIter_slot st.typeIs F.slot_str_ascii_iterator_iter (wpAny_call_entry F.slot_str_ascii_iterator_iter st.typeIs F.entry_str_ascii_iterator_iter (wpAny_pure ⟨_,rfl,"str_ascii_iterator",_,st.typeIs,F.slot_str_ascii_iterator_next.lookup,h⟩) (F.args_str_ascii_iterator_iter_1 _))
  ·exact wpAny_pyIter_slot st.typeIs F.slot_str_iterator_iter (wpAny_call_entry F.slot_str_iterator_iter st.typeIs F.entry_str_iterator_iter (wpAny_pure ⟨_,rfl,"str_iterator",_,st.typeIs,F.slot_str_iterator_next.lookup,h⟩) (F.args_str_iterator_iter_1 _))
end
end L2
namespace L2
open PySem PySem.Spec PyProof.Rows
section
variable {X:Cx} {tg:Expr}
def iStr (tl:TE):TI:=fun σ H R=>tl σ H fun x H1=>∃ z,x = .str z∧R (Its z) H1
theorem YaK {l:Expr} {tl:TE} (hl:PE X l tl):PI X tg l (iStr tl):=by
 intro pins s σ H R I h
 refine thn (hl pins s σ H _ I h) fun v s1 ⟨x,H1,I1,r1,q1⟩=>?_
 obtain ⟨z,e,q⟩:=q1
 subst e
 obtain ⟨t,rfl⟩:=r1
 refine wpAny_pyIter_strU ?_
 refine ⟨s1.heap.objs.size,[s1.heap.objs.size],_,_,H1,rfl,I1.kept (t':=s1.toks) fun b o e=>Heap.get?_push_of_some _ e,Ybm z t _,?_,fun b hb=>?_,q⟩
 ·unfold strIterType
  split
  ·exact .inl ⟨_,Heap.get?_push_size _ rfl,rfl,rfl⟩
  ·exact .inr ⟨_,Heap.get?_push_size _ rfl,rfl,rfl⟩
 ·have e:b=s1.heap.objs.size:=by simpa using hb
  subst e
  exact I1.fpOk (Nat.le_refl _) (I1.hok.fresh (Nat.le_refl _))
def XQ (J:It) (P:Hp→Prop) (xs:List V):Prop:=∀ H,P H→∀ i,(∀ x,xs[i]?=some x→J.go i H∧∀ y H',J.yld i H y H'→H'=H∧y=x)∧(xs.length≤i→J.stop i H)
theorem YaL (z:Str) (P:Hp→Prop):XQ (Its z) P (z.cps.toList.map fun c => .str ⟨#[c]⟩):=fun H _ i=>by
 refine ⟨fun x hx=>?_,fun hi=>?_⟩
 ·rw [List.getElem?_map] at hx
  cases e:z.cps.toList[i]? with
  | none=>rw [e] at hx;simp at hx
  | some c =>
   rw [e] at hx
   have hx':V.str ⟨#[c]⟩=x:=by simpa using hx
   subst hx'
   have hi:i<z.cps.toList.length:=(List.getElem?_eq_some_iff.mp e).1
   refine ⟨by show i<z.cps.size;simpa using hi,fun y H' ⟨e1,c',e2,e3⟩=>⟨e1,?_⟩⟩
   rw [e] at e2
   cases e2
   exact e3
 ·show z.cps.size≤i
  simpa using hi
theorem XC {K:PySem.W.Frag} {a:Addr} {xs:List V}:XQ (Itl K a) (fun H=>SqL K H a xs) xs:=fun H hq i=>by
 refine ⟨fun x hx=>⟨⟨xs,x,hq,hx⟩,fun y H' ⟨e1,e2⟩=>⟨e1,?_⟩⟩,fun hi=>⟨xs,hq,hi⟩⟩
 have:=e2 xs hq
 rw [hx] at this
 exact (Option.some.inj this).symm
theorem XQ.imp {J:It} {P P':Hp→Prop} {xs:List V} (h:XQ J P xs) (hp:∀ H,P' H→P H):XQ J P' xs:=fun H q=>h H (hp H q)
theorem YbT {J:It} {P:Hp→Prop} {xs:List V} (hJ:XQ J P xs) {src:List (Option Nat)} {g:TG} {tt:TT} {te:TE} {σ:St} {H1:Hp} {Q:VK} {D:Addr} (Pv:Nat→List V→St→Hp→Prop)
  (h0:Pv 0 [] (Yz src σ) (upd H1 D (.lst []))) (hP:∀ i ys σ' H',Pv i ys σ' H'→P H'∧H' D=some (.lst ys))
  (step:∀ i ys σ' H' x,xs[i]?=some x→Pv i ys σ' H'→g x σ' H' fun σ2 H4=>tt σ2 H4 fun b H5=>if b=true then te σ2 H5 fun y H6=>H6 D=some (.lst ys)∧ys.length<sizeLine∧Pv (i+1) (ys++[y]) σ2 (upd H6 D (.lst (ys++[y]))) else Pv (i+1) ys σ2 H5)
  (fin:∀ ys σ' H',Pv xs.length ys σ' H'→Q (.ref D) H') :
  LC src J g tt te σ H1 Q D:=by
 refine ⟨fun i m ys σ' H'=>m=xs.length - i∧i≤xs.length∧Pv i ys σ' H',⟨xs.length,by simp,Nat.zero_le _,h0⟩,?_⟩
 rintro i m ys σ' H2 ⟨rfl,hi,p⟩
 obtain ⟨hp,hD⟩:=hP i ys σ' H2 p
 refine ⟨hD,?_⟩
 by_cases hlt:i<xs.length
 ·obtain ⟨go,yl⟩:=(hJ H2 hp i).1 xs[i] (by simp [hlt])
  refine .inr ⟨go,fun ys' σ3 H3=>Pv (i+1) ys' σ3 H3,fun ys' σ3 H3 p'=>⟨xs.length - (i+1),by omega,rfl,hlt,p'⟩,fun x H3 y=>?_⟩
  obtain ⟨e1,e2⟩:=yl x H3 y
  subst e1 e2
  exact step i ys σ' _ _ (by simp [hlt]) p
 ·have e:i=xs.length:=by omega
  subst e
  exact .inl ⟨(hJ H2 hp _).2 (Nat.le_refl _),fin ys σ' H2 p⟩
theorem Yc.upd_new {H:Hp} {p:Addr} (h:H p=none) (o:HO):Yc H (upd H p o):=fun b u q=>by rw [Yl (Y0 q h)];exact q
theorem Yc.upd_over {H H':Hp} {p:Addr} (h:H p=none) (e:Yc H H') (o:HO):Yc H (upd H' p o):=fun b u q=>by rw [Yl (Y0 q h)];exact e b u q
theorem Yc.tup {K:PySem.W.Frag} {H H':Hp} {a:Addr} {xs:List V} (e:Yc H H') (h:SqT K H a xs):SqT K H' a xs:=by
 rcases h with (h | ⟨o,h⟩) | h
 ·exact .inl (.inl (e _ _ h))
 ·exact .inl (.inr ⟨o,e _ _ h⟩)
 ·exact .inr h
end
section
variable {X:Cx}
theorem UG:∀ {bs:List Bool} {us:List Value},Yn (bs.map V.bl) us→LSm.BoolsAre us bs
 | [],_,h=>by rw [Yn.zero h];exact .nil
 | b::bs,us,h=>by
  have h':Yn (V.bl b::bs.map V.bl) us:=h
  cases h' with
  | cons r t=>cases (show _=Value.bool b from r);exact .cons b (UG t)
theorem Xo (hc:X.calm=true):Xn X (.builtin "all") (fun xs H Q=>∃ (p:Addr) (bs:List Bool),xs=[.ref p]∧SqL X.K H p (bs.map V.bl)∧Q (.bl (bs.all id)) H):=by
 intro pins s σ H xs us Q I r h
 obtain ⟨p,bs,rfl,hq,q⟩:=h
 obtain ⟨u,rfl,rx⟩:=XA r
 cases rx
 obtain ⟨its,r',pl,hz⟩:=I.list hq
 have hb:=UG r'
 have hl:=pl.isList
 have hlt:p<s.heap.objs.size:=by obtain ⟨_,e,_⟩:=hl;exact Heap.lt_size e
 refine call_all_walk (wpAny_pyIter_list hl ?_)
 refine ⟨s.heap.objs.size,[s.heap.objs.size,p],[s.heap.objs.size],its.toArray.size,_,_,fun i=>(bs[i]?).getD true,rfl,Walks.list (A:=X.A.in1) (I.ok.hd hc) _ p (Nat.ne_of_lt hlt) its.toArray,
  ⟨⟨_,Heap.get?_push_size _ rfl,rfl,rfl⟩,hl.push _⟩,fun i v s' Q' E' hP hQ=>?_,fun h' tk hk=>?_⟩
 ·obtain ⟨b,e,rfl⟩:=hb.get i v (by simpa using hP)
  simp only [e,Option.getD_some] at hQ
  exact wpAny_truthy_bool hQ
 ·have e:((List.range its.toArray.size).all fun i=>(bs[i]?).getD true)=bs.all id:=by
   rw [List.size_toArray,hb.length];exact LSm.range_all bs
  rw [e]
  exact ⟨.bl _,H,I.kept (t':=tk) (LSm.kept_iter hk),rfl,q⟩
def Q5:V→Option Value
 | .ty n=>some (.type n)
 | .ref a=>some (.ref a)
 | _=>none
theorem YR:Xn X (.builtin "isinstance") (fun xs H Q=>∃ x c cv t b,xs=[x,c]∧Q5 c=some cv∧TyOf X.K H x t∧PySem.W.kitOne X.K t cv=some b∧Q (.bl b) H):=by
 intro pins s σ H xs us Q I r h
 obtain ⟨x,c,cv,t,b,rfl,ec,ty,e,q⟩:=h
 obtain ⟨u,w',rfl,ru,rw'⟩:=Q2 r
 have ew:w'=cv:=by
  cases c with
  | ty n=>cases (show w'=Value.type n from rw');simpa [Q5] using ec
  | ref a=>cases (show w'=Value.ref a from rw');simpa [Q5] using ec
  | _=>simp [Q5] at ec
 subst ew
 exact YaC I ru ty e fun tk=>⟨.bl b,H,I.tok tk,rfl,q⟩
end
end L2
namespace L2
open PySem PySem.Spec PyProof.Rows
structure Sub (P:Program) (w:World) (i:Addr) (St:Nat→Heap→Prop) (Ready:Heap→(Nat→Option Value)→Prop):Prop where
 obj:∀ k h,St k h→∃ o,h.get? i=some o∧∀ v,o.data ≠ .cell v
 keep:∀ k h h',St k h→(∀ o,h.get? i=some o→h'.get? i=some o)→St k h'
 item:∀ (A:Around) (k:Nat) (s:Shared) (get:Nat→Option Value) (x:Value) (Q:Value→Shared→Prop) (E:Value→Shared→Prop),St k s.heap→Ready s.heap get→get k=some x →
  (∀ h' tk,St (k+1) h'→Heap.SameBut i s.heap h'→Q x { s with heap:=h',toks:=tk })→wpAny (model P w) A (Builtin.SmallTypes.nextOf (.ref i)) Q E s
 fin:∀ (A:Around) (k:Nat) (s:Shared) (get:Nat→Option Value) (Q:Value→Shared→Prop) (E:Value→Shared→Prop),A.handled=none→St k s.heap→Ready s.heap get→get k=none →
  (∀ h' e,Heap.ExtBut i s.heap h'→(∃ o,h'.get? e=some o∧o.cls = .type "StopIteration")→E (.ref e) { s with heap:=h' })→wpAny (model P w) A (Builtin.SmallTypes.nextOf (.ref i)) Q E s
section
variable {prog:Program} {w:World} {A:Around} {E:Value→Shared→Prop} {s:Shared}
theorem W2 {it t:Addr} {i:Nat} {items:Array Value} {x:Value} {Q:Value→Shared→Prop} (hit:s.heap.IsTupleIter it t i) (ht:s.heap.IsTuple t items) (hx:items[i]?=some x)
  (hQ:∀ h',h'.IsTupleIter it t (i+1)→Heap.SameBut it s.heap h'→Q x { s with heap:=h' }):wpAny (model prog w) A (Builtin.SmallTypes.nextOf (.ref it)) Q E s:=by
 obtain ⟨o,ho,hc,hd⟩:=id hit
 obtain ⟨ol,hol,_,nl,hdl⟩:=ht
 unfold Builtin.SmallTypes.nextOf
 refine wpAny_bind (wpAny_callSpecial?_slot (name:=Str.ofString "__next__") hit.typeIs F.slot_tuple_iterator_next (wpAny_call_entry F.slot_tuple_iterator_next hit.typeIs F.entry_tuple_iterator_next ?_ (F.args_tuple_iterator_next_1 _)))
 show wpAny _ _ (field (.ref it) 0 >>= _) _ _ s
 refine wpAny_bind (wpAny_field ho hd (x := .ref t) rfl ?_)
 show wpAny _ _ (if (Value.ref t==Value.none)=true then _ else _) _ _ s
 rw [if_neg (show ¬ ((Value.ref t==Value.none)=true) from Bool.false_ne_true)]
 show wpAny _ _ (field (.ref it) 1 >>= _) _ _ s
 refine wpAny_bind (wpAny_field ho hd (x := .int i 0) rfl ?_)
 show wpAny _ _ (seqItems? (.ref t) >>= _) _ _ s
 refine wpAny_bind (wpAny_seqItems hol hdl ?_)
 simp only [Int.toNat_natCast,hx]
 refine wpAny_bind (wpAny_setField ho hd (by simp) (wpAny_pure ⟨x,rfl,wpAny_pure (hQ _ ?_ (Heap.SameBut.update ..))⟩))
 exact ⟨_,Heap.get?_update_self _ ho (Obj.isFreed_of_fields (Obj.data_mapFields hd _)),(Obj.cls_mapFields ..).trans hc,by rw [Obj.data_mapFields hd];simp [rawInt]⟩
theorem W9 {it t:Addr} {i:Nat} {items:Array Value} {Q:Value→Shared→Prop} (hh:A.handled=none) (hit:s.heap.IsTupleIter it t i) (ht:s.heap.IsTuple t items) (hx:items[i]?=none)
  (hE:∀ h' e,Heap.ExtBut it s.heap h'→(∃ o,h'.get? e=some o∧o.cls = .type "StopIteration")→E (.ref e) { s with heap:=h' }):wpAny (model prog w) A (Builtin.SmallTypes.nextOf (.ref it)) Q E s:=by
 obtain ⟨o,ho,hc,hd⟩:=id hit
 obtain ⟨ol,hol,_,nl,hdl⟩:=ht
 unfold Builtin.SmallTypes.nextOf
 refine wpAny_bind (wpAny_callSpecial?_slot (name:=Str.ofString "__next__") hit.typeIs F.slot_tuple_iterator_next (wpAny_call_entry F.slot_tuple_iterator_next hit.typeIs F.entry_tuple_iterator_next ?_ (F.args_tuple_iterator_next_1 _)))
 show wpAny _ _ (field (.ref it) 0 >>= _) _ _ s
 refine wpAny_bind (wpAny_field ho hd (x := .ref t) rfl ?_)
 show wpAny _ _ (if (Value.ref t==Value.none)=true then _ else _) _ _ s
 rw [if_neg (show ¬ ((Value.ref t==Value.none)=true) from Bool.false_ne_true)]
 show wpAny _ _ (field (.ref it) 1 >>= _) _ _ s
 refine wpAny_bind (wpAny_field ho hd (x := .int i 0) rfl ?_)
 show wpAny _ _ (seqItems? (.ref t) >>= _) _ _ s
 refine wpAny_bind (wpAny_seqItems hol hdl ?_)
 simp only [Int.toNat_natCast,hx]
 refine wpAny_bind (wpAny_rule (wpAny_bind (wpAny_setField ho hd (by simp) ?_)))
 show wpAny _ _ (newExc (.type "StopIteration") [] >>= _) _ _ _
 refine wpAny_bind ?_
 simp only [newExc,newTuple]
 refine wpAny_bind (wpAny_newObj_type ?_ (by size_fits))
 refine wpAny_bind (m:=firstArgMember _ _) (wpAny_of_eq (a:=Value.none) (by first | rfl | (simp only [firstArgMember];rfl)) ?_)
 refine wpAny_newObj_type ?_ (by size_fits)
 simp only [raiseNew]
 refine wpAny_bind (wpAny_handled ?_)
 first | rw [show A.in1.handled=none from hh] | rw [hh]
 refine wpAny_bind (wpAny_pure (wpAny_throw ?_))
 exact hE _ _ (((Heap.SameBut.update ..).extBut.push _).push _) ⟨_,Heap.get?_push_size _ rfl,rfl⟩
end
theorem Y4 {P:Program} {w:World} (i t:Addr):Sub P w i (fun k h=>h.IsTupleIter i t k) (fun h get=>∃ items:Array Value,h.IsTuple t items∧∀ k,get k=items[k]?) where
 obj:=fun k h ⟨o,e,c,d⟩=>⟨o,e,fun v z=>by rw [d] at z;cases z⟩
 keep:=fun k h h' st q=>st.at q
 item:=fun A k s get x Q E st ⟨items,ht,hg⟩ hx hQ=>W2 st ht ((hg k).symm.trans hx) fun h' st' sb=>hQ h' s.toks st' sb
 fin:=fun A k s get Q E hh st ⟨items,ht,hg⟩ hx hE=>W9 hh st ht ((hg k).symm.trans hx) hE
theorem Ybn {P:Program} {w:World} (i t:Addr):Sub P w i (fun k h=>h.IsListIter i t k) (fun h get=>∃ items:Array Value,h.IsList t items∧∀ k,get k=items[k]?) where
 obj:=fun k h ⟨o,e,c,d⟩=>⟨o,e,fun v z=>by rw [d] at z;cases z⟩
 keep:=fun k h h' st q=>st.at q
 item:=fun A k s get x Q E st ⟨items,ht,hg⟩ hx hQ=>wpAny_nextOf_list_item st ht ((hg k).symm.trans hx) fun h' st' sb=>hQ h' s.toks st' sb
 fin:=fun A k s get Q E hh st ⟨items,ht,hg⟩ hx hE=>wpAny_nextOf_list_end hh st ht ((hg k).symm.trans hx) hE
structure ZApart (z TI TO i1 i2:Addr):Prop where
 a:TI≠z
 b:TO≠z
 c:i1≠z
 d:i2≠z
 e:TI≠TO
 f:TI≠i1
 g:TI≠i2
 h:TO≠i1
 i:TO≠i2
 j:i1≠i2
section
variable {prog:Program} {w:World} {A:Around} {E:Value→Shared→Prop} {s:Shared} {z TI TO i1 i2:Addr} {S1 S2:Nat→Heap→Prop} {R1 R2:Heap→(Nat→Option Value)→Prop} {g1 g2:Nat→Option Value} {k:Nat} {a b:Value}
theorem UH {x y:Value} {Q:Option Value→Shared→Prop} (D:ZApart z TI TO i1 i2) (U1:Sub prog w i1 S1 R1) (U2:Sub prog w i2 S2 R2)
  (k1:∀ h h' g,R1 h g→(∀ c o,c≠z→c≠TO→c≠i1→c≠i2→h.get? c=some o→h'.get? c=some o)→R1 h' g) (k2:∀ h h' g,R2 h g→(∀ c o,c≠z→c≠TO→c≠i1→c≠i2→h.get? c=some o→h'.get? c=some o)→R2 h' g)
  (hz:IsZip s.heap z TI TO .none) (hTI:IsPair s.heap TI (.ref i1) (.ref i2)) (hTO:IsPair s.heap TO a b) (h1:S1 k s.heap) (h2:S2 k s.heap) (r1:R1 s.heap g1) (r2:R2 s.heap g2) (hx:g1 k=some x) (hy:g2 k=some y)
  (hQ:∀ h' tk,IsZip h' z TI TO (rawInt s.heap.objs.size)→IsPair h' TO x y→S1 (k+1) h'→S2 (k+1) h'→IsPair h' s.heap.objs.size x y→h'.objs.size=s.heap.objs.size+1 →
   (∀ c o,c≠z→c≠TO→c≠i1→c≠i2→s.heap.get? c=some o→h'.get? c=some o)→Q (some (.ref s.heap.objs.size)) { s with heap:=h',toks:=tk }) :
  wpAny (model prog w) A (pyNext (.ref z)) Q E s:=by
 have hT:s.TypeIs (.ref z) "zip":=⟨_,hz,rfl⟩
 unfold pyNext
 refine wpAny_bind (wpAny_attempt (wpAny_callSpecial?_slot (name:=Str.ofString "__next__") hT F.slot_zip_next (wpAny_call_entry F.slot_zip_next hT F.entry_zip_next ?_ (F.args_zip_next_1 _))))
 show wpAny _ _ (field (.ref z) 2 >>= _) _ _ _
 refine wpAny_bind (wpAny_field hz rfl (x := .bool false) rfl ?_)
 show wpAny _ _ (field (.ref z) 3 >>= _) _ _ _
 refine wpAny_bind (wpAny_field hz rfl (x := .ref TI) rfl ?_)
 refine wpAny_bind (wpAny_seqItems hTI rfl ?_)
 show wpAny _ _ (Builtin.SmallTypes.ownedTupleIsFree (.ref z) >>= _) _ _ _
 refine wpAny_bind ?_
 unfold Builtin.SmallTypes.ownedTupleIsFree
 refine wpAny_bind (wpAny_field hz rfl (x := .none) rfl (wpAny_pure ?_))
 simp only [if_true]
 refine wpAny_bind (wpAny_rule ?_)
 refine wpAny_bind (wpAny_field hz rfl (x := .ref TO) rfl ?_)
 refine wpAny_bind (wpAny_setField_rec hz (by simp) fun h₁ hz₁ hs₁=>?_)
 replace hz₁:IsZip h₁ z TI TO .ellipsis:=hz₁
 refine wpAny_bind ?_
 simp only [List.zipIdx_cons,List.zipIdx_nil,List.forIn_cons,List.forIn_nil]
 refine wpAny_bind (wpAny_bind (wpAny_onRaise ?_))
 show wpAny _ _ (Builtin.SmallTypes.nextOf (.ref i1) >>= _) _ _ _
 have S1₁:S1 k h₁:=U1.keep _ _ _ h1 fun o e=>hs₁.extBut _ _ D.c e
 have R1₁:R1 h₁ g1:=k1 _ _ _ r1 fun c o c1 _ _ _ e=>hs₁.extBut _ _ c1 e
 refine wpAny_bind (U1.item _ k { s with heap:=h₁ } g1 x _ _ S1₁ R1₁ hx fun h₂ tk₂ S1₂ hs₂=>wpAny_pure ?_)
 have hTO₂:IsPair h₂ TO a b:=hs₂.extBut _ _ D.h (hs₁.extBut _ _ D.b hTO)
 refine wpAny_bind (wpAny_seqItems hTO₂ rfl ?_)
 refine wpAny_bind (wpAny_updateSeq_pair hTO₂ fun h₃ hTO₃ hs₃=>?_)
 replace hTO₃:IsPair h₃ TO x b:=hTO₃
 refine wpAny_bind (wpAny_letGo (wpAny_pure ?_))
 refine wpAny_bind (wpAny_bind (wpAny_onRaise ?_))
 show wpAny _ _ (Builtin.SmallTypes.nextOf (.ref i2) >>= _) _ _ _
 have kk₃:∀ c o,c≠z→c≠TO→c≠i1→c≠i2→s.heap.get? c=some o→h₃.get? c=some o:=fun c o c1 c2 c3 c4 e=>hs₃.extBut _ _ c2 (hs₂.extBut _ _ c3 (hs₁.extBut _ _ c1 e))
 have S2₃:S2 k h₃:=U2.keep _ _ _ h2 fun o e=>hs₃.extBut _ _ D.i.symm (hs₂.extBut _ _ D.j.symm (hs₁.extBut _ _ D.d e))
 refine wpAny_bind (U2.item _ k { s with heap:=h₃,toks:=tk₂ } g2 y _ _ S2₃ (k2 _ _ _ r2 kk₃) hy fun h₄ tk₄ S2₄ hs₄=>wpAny_pure ?_)
 have hTO₄:IsPair h₄ TO x b:=hs₄.extBut _ _ D.i hTO₃
 refine wpAny_bind (wpAny_seqItems hTO₄ rfl ?_)
 refine wpAny_bind (wpAny_updateSeq_pair hTO₄ fun h₅ hTO₅ hs₅=>?_)
 replace hTO₅:IsPair h₅ TO x y:=hTO₅
 refine wpAny_bind (wpAny_letGo (wpAny_pure (wpAny_pure ?_)))
 refine wpAny_bind (wpAny_seqItems hTO₅ rfl ?_)
 refine wpAny_bind (wpAny_newTuple ?_)
 have hsz:h₅.objs.size=s.heap.objs.size:=by rw [hs₅.1,hs₄.1,hs₃.1,hs₂.1,hs₁.1]
 have hz₅:IsZip h₅ z TI TO .ellipsis:=hs₅.extBut _ _ D.b.symm (hs₄.extBut _ _ D.d.symm (hs₃.extBut _ _ D.b.symm (hs₂.extBut _ _ D.c.symm hz₁)))
 have hk₅:∀ c o,c≠z→c≠TO→c≠i1→c≠i2→s.heap.get? c=some o→h₅.get? c=some o:=fun c o c1 c2 c3 c4 e=>hs₅.extBut _ _ c2 (hs₄.extBut _ _ c4 (kk₃ c o c1 c2 c3 c4 e))
 have S1₅:S1 (k+1) h₅:=U1.keep _ _ _ S1₂ fun o e=>hs₅.extBut _ _ D.h.symm (hs₄.extBut _ _ D.j (hs₃.extBut _ _ D.h.symm e))
 have S2₅:S2 (k+1) h₅:=U2.keep _ _ _ S2₄ fun o e=>hs₅.extBut _ _ D.i.symm e
 have hzlt:z<h₅.objs.size:=Heap.lt_size hz₅
 show wpAny _ _ (Builtin.SmallTypes.ownedTupleHandOut (.ref z) (.ref h₅.objs.size) >>= _) _ _ _
 refine wpAny_bind ?_
 unfold Builtin.SmallTypes.ownedTupleHandOut
 have hz₆:IsZip (h₅.push { cls := .type "tuple",data := .seq #[x,y] }) z TI TO .ellipsis:=Heap.get?_push_of_some _ hz₅
 refine wpAny_bind (wpAny_setField_rec hz₆ (by simp) fun h₇ hz₇ hs₇=>?_)
 replace hz₇:IsZip h₇ z TI TO (rawInt h₅.objs.size):=hz₇
 refine wpAny_setField_rec hz₇ (by simp) fun h₈ hz₈ hs₈=>?_
 replace hz₈:IsZip h₈ z TI TO (rawInt h₅.objs.size):=hz₈
 have up:∀ c o,c≠z→h₅.get? c=some o→h₈.get? c=some o:=fun c o c1 e=>hs₈.extBut _ _ c1 (hs₇.extBut _ _ c1 (Heap.get?_push_of_some _ e))
 have hT₈:IsPair h₈ h₅.objs.size x y:=hs₈.extBut _ _ (Nat.ne_of_gt hzlt) (hs₇.extBut _ _ (Nat.ne_of_gt hzlt) (Heap.get?_push_size _ rfl))
 have hz8:h₈.objs.size=h₅.objs.size+1:=by rw [hs₈.1,hs₇.1,Heap.size_push]
 rw [hsz] at hz₈ hT₈ hz8
 refine wpAny_pure ⟨_,rfl,wpAny_pure ?_⟩
 show Q (some (.ref h₅.objs.size)) _
 rw [hsz]
 exact hQ h₈ tk₄ hz₈ (up _ _ D.b hTO₅) (U1.keep _ _ _ S1₅ fun o e=>up _ o D.c e) (U2.keep _ _ _ S2₅ fun o e=>up _ o D.d e) hT₈ hz8 fun c o c1 c2 c3 c4 e=>up c o c1 (hk₅ c o c1 c2 c3 c4 e)
theorem QD {Q:Option Value→Shared→Prop} (hh:A.handled=none) (D:ZApart z TI TO i1 i2) (U1:Sub prog w i1 S1 R1) (U2:Sub prog w i2 S2 R2)
  (k1:∀ h h' g,R1 h g→(∀ c o,c≠z→c≠TO→c≠i1→c≠i2→h.get? c=some o→h'.get? c=some o)→R1 h' g) (k2:∀ h h' g,R2 h g→(∀ c o,c≠z→c≠TO→c≠i1→c≠i2→h.get? c=some o→h'.get? c=some o)→R2 h' g)
  (hz:IsZip s.heap z TI TO .none) (hTI:IsPair s.heap TI (.ref i1) (.ref i2)) (hTO:IsPair s.heap TO a b) (h1:S1 k s.heap) (h2:S2 k s.heap) (r1:R1 s.heap g1) (r2:R2 s.heap g2) (hend:g1 k=none∨g2 k=none)
  (hQ:∀ h' tk,(∀ c o,c≠z→c≠TO→c≠i1→c≠i2→s.heap.get? c=some o→h'.get? c=some o)→Q none { s with heap:=h',toks:=tk }):wpAny (model prog w) A (pyNext (.ref z)) Q E s:=by
 have hT:s.TypeIs (.ref z) "zip":=⟨_,hz,rfl⟩
 unfold pyNext
 refine wpAny_bind (wpAny_attempt (wpAny_callSpecial?_slot (name:=Str.ofString "__next__") hT F.slot_zip_next (wpAny_call_entry F.slot_zip_next hT F.entry_zip_next ?_ (F.args_zip_next_1 _))))
 show wpAny _ _ (field (.ref z) 2 >>= _) _ _ _
 refine wpAny_bind (wpAny_field hz rfl (x := .bool false) rfl ?_)
 show wpAny _ _ (field (.ref z) 3 >>= _) _ _ _
 refine wpAny_bind (wpAny_field hz rfl (x := .ref TI) rfl ?_)
 refine wpAny_bind (wpAny_seqItems hTI rfl ?_)
 show wpAny _ _ (Builtin.SmallTypes.ownedTupleIsFree (.ref z) >>= _) _ _ _
 refine wpAny_bind ?_
 unfold Builtin.SmallTypes.ownedTupleIsFree
 refine wpAny_bind (wpAny_field hz rfl (x := .none) rfl (wpAny_pure ?_))
 simp only [if_true]
 refine wpAny_bind (wpAny_rule ?_)
 refine wpAny_bind (wpAny_field hz rfl (x := .ref TO) rfl ?_)
 refine wpAny_bind (wpAny_setField_rec hz (by simp) fun h₁ hz₁ hs₁=>?_)
 replace hz₁:IsZip h₁ z TI TO .ellipsis:=hz₁
 refine wpAny_bind ?_
 simp only [List.zipIdx_cons,List.zipIdx_nil,List.forIn_cons,List.forIn_nil]
 refine wpAny_bind (wpAny_bind (wpAny_onRaise ?_))
 show wpAny _ _ (Builtin.SmallTypes.nextOf (.ref i1) >>= _) _ _ _
 have S1₁:S1 k h₁:=U1.keep _ _ _ h1 fun o e=>hs₁.extBut _ _ D.c e
 have R1₁:R1 h₁ g1:=k1 _ _ _ r1 fun c o c1 _ _ _ e=>hs₁.extBut _ _ c1 e
 cases hx:g1 k with
 | none =>
  refine wpAny_bind (U1.fin _ k { s with heap:=h₁ } g1 _ _ hh S1₁ R1₁ hx fun h₂ e hs₂ he=>?_)
  obtain ⟨oe,hoe,hce⟩:=he
  have hz₂:IsZip h₂ z TI TO .ellipsis:=hs₂ _ _ D.c.symm hz₁
  have hez:e≠z:=fun x=>by subst x;rw [hz₂] at hoe;cases hoe;simp at hce
  refine wpAny_setField_rec hz₂ (by simp) fun h₃ _ hs₃=>?_
  refine wpAny_bind (wpAny_isInstance (T:="StopIteration") (b:=true) ⟨oe,hs₃.extBut _ _ hez hoe,hce⟩ isSubtype_stop ?_)
  exact wpAny_pure (hQ h₃ s.toks fun c o c1 _ c3 _ x=>hs₃.extBut _ _ c1 (hs₂ _ _ c3 (hs₁.extBut _ _ c1 x)))
 | some x =>
  have hy:g2 k=none:=by rcases hend with h | h;rw [hx] at h;cases h;exact h
  refine wpAny_bind (U1.item _ k { s with heap:=h₁ } g1 x _ _ S1₁ R1₁ hx fun h₂ tk₂ S1₂ hs₂=>wpAny_pure ?_)
  have hTO₂:IsPair h₂ TO a b:=hs₂.extBut _ _ D.h (hs₁.extBut _ _ D.b hTO)
  refine wpAny_bind (wpAny_seqItems hTO₂ rfl ?_)
  refine wpAny_bind (wpAny_updateSeq_pair hTO₂ fun h₃ hTO₃ hs₃=>?_)
  refine wpAny_bind (wpAny_letGo (wpAny_pure ?_))
  refine wpAny_bind (wpAny_bind (wpAny_onRaise ?_))
  show wpAny _ _ (Builtin.SmallTypes.nextOf (.ref i2) >>= _) _ _ _
  have kk₃:∀ c o,c≠z→c≠TO→c≠i1→c≠i2→s.heap.get? c=some o→h₃.get? c=some o:=fun c o c1 c2 c3 c4 e=>hs₃.extBut _ _ c2 (hs₂.extBut _ _ c3 (hs₁.extBut _ _ c1 e))
  have S2₃:S2 k h₃:=U2.keep _ _ _ h2 fun o e=>hs₃.extBut _ _ D.i.symm (hs₂.extBut _ _ D.j.symm (hs₁.extBut _ _ D.d e))
  refine wpAny_bind (U2.fin _ k { s with heap:=h₃,toks:=tk₂ } g2 _ _ hh S2₃ (k2 _ _ _ r2 kk₃) hy fun h₄ e hs₄ he=>?_)
  obtain ⟨oe,hoe,hce⟩:=he
  have hz₄:IsZip h₄ z TI TO .ellipsis:=hs₄ _ _ D.d.symm (hs₃.extBut _ _ D.b.symm (hs₂.extBut _ _ D.c.symm hz₁))
  have hez:e≠z:=fun x=>by subst x;rw [hz₄] at hoe;cases hoe;simp at hce
  refine wpAny_setField_rec hz₄ (by simp) fun h₅ _ hs₅=>?_
  refine wpAny_bind (wpAny_isInstance (T:="StopIteration") (b:=true) ⟨oe,hs₅.extBut _ _ hez hoe,hce⟩ isSubtype_stop ?_)
  exact wpAny_pure (hQ h₅ tk₂ fun c o c1 c2 c3 c4 x=>hs₅.extBut _ _ c1 (hs₄ _ _ c4 (kk₃ c o c1 c2 c3 c4 x)))
end
end L2
namespace L2
open PySem PySem.Spec PyProof.Rows
abbrev zpH (h:Heap) (o1 o2:Obj):Heap:=((h.push o1).push o2)
abbrev zpT (h:Heap) (o1 o2:Obj):Heap:=(zpH h o1 o2).push { cls := .type "tuple",data := .seq #[.ref h.objs.size,.ref (h.push o1).objs.size] }
abbrev zpO (h:Heap) (o1 o2:Obj):Heap:=(zpT h o1 o2).push { cls := .type "tuple",data := .seq #[.none,.none] }
abbrev zpZ (h:Heap) (o1 o2:Obj):Heap:=(zpO h o1 o2).push { cls := .type "zip",data := .fields #[.none,.bool false,.bool false,.ref (zpH h o1 o2).objs.size,.ref (zpT h o1 o2).objs.size] }
def Xx (h:Heap) (v:Value) (o:Obj):Prop:=∀ (prog:Program) (w:World) (A:Around) (E:Value→Shared→Prop) (s:Shared) (Q:Value→Shared→Prop),(∀ b ob,h.get? b=some ob→s.heap.get? b=some ob) →
 Q (.ref s.heap.objs.size) { s with heap:=s.heap.push o }→wpAny (model prog w) A (pyIter v) Q E s
theorem WG {h:Heap} {t:Addr} {items:Array Value} (ht:h.IsTuple t items):Xx h (.ref t) { cls := .type "tuple_iterator",data := .fields #[.ref t,.int 0 0] }:=fun prog w A E s Q k q=>by
 obtain ⟨o,e,r⟩:=ht
 exact wpAny_pyIter_tuple (items:=items) ⟨o,k _ _ e,r⟩ q
theorem WN {h:Heap} {t:Addr} {items:Array Value} (ht:h.IsList t items):Xx h (.ref t) { cls := .type "list_iterator",data := .fields #[.ref t,.int 0 0] }:=fun prog w A E s Q k q=>by
 obtain ⟨o,e,r⟩:=ht
 exact wpAny_pyIter_list (items:=items) ⟨o,k _ _ e,r⟩ q
theorem Q6 (v1 v2:Value) (o1 o2:Obj) :
  Meets (Builtin.«zip.__new__» ⟨[.type "zip",v1,v2],[]⟩) (fun _ R s=>Xx s.heap v1 o1∧Xx s.heap v2 o2∧R (.ok (.ret (.ref (zpO s.heap o1 o2).objs.size))) { s with heap:=zpZ s.heap o1 o2 }) :=
 .of_wp fun prog w A R s h=>by
  obtain ⟨hp,g,d,tk,os⟩:=s
  obtain ⟨h1,h2,h⟩:=h
  have hsub:=sub_zip
  have p1:∀ {A':Around} {E:Value→Shared→Prop} {Q:Value→Shared→Prop},Q (.ref hp.objs.size) ⟨hp.push o1,g,d,tk,os⟩→wpAny (model prog w) A' (pyIter v1) Q E ⟨hp,g,d,tk,os⟩:=fun q=>h1 prog w _ _ ⟨hp,g,d,tk,os⟩ _ (fun _ _ e=>e) q
  have p2:∀ {A':Around} {E:Value→Shared→Prop} {Q:Value→Shared→Prop},Q (.ref (hp.push o1).objs.size) ⟨(hp.push o1).push o2,g,d,tk,os⟩→wpAny (model prog w) A' (pyIter v2) Q E ⟨hp.push o1,g,d,tk,os⟩:=fun q=>h2 prog w _ _ ⟨hp.push o1,g,d,tk,os⟩ _ (fun _ _ e=>Heap.get?_push_of_some _ e) q
  wp_walk using p1,p2
  exact ⟨_,rfl,h⟩
section
variable {prog:Program} {w:World} {A:Around} {E:Value→Shared→Prop} {s:Shared}
theorem VV {v1 v2:Value} {o1 o2:Obj} {Q:Value→Shared→Prop} (p1:Xx s.heap v1 o1) (p2:Xx s.heap v2 o2) (f1:o1.isFreed=false) (f2:o2.isFreed=false)
  (h:∀ h',IsZip h' (s.heap.objs.size+4) (s.heap.objs.size+2) (s.heap.objs.size+3) .none→IsPair h' (s.heap.objs.size+2) (.ref s.heap.objs.size) (.ref (s.heap.objs.size+1))→IsPair h' (s.heap.objs.size+3) .none .none →
   h'.get? s.heap.objs.size=some o1→h'.get? (s.heap.objs.size+1)=some o2→h'.objs.size=s.heap.objs.size+5→(∀ c o,s.heap.get? c=some o→h'.get? c=some o)→Q (.ref (s.heap.objs.size+4)) { s with heap:=h' }) :
  wpAny (model prog w) A (call (.type "zip") [v1,v2]) Q E s:=by
 refine callType_new F.called_zip (by decide) (F.typeCall_zip_2 _ _) (F.newCall_zip_2 _ _) (fun obj=>F.args_object_init_3 obj _ _) F.entry_zip_new (Q6 v1 v2 o1 o2) ⟨p1,p2,?_⟩
 have z1:(s.heap.push o1).objs.size=s.heap.objs.size+1:=Heap.size_push ..
 have z2:(zpH s.heap o1 o2).objs.size=s.heap.objs.size+2:=by rw [Heap.size_push,z1]
 have z3:(zpT s.heap o1 o2).objs.size=s.heap.objs.size+3:=by rw [Heap.size_push,z2]
 have z4:(zpO s.heap o1 o2).objs.size=s.heap.objs.size+4:=by rw [Heap.size_push,z3]
 have z5:(zpZ s.heap o1 o2).objs.size=s.heap.objs.size+5:=by rw [Heap.size_push,z4]
 have g5:(zpZ s.heap o1 o2).get? (zpO s.heap o1 o2).objs.size=some _:=Heap.get?_push_size _ rfl
 have g4:(zpZ s.heap o1 o2).get? (zpT s.heap o1 o2).objs.size=some _:=Heap.get?_push_of_some _ (Heap.get?_push_size _ rfl)
 have g3:(zpZ s.heap o1 o2).get? (zpH s.heap o1 o2).objs.size=some _:=Heap.get?_push_of_some _ (Heap.get?_push_of_some _ (Heap.get?_push_size _ rfl))
 have g2:(zpZ s.heap o1 o2).get? (s.heap.push o1).objs.size=some o2:=Heap.get?_push_of_some _ (Heap.get?_push_of_some _ (Heap.get?_push_of_some _ (Heap.get?_push_size _ f2)))
 have g1:(zpZ s.heap o1 o2).get? s.heap.objs.size=some o1:=Heap.get?_push_of_some _ (Heap.get?_push_of_some _ (Heap.get?_push_of_some _ (Heap.get?_push_of_some _ (Heap.get?_push_size _ f1))))
 show _∧_
 rw [z2,z3,z4] at g5
 rw [z1,z2] at g3
 rw [z3] at g4
 rw [z1] at g2
 rw [z4]
 exact ⟨⟨_,g5,rfl⟩,h _ g5 g3 g4 g1 g2 z5 fun c o x=>Heap.get?_push_of_some _ (Heap.get?_push_of_some _ (Heap.get?_push_of_some _ (Heap.get?_push_of_some _ (Heap.get?_push_of_some _ x))))⟩
end
section
variable {X:Cx} {pins:List (Addr×Obj)} {σ:St} {H:Hp} {s:Shared} {h':Heap}
theorem Inv.turnedL {t':Nat} {ch:List Addr} (I:Inv X pins σ H s) (k:∀ b o,b∉ch→s.heap.get? b=some o→h'.get? b=some o) (hf:∀ b∈ch,Xr X pins H b):Inv X pins σ H { s with heap:=h',toks:=t' }:=by
 have nit:∀ b u,H b=some u→b∉ch:=fun b u e z=>by rw [(hf b z).1] at e;cases e
 refine I.step (g':=s.gens) (d':=s.drawn) (ch:=ch) (fun b hb=>?_) (fun b o _ _ hc e _=>k b o hc e) (fun b o _ _ hc e _=>⟨o.slots,k b o hc e⟩) (fun _ _ _ _ n=>n)
  (fun b o hc e=>⟨o,k b o hc e⟩) (fun _ _ e=>e) (fun _ _ _ e=>e) (fun b ps e=>⟨#[],by rw [e];simp⟩) (fun m hm=>?_) (fun b u e=>?_) I.bare
 ·obtain ⟨f0,f1,f2,f3,f4,f5⟩:=hf b hb
  exact ⟨f3,f1,f4,f5⟩
 ·obtain ⟨o,es,ep,ho,r⟩:=hm
  exact ⟨o,es,ep,k _ o (fun z=>(hf _ z).2.1 rfl) ho,r⟩
 ·refine (I.hok b u e).stay (fun c v hc q=>k c v ?_ q) (fun _ q=>q) fun _ _ q=>q
  rcases hc with z | z
  ·rw [z];exact nit b u e
  ·exact nit c _ z
theorem Inv.turnedT {t':Nat} {ch:List Addr} {T:Addr} {vs:List V} (I:Inv X pins σ H s) (k:∀ b o,b∉ch→s.heap.get? b=some o→h'.get? b=some o) (hf:∀ b∈ch,Xr X pins H b) (hT:s.heap.objs.size≤T)
  (new:YN X.prog X.w (upd H T (.tup vs)) h' T (.tup vs)):Inv X pins σ (upd H T (.tup vs)) { s with heap:=h',toks:=t' }:=by
 have hn:H T=none:=I.hok.fresh hT
 have nit:∀ b u,H b=some u→b∉ch:=fun b u e z=>by rw [(hf b z).1] at e;cases e
 have nT:∀ b o,s.heap.get? b=some o→b≠T:=fun b o e z=>absurd (Heap.lt_size e) (by rw [z];exact Nat.not_lt.mpr hT)
 have up:∀ b u,H b=some u→upd H T (.tup vs) b=some u:=fun b u e=>by rw [Yl (Y0 e hn)];exact e
 refine I.step (g':=s.gens) (d':=s.drawn) (ch:=ch) (fun b hb=>?_) (fun b o _ _ hc e _=>k b o hc e) (fun b o _ _ hc e _=>⟨o.slots,k b o hc e⟩) (fun b o _ e n=>by rw [Yl (nT b o e)];exact n)
  (fun b o hc e=>⟨o,k b o hc e⟩) (fun b xs e=>up b _ e) (fun b o u e=>up b _ e) (fun b ps e=>⟨#[],by rw [up b _ e];simp⟩) (fun m hm=>?_) (fun b u e=>?_) I.bare
 ·obtain ⟨f0,f1,f2,f3,f4,f5⟩:=hf b hb
  exact ⟨f3,f1,f4,f5⟩
 ·obtain ⟨o,es,ep,ho,r⟩:=hm
  exact ⟨o,es,ep,k _ o (fun z=>(hf _ z).2.1 rfl) ho,r⟩
 ·by_cases hb:b=T
  ·subst hb;rw [Yd] at e;cases e;exact new
  ·rw [Yl hb] at e
   refine (I.hok b u e).stay (fun c v hc q=>k c v ?_ q) (fun c q=>up c _ q) fun c xs q=>up c _ q
   rcases hc with z | z
   ·rw [z];exact nit b u e
   ·exact nit c _ z
end
def Itz (G1 G2:Hp→List V→Prop):It :=
 ⟨fun i H=>∃ xs ys x y,G1 H xs∧G2 H ys∧xs[i]?=some x∧ys[i]?=some y,fun i H v H'=>∃ T,v = .ref T∧H T=none∧∀ xs ys x y,G1 H xs→G2 H ys→xs[i]?=some x→ys[i]?=some y→H'=upd H T (.tup [x,y]),
  fun i H=>∃ xs ys,G1 H xs∧G2 H ys∧(xs.length≤i∨ys.length≤i)⟩
structure Part (K:PySem.W.Frag) (G:Hp→List V→Prop) (Si:Addr→Nat→Heap→Prop) (R:Heap→(Nat→Option Value)→Prop) (own:Addr):Prop where
 sub:∀ (P:Program) (w:World) (i:Addr),Sub P w i (Si i) R
 ready:∀ (X:Cx),X.K=K→∀ (pins:List (Addr×Obj)) (σ:St) (H:Hp) (s:Shared) (xs:List V),Inv X pins σ H s→G H xs→∃ us:List Value,Yn xs us∧R s.heap (fun k=>us[k]?)
 inj:∀ (X:Cx),X.K=K→∀ (pins:List (Addr×Obj)) (σ:St) (H:Hp) (s:Shared) (xs ys:List V),Inv X pins σ H s→G H xs→G H ys→xs=ys
 keep:∀ h h' g,R h g→(∀ o,h.get? own=some o→h'.get? own=some o)→R h' g
theorem VW {K:PySem.W.Frag} (a:Addr):Part K (fun H xs=>SqL K H a xs) (fun i k h=>h.IsListIter i a k) (fun h get=>∃ items:Array Value,h.IsList a items∧∀ k,get k=items[k]?) a where
 sub:=fun P w i=>Ybn i a
 ready:=fun X hK pins σ H s xs I hq=>by
  subst hK
  obtain ⟨its,r,ht,_⟩:=I.list hq
  exact ⟨its,r,its.toArray,ht.isList,fun k=>by simp⟩
 inj:=fun X hK pins σ H s xs ys I h1 h2=>by subst hK;exact I.list_inj h1 h2
 keep:=fun h h' g ⟨items,⟨o,e,r⟩,q⟩ k=>⟨items,⟨o,k o e,r⟩,q⟩
theorem Ybo {P:Program} {w:World} {K:PySem.W.Frag} {elts:List Expr} {kk:Nat} {pos:Pos} {G1 G2:Hp→List V→Prop} {S1 S2:Addr→Nat→Heap→Prop} {R1 R2:Heap→(Nat→Option Value)→Prop} {a1 a2:Addr}
  (p1:Part K G1 S1 R1 a1) (p2:Part K G2 S2 R2 a2) {z TI TO i1 i2:Addr} (D:ZApart z TI TO i1 i2) (n1:a1∉[z,TO,i1,i2]) (n2:a2∉[z,TO,i1,i2]) :
  Turn P w K (.Tuple elts kk pos) (Itz G1 G2) [z,TI,TO,i1,i2] z (fun i h=>IsZip h z TI TO .none∧IsPair h TI (.ref i1) (.ref i2)∧(∃ a b,IsPair h TO a b)∧S1 i1 i h∧S2 i2 i h) where
 mem:=by simp
 obj:=fun i h ⟨hz,hTI,⟨a,b,hTO⟩,h1,h2⟩ c hc=>by
  simp only [List.mem_cons,List.not_mem_nil,or_false] at hc
  rcases hc with rfl | rfl | rfl | rfl | rfl
  ·exact ⟨_,hz,fun v e=>by cases e⟩
  ·exact ⟨_,hTI,fun v e=>by cases e⟩
  ·exact ⟨_,hTO,fun v e=>by cases e⟩
  ·exact (p1.sub P w _).obj _ _ h1
  ·exact (p2.sub P w _).obj _ _ h2
 keep:=fun i h h' ⟨hz,hTI,⟨a,b,hTO⟩,h1,h2⟩ q =>
  ⟨q z (by simp) _ hz,q TI (by simp) _ hTI,⟨a,b,q TO (by simp) _ hTO⟩,(p1.sub P w i1).keep _ _ _ h1 (q i1 (by simp)),(p2.sub P w i2).keep _ _ _ h2 (q i2 (by simp))⟩
 item:=by
  intro X hP hw hK hc i pins s σ H E I hf ⟨hz,hTI,⟨a,b,hTO⟩,h1,h2⟩ hg
  subst hP hw
  obtain ⟨xs,ys,x,y,g1,g2,hx,hy⟩:=hg
  obtain ⟨us1,r1,rd1⟩:=p1.ready X hK pins σ H s xs I g1
  obtain ⟨us2,r2,rd2⟩:=p2.ready X hK pins σ H s ys I g2
  obtain ⟨u,hu,ru⟩:=r1.get hx
  obtain ⟨v,hv,rv⟩:=r2.get hy
  have out:∀ c,c≠z→c≠TO→c≠i1→c≠i2→c∉[z,TO,i1,i2]:=fun c c1 c2 c3 c4 hm=>by
   simp only [List.mem_cons,List.not_mem_nil,or_false] at hm
   rcases hm with e | e | e | e<;>contradiction
  have sep:∀ {c:Addr},c∉[z,TO,i1,i2]→c≠z∧c≠TO∧c≠i1∧c≠i2:=fun hm=>⟨fun e=>hm (by simp [e]),fun e=>hm (by simp [e]),fun e=>hm (by simp [e]),fun e=>hm (by simp [e])⟩
  obtain ⟨m1,m2,m3,m4⟩:=sep n1
  obtain ⟨m5,m6,m7,m8⟩:=sep n2
  refine UH (k:=i) D (p1.sub _ _ i1) (p2.sub _ _ i2) (fun h h' g r q=>p1.keep _ _ _ r fun o e=>q a1 o m1 m2 m3 m4 e) (fun h h' g r q=>p2.keep _ _ _ r fun o e=>q a2 o m5 m6 m7 m8 e) hz hTI hTO h1 h2 rd1 rd2 hu hv fun h' tk hz' hTO' h1' h2' hT' hsz keep=>?_
  refine ⟨_,rfl,?_⟩
  refine wpAny_letOwnedTupleGo_zip (s:={ s with heap:=h',toks:=tk }) hz' fun h'' hz'' sb=>?_
  have zlt:z<s.heap.objs.size:=Heap.lt_size hz
  have kp:∀ c o,c∉[z,TO,i1,i2]→s.heap.get? c=some o→h''.get? c=some o:=fun c o hm e=>by
   obtain ⟨c1,c2,c3,c4⟩:=sep hm
   exact sb.extBut c o c1 (keep c o c1 c2 c3 c4 e)
  have hT'':IsPair h'' s.heap.objs.size u v:=sb.extBut _ _ (Nat.ne_of_gt zlt) hT'
  have fp4:∀ c∈[z,TO,i1,i2],Xr X pins H c:=fun c hm=>hf c (by
   simp only [List.mem_cons,List.not_mem_nil,or_false] at hm ⊢
   rcases hm with e | e | e | e<;>simp [e])
  have I':=I.turnedT (t':=tk) (h':=h'') (T:=s.heap.objs.size) (vs:=[x,y]) kp fp4 (Nat.le_refl _) (show YN X.prog X.w _ h'' _ (.tup [x,y]) from ⟨by show 2≤sizeLine;decide,[u,v],.cons ru (.cons rv .nil),_,hT'',rfl,_,rfl⟩)
  have fresh:H s.heap.objs.size=none:=I.hok.fresh (Nat.le_refl _)
  refine ⟨.ref s.heap.objs.size,_,I',rfl,⟨_,rfl,fresh,fun xs' ys' x' y' g1' g2' hx' hy'=>?_⟩,⟨hz'',sb.extBut _ _ D.a (keep _ _ D.a D.e D.f D.g hTI),⟨_,_,sb.extBut _ _ D.b hTO'⟩,(p1.sub X.prog X.w i1).keep _ _ _ h1' fun o e=>sb.extBut _ _ D.c e,(p2.sub X.prog X.w i2).keep _ _ _ h2' fun o e=>sb.extBut _ _ D.d e⟩,fun c hm=>?_⟩
  ·rw [p1.inj X hK pins σ H s _ _ I g1' g1,hx] at hx'
   rw [p2.inj X hK pins σ H s _ _ I g2' g2,hy] at hy'
   cases hx'
   cases hy'
   rfl
  ·have h0:=(hf c hm).1
   have clt:c<s.heap.objs.size:=by
    simp only [List.mem_cons,List.not_mem_nil,or_false] at hm
    rcases hm with rfl | rfl | rfl | rfl | rfl
    ·exact zlt
    ·exact Heap.lt_size hTI
    ·exact Heap.lt_size hTO
    ·obtain ⟨o,e,_⟩:=(p1.sub X.prog X.w _).obj _ _ h1;exact Heap.lt_size e
    ·obtain ⟨o,e,_⟩:=(p2.sub X.prog X.w _).obj _ _ h2;exact Heap.lt_size e
   rw [Yl (Nat.ne_of_lt clt)]
   exact h0
 done:=by
  intro X hP hw hK hc i pins s σ H E I hf ⟨hz,hTI,⟨a,b,hTO⟩,h1,h2⟩ hg
  subst hP hw
  obtain ⟨xs,ys,g1,g2,hend⟩:=hg
  obtain ⟨us1,r1,rd1⟩:=p1.ready X hK pins σ H s xs I g1
  obtain ⟨us2,r2,rd2⟩:=p2.ready X hK pins σ H s ys I g2
  have sep:∀ {c:Addr},c∉[z,TO,i1,i2]→c≠z∧c≠TO∧c≠i1∧c≠i2:=fun hm=>⟨fun e=>hm (by simp [e]),fun e=>hm (by simp [e]),fun e=>hm (by simp [e]),fun e=>hm (by simp [e])⟩
  obtain ⟨m1,m2,m3,m4⟩:=sep n1
  obtain ⟨m5,m6,m7,m8⟩:=sep n2
  have l1:=r1.length
  have l2:=r2.length
  refine QD (k:=i) (I.ok.hd hc) D (p1.sub _ _ i1) (p2.sub _ _ i2) (fun h h' g r q=>p1.keep _ _ _ r fun o e=>q a1 o m1 m2 m3 m4 e) (fun h h' g r q=>p2.keep _ _ _ r fun o e=>q a2 o m5 m6 m7 m8 e) hz hTI hTO h1 h2 rd1 rd2 ?_ fun h' tk keep=>?_
  ·rcases hend with e | e
   ·exact .inl (by simp;omega)
   ·exact .inr (by simp;omega)
  ·refine ⟨rfl,I.turnedL (ch:=[z,TO,i1,i2]) (fun c o hm e=>?_) fun c hm=>hf c (by
    simp only [List.mem_cons,List.not_mem_nil,or_false] at hm ⊢
    rcases hm with e | e | e | e<;>simp [e])⟩
   obtain ⟨c1,c2,c3,c4⟩:=sep hm
   exact keep c o c1 c2 c3 c4 e
 self:=fun A i s Q E ⟨hz,_⟩ q=>wpAny_pyIter_zip hz q
end L2
namespace L2
open PySem PySem.Spec PyProof.Rows
section
variable {X:Cx} {elts:List Expr} {kk:Nat} {tpos:Pos}
theorem Vl (n:Nat):ZApart (n+4) (n+2) (n+3) n (n+1):=by
 constructor<;>(intro e;have e':@Eq Nat _ _:=e;omega)
def Q7 (K:PySem.W.Frag) (ta:TA):TI:=fun σ H R=>ta σ H fun vs H1=>∃ a b xs ys,vs=[.ref a,.ref b]∧SqL K H1 a xs∧SqL K H1 b ys∧R (Itz (fun H xs=>SqL K H a xs) (fun H ys=>SqL K H b ys)) H1
theorem Yce {pins:List (Addr×Obj)} {σ:St} {H:Hp} {s:Shared} {R:It→Hp→Prop} {E:Value→Shared→Prop} {G1 G2:Hp→List V→Prop} {S1 S2:Addr→Nat→Heap→Prop} {R1 R2:Heap→(Nat→Option Value)→Prop} {a b:Addr} {o1 o2:Obj}
  (I:Inv X pins σ H s) (p1:Part X.K G1 S1 R1 a) (p2:Part X.K G2 S2 R2 b) (t1:Xx s.heap (.ref a) o1) (t2:Xx s.heap (.ref b) o2) (f1:o1.isFreed=false) (f2:o2.isFreed=false) (la:a<s.heap.objs.size) (lb:b<s.heap.objs.size)
  (s1:∀ h i,h.get? i=some o1→S1 i 0 h) (s2:∀ h i,h.get? i=some o2→S2 i 0 h) (q:R (Itz G1 G2) H) :
  wpAny (model X.prog X.w) X.A (call (.type "zip") [.ref a,.ref b]) (fun v s1=>wpAny (model X.prog X.w) X.A (pyIter v) (PIE X pins σ (.Tuple elts kk tpos) R) E s1) E s:=by
 refine VV t1 t2 f1 f2 fun h' hz hTI hTO g1 g2 hsz keep=>?_
 refine wpAny_pyIter_zip hz ?_
 have I1:Inv X pins σ H { s with heap:=h' }:=I.kept (t':=s.toks) keep
 refine ⟨_,[s.heap.objs.size+4,s.heap.objs.size+2,s.heap.objs.size+3,s.heap.objs.size,s.heap.objs.size+1],_,_,H,rfl,I1,Ybo (K:=X.K) p1 p2 (Vl s.heap.objs.size) ?_ ?_,⟨hz,hTI,⟨_,_,hTO⟩,s1 _ _ g1,s2 _ _ g2⟩,fun c hc=>?_,q⟩
 ·intro hm
  simp only [List.mem_cons,List.not_mem_nil,or_false] at hm
  rcases hm with e | e | e | e<;>(have e':@Eq Nat _ _:=e;have la':@LT.lt Nat _ a s.heap.objs.size:=la;have lb':@LT.lt Nat _ b s.heap.objs.size:=lb;omega)
 ·intro hm
  simp only [List.mem_cons,List.not_mem_nil,or_false] at hm
  rcases hm with e | e | e | e<;>(have e':@Eq Nat _ _:=e;have la':@LT.lt Nat _ a s.heap.objs.size:=la;have lb':@LT.lt Nat _ b s.heap.objs.size:=lb;omega)
 ·have hle:s.heap.objs.size≤c:=by
   simp only [List.mem_cons,List.not_mem_nil,or_false] at hc
   rcases hc with e | e | e | e | e<;>(have e':@Eq Nat _ _:=e;show @LE.le Nat _ s.heap.objs.size c;omega)
  exact I.fpOk hle (I.hok.fresh hle)
theorem VD {a b:Expr} {ta:TA} {p pos:Pos} (hg:Gl X "zip") (hm:X.mg "zip"=none) (ha:PA X [a,b] ta) (hs:starEach [a,b] X.env=[(false,eval a X.env),(false,eval b X.env)]) (hs2:starEach [b] X.env=[(false,eval b X.env)]) :
  PI X (.Tuple elts kk tpos) (.Call (.Name "zip" p) [a,b] [] pos) (Q7 X.K ta):=by
 intro pins s σ H R I h
 refine Call_ (XT I hg hm boot_zip (PyProof.Rows.callWith_type1 (thn (ha pos pins s σ H _ I h) fun us s1 ⟨vs,H1,I1,r1,q1⟩=>?_) (by rw [hs,hs2]) (by rw [hs2];rfl)))
 obtain ⟨x,y,xs,ys,e,hx,hy,q⟩:=q1
 subst e
 obtain ⟨u,v,rfl,ru,rv⟩:=r1.two
 cases ru
 cases rv
 obtain ⟨i1,_,ht1,_⟩:=I1.list hx
 obtain ⟨i2,_,ht2,_⟩:=I1.list hy
 have l1:x<s1.heap.objs.size:=by obtain ⟨_,e,_⟩:=ht1.isList;exact Heap.lt_size e
 have l2:y<s1.heap.objs.size:=by obtain ⟨_,e,_⟩:=ht2.isList;exact Heap.lt_size e
 exact Yce I1 (VW x) (VW y) (WN ht1.isList) (WN ht2.isList) rfl rfl l1 l2 (fun h i e=>⟨_,e,rfl,rfl⟩) (fun h i e=>⟨_,e,rfl,rfl⟩) q
theorem YcN {J:It} {P:Hp→Prop} {n:Nat} (hgo:∀ i H,P H→i<n→J.go i H) (hstop:∀ H,P H→J.stop n H) {src:List (Option Nat)} {g:TG} {tt:TT} {te:TE} {σ:St} {H1:Hp} {Q:VK} {D:Addr} (Pv:Nat→List V→St→Hp→Prop)
  (h0:Pv 0 [] (Yz src σ) (upd H1 D (.lst []))) (hP:∀ i ys σ' H',Pv i ys σ' H'→P H'∧H' D=some (.lst ys))
  (step:∀ i ys σ' H',i<n→Pv i ys σ' H'→∀ x H3,J.yld i H' x H3→g x σ' H3 fun σ2 H4=>tt σ2 H4 fun b H5=>if b=true then te σ2 H5 fun y H6=>H6 D=some (.lst ys)∧ys.length<sizeLine∧Pv (i+1) (ys++[y]) σ2 (upd H6 D (.lst (ys++[y]))) else Pv (i+1) ys σ2 H5)
  (fin:∀ ys σ' H',Pv n ys σ' H'→Q (.ref D) H') :
  LC src J g tt te σ H1 Q D:=by
 refine ⟨fun i m ys σ' H'=>m=n - i∧i≤n∧Pv i ys σ' H',⟨n,by simp,Nat.zero_le _,h0⟩,?_⟩
 rintro i m ys σ' H2 ⟨rfl,hi,p⟩
 obtain ⟨hp,hD⟩:=hP i ys σ' H2 p
 refine ⟨hD,?_⟩
 by_cases hlt:i<n
 ·refine .inr ⟨hgo i H2 hp hlt,fun ys' σ3 H3=>Pv (i+1) ys' σ3 H3,fun ys' σ3 H3 p'=>⟨n - (i+1),by omega,rfl,hlt,p'⟩,fun x H3 y=>step i ys σ' H2 hlt p x H3 y⟩
 ·have e:i=n:=by omega
  subst e
  exact .inl ⟨hstop H2 hp,fin ys σ' H2 p⟩
theorem Up {J:It} {P:Hp→Prop} {xs:List V} (hJ:XQ J P xs) {src:List (Option Nat)} {g:TG} {te:TE} {σ:St} {H1:Hp} {Q:VK} {D:Addr} (Pv:Nat→List V→St→Hp→Prop)
  (h0:Pv 0 [] (Yz src σ) (upd H1 D (.lst []))) (hP:∀ i ys σ' H',Pv i ys σ' H'→P H'∧H' D=some (.lst ys))
  (mono:∀ x σ H Q Q',(∀ σ' H',Q σ' H'→Q' σ' H')→g x σ H Q→g x σ H Q')
  (step:∀ i ys σ' H' x,xs[i]?=some x→Pv i ys σ' H'→g x σ' H' fun σ2 H4=>te σ2 H4 fun y H6=>H6 D=some (.lst ys)∧ys.length<sizeLine∧Pv (i+1) (ys++[y]) σ2 (upd H6 D (.lst (ys++[y]))))
  (fin:∀ ys σ' H',Pv xs.length ys σ' H'→Q (.ref D) H'):LC src J g Xt te σ H1 Q D :=
 YbT hJ Pv h0 hP (fun i ys σ' H' x hx p=>by
  refine mono _ _ _ _ _ ?_ (step i ys σ' H' x hx p)
  intro σ2 H4 q
  unfold Xt
  dsimp only
  rw [if_pos rfl]
  exact q) fin
theorem WA (i:Nat):∀ x σ H Q Q',(∀ σ' H',Q σ' H'→Q' σ' H')→Yv i x σ H Q→Yv i x σ H Q':=fun _ _ _ _ _ h q=>h _ _ q
theorem YaM {J:It} {P:Hp→Prop} {n:Nat} (hgo:∀ i H,P H→i<n→J.go i H) (hstop:∀ H,P H→J.stop n H) {src:List (Option Nat)} {g:TG} {te:TE} {σ:St} {H1:Hp} {Q:VK} {D:Addr} (Pv:Nat→List V→St→Hp→Prop)
  (h0:Pv 0 [] (Yz src σ) (upd H1 D (.lst []))) (hP:∀ i ys σ' H',Pv i ys σ' H'→P H'∧H' D=some (.lst ys))
  (mono:∀ x σ H Q Q',(∀ σ' H',Q σ' H'→Q' σ' H')→g x σ H Q→g x σ H Q')
  (step:∀ i ys σ' H',i<n→Pv i ys σ' H'→∀ x H3,J.yld i H' x H3→g x σ' H3 fun σ2 H4=>te σ2 H4 fun y H6=>H6 D=some (.lst ys)∧ys.length<sizeLine∧Pv (i+1) (ys++[y]) σ2 (upd H6 D (.lst (ys++[y]))))
  (fin:∀ ys σ' H',Pv n ys σ' H'→Q (.ref D) H'):LC src J g Xt te σ H1 Q D :=
 YcN hgo hstop Pv h0 hP (fun i ys σ' H' hi p x H3 y=>by
  refine mono _ _ _ _ _ ?_ (step i ys σ' H' hi p x H3 y)
  intro σ2 H4 q
  unfold Xt
  dsimp only
  rw [if_pos rfl]
  exact q) fin
end
end L2
namespace L2
open PySem PySem.Spec PyProof.Rows
structure Gx where
 P:Program
 w:World
 K:PySem.W.Frag
 mg:Str→Option Value
 base:Heap
def Cx.gx (X:Cx):Gx:=⟨X.prog,X.w,X.K,X.mg,X.base⟩
def Gx.Raw (g:Gx) (x qual:Str) (st:Stmt) (ps:List Str):Prop:=∃ f fd,Fun g.K x qual st f fd∧XN g.K fd ps []∧g.mg x=some (.ref f)
def Gx.Fn (g:Gx) (k:Nat) (x:Str) (ps:List Str) (sp:Sp):Prop:=∃ f fd,FnOk g.P g.w g.K g.mg g.base CX0 k f fd ps sp∧XN g.K fd ps []∧PySem.W.keepIn g.K (.ref f)=true∧g.mg x=some (.ref f)
def Gx.RawM (g:Gx) (C:Addr) (m qual:Str) (st:Stmt) (ps:List Str):Prop:=∃ f fd,Fun g.K m qual st f fd∧XN g.K fd ps []∧Meth g.K C m f
def Gx.Me (g:Gx) (k:Nat) (C:Addr) (m:Str) (ps:List Str) (sp:Sp):Prop:=∃ f fd,FnOk g.P g.w g.K g.mg g.base CX0 k f fd ps sp∧XN g.K fd ps []∧Meth g.K C m f
abbrev Gx.cx (g:Gx) (N:List Str) (qual:Str) (st:Stmt) (f:Addr) (cdv:Value) (A:Around) (outer:List Env) (s:Shared) (H:Hp) (E:XK):Cx:=(WL CX0 g.P g.w g.K g.mg g.base N qual (Yi st) f cdv A outer s H E).nox
def Q8 (g:Gx) (k:Nat) (N:List Str) (qual:Str) (st:Stmt) (sp:Sp):Prop:=∀ (f:Addr) (cdv:Value) (A:Around) (outer:List Env) (s:Shared) (H:Hp) (vs:List V) (Q:VK) (E:XK),Room k (g.cx N qual st f cdv A outer s H E).A→sp vs H Q E →
 ∃ t,PSs (g.cx N qual st f cdv A outer s H E) (Xc st) t∧t { nx:=fun _ H'=>Q .non H',rt:=Q } (XO N vs) H
section
variable {g:Gx} {k:Nat} {x qual m:Str} {st:Stmt} {N ps:List Str} {sp:Sp} {C:Addr}
theorem Gx.Raw.fn (R:g.Raw x qual st ps) (S:FnScope N ps (Yi st)) (len:∀ vs H Q E,sp vs H Q E→vs.length=ps.length) (b:Q8 g k N qual st sp):g.Fn (k+1) x ps sp:=by
 obtain ⟨f,fd,F,bd,hm⟩:=R
 exact ⟨f,fd,F.ok S len fun cdv A outer s H vs Q E hr h=>b f cdv A outer s H vs Q E hr h,bd,F.kp,hm⟩
theorem Gx.Fn.mono {j:Nat} (F:g.Fn j x ps sp) (h:j≤k):g.Fn k x ps sp:=by
 obtain ⟨f,fd,F,r⟩:=F
 exact ⟨f,fd,F.mono h,r⟩
theorem Gx.Raw.none (R:g.Raw x qual st ps) (no:∀ vs H Q E,¬ sp vs H Q E):g.Fn k x ps sp:=by
 obtain ⟨f,fd,F,bd,hm⟩:=R
 exact ⟨f,fd,⟨fun vs H Q E h=>absurd h (no vs H Q E),fun A outer s H args us vs Q E _ _ _ _ h=>absurd h (no vs H Q E)⟩,bd,F.kp,hm⟩
theorem Gx.RawM.none (R:g.RawM C m qual st ps) (no:∀ vs H Q E,¬ sp vs H Q E):g.Me k C m ps sp:=by
 obtain ⟨f,fd,F,bd,hm⟩:=R
 exact ⟨f,fd,⟨fun vs H Q E h=>absurd h (no vs H Q E),fun A outer s H args us vs Q E _ _ _ _ h=>absurd h (no vs H Q E)⟩,bd,hm⟩
end
section
variable {g:Gx} {X:Cx} {k j:Nat} {x m:Str} {ps:List Str} {sp:Sp} {C:Addr} {e o:Expr} {es:List Expr} {t:TA} {ta:TE} {p pos apos:Pos}
theorem YA (F:g.Fn j x ps sp) (hr:Room k X.A) (ha:PA X (e::es) t) (hj:j≤k) (hX:X.gx=g) (hg:Gl X x) (hdb:(x==("__debug__":Str))=false)
  (he:starEach (e::es) X.env=(false,eval e X.env)::starEach es X.env) (hpl:(backTo pos (starEach es X.env)).any (·.1)=false):PE X (.Call (.Name x p) (e::es) [] pos) (Q3 sp [] E0 t):=by
 subst hX
 obtain ⟨f,fd,F,b,kp,hm⟩:=F
 exact Yb9 F (hr.mono hj) hg hm kp b .nil pass0 ha hdb he hpl
theorem YB {id:String} {r:List V→Hp→VK→Prop} (hm:g.mg x=none) (hc:Xn X (.builtin id) r) (ha:PA X (e::es) t) (hv:bootBuiltins x=some (.builtin id)) (hX:X.gx=g) (hg:Gl X x) (hn:x≠"__name__") (hdb:(x==("__debug__":Str))=false)
  (he:starEach (e::es) X.env=(false,eval e X.env)::starEach es X.env) (hpl:(backTo pos (starEach es X.env)).any (·.1)=false):PE X (.Call (.Name x p) (e::es) [] pos) (tCB r t):=by
 subst hX
 exact Ybi hc hg hm hv ha hn hdb he hpl
theorem Xp {T:String} {r:List V→Hp→VK→Prop} (hm:g.mg x=none) (hc:Xn X (.type T) r) (ha:PA X (e::es) t) (hv:bootBuiltins x=some (.type T)) (hX:X.gx=g) (hg:Gl X x) (hn:x≠"__name__") (hdb:(x==("__debug__":Str))=false)
  (he:starEach (e::es) X.env=(false,eval e X.env)::starEach es X.env) (hpl:(backTo pos (starEach es X.env)).any (·.1)=false):PE X (.Call (.Name x p) (e::es) [] pos) (tCB r t):=by
 subst hX
 exact YaE hc hg hm hv ha hn hdb he hpl
theorem XR {T:String} (hm:g.mg x=none) (hv:bootBuiltins x=some (.type T)) (hX:X.gx=g) (hg:Gl X x) (hn:x≠"__name__") (hdb:(x==("__debug__":Str))=false):PE X (.Name x pos) (tC (.ty T)):=by
 subst hX
 exact Yb6 hg hm hv rfl hn hdb
end
def S (l:List Nat):Str:=⟨l.toArray⟩
theorem XD (l:List Nat):(S l).cps.toList=l:=by simp [S]
theorem Uq (l:List Nat):(S l).length=l.length:=by simp [S,Str.length]
theorem S_app (a b:List Nat):S a++S b=S (a++b):=by
 show Str.append (S a) (S b)=S (a++b)
 simp [Str.append,S]
end L2
namespace L2
open PySem PySem.Spec PyProof.Rows
section
variable {K:PySem.W.Frag} {h:Heap} {mg:Str→Option Value} {P:Program} {w:World} {base:Heap} {f C:Addr} {x qual m:Str} {st:Stmt} {ps:List Str} {oc kV dc pm cd ct:Value} {od an:Option Addr} {sl:Array (Option Value)}
theorem YH (X:K.In h) (G:h.Ns mainGlobals mg) (ps:List Str)
  (a:PySem.W.nsIn K mainGlobals x=some (some (.ref f))) (l:K.lookup f=some ⟨oc,od,.func (PySem.W.fnOf x x (Xw st) (Xc st) (Yi st) .none kV dc pm an cd ct),sl⟩) (c:PySem.W.codeIn K cd x=true) (k:PySem.W.keepIn K (.ref f)=true)
  (b:∀ (kV doc pm:Value) (an:Option Addr) (cdv ct:Value) (us:List Value),us.length=ps.length→bindArgs (PySem.W.fnOf x x (Xw st) (Xc st) (Yi st) .none kV doc pm an cdv ct) ⟨us,[]⟩=pure (ps.zip us)) :
  ∀ P w base,(Gx.mk P w K mg base).Raw x x st ps:=fun P w base =>
 have F:=YaJ (st:=st) l c k
 ⟨f,_,F,F.binds b,PySem.W.mg_of X G a⟩
end
def Vm (K:PySem.W.Frag):Sp:=fun vs H Q _=>∃ (a:Addr) (ns:List Int),vs=[.ref a]∧SqL K H a (ns.map V.int)∧ns.length≤63∧∀ H',Q (.bl true) H'
def YaN (K:PySem.W.Frag) (mg:Str→Option Value) (st:Stmt) (x n:Str):Prop:=∃ f fd,Fun K n n st f fd∧(∀ (s:Shared) (u:Value),BindsTo s fd ⟨[u],[]⟩ [(x,u)])∧mg n=some (.ref f)
theorem YaO {K:PySem.W.Frag} {h:Heap} {mg:Str→Option Value} {f:Addr} {x n:Str} {st:Stmt} {oc kV dc pm cd ct:Value} {od an:Option Addr} {sl:Array (Option Value)} (X:K.In h) (G:h.Ns mainGlobals mg)
  (a:PySem.W.nsIn K mainGlobals n=some (some (.ref f))) (l:K.lookup f=some ⟨oc,od,.func (PySem.W.fnOf n n (Xw st) (Xc st) (Yi st) .none kV dc pm an cd ct),sl⟩) (c:PySem.W.codeIn K cd n=true) (k:PySem.W.keepIn K (.ref f)=true)
  (b:∀ (kV doc pm:Value) (an:Option Addr) (cdv ct:Value) (s:Shared) (u:Value),BindsTo s (PySem.W.fnOf n n (Xw st) (Xc st) (Yi st) .none kV doc pm an cdv ct) ⟨[u],[]⟩ [(x,u)]):YaN K mg st x n :=
 ⟨f,_,YaJ (st:=st) l c k,b kV dc pm an cd ct,PySem.W.mg_of X G a⟩
theorem Ycf {l:PySem.W.OpenLaw} {q:Program} {loose:List Str} {XP:(Str→Option Value)→Heap→Prop} {YP:World→Heap→Prop} {d:DefRec} {K:Params→PySem.W.Frag} (k:Nat) (x:Str) (st:Stmt) (N:List Str) (hn:l.most=some 63) (hdf:d.params.defaults=[]) (hk:Room (k+1) callerA) (S:FnScope N [x] (Yi st))
  (hY:∀ (w:World) (h:Heap),YP w h→(K w.params).In h)
  (F:∀ (w:World) (mg:Str→Option Value) (h:Heap),(K w.params).In h→h.Ns mainGlobals mg→YaN (K w.params) mg st x d.name∧∀ base,Q8 (Gx.mk l.prog w (K w.params) mg base) k N d.name st (Vm (K w.params))) :
  PySem.W.WalkO q loose XP YP l.row.toRowW d [] (fun f vs=>PySem.call f vs):=by
 refine L2.Ycd (n:=63) (k:=k+1) (x:=x) (CX:=fun _=>CX0) (sp:=fun w=>Vm (K w.params)) hn (by decide) hdf hk hY (fun w mg fa h KX G hmg=>?_) (fun _ _ a ns hl _ hS=>⟨a,ns,rfl,hS,hl,fun _=>rfl⟩) fun _ _ _ _ _ z=>z
 obtain ⟨⟨f,fd,Fu,hb,hm⟩,B⟩:=F w mg h KX G
 have e:=hmg.symm.trans hm
 cases e
 exact ⟨fd,hb,fun base _ _=>Fu.ok S (fun vs H Q E h=>by obtain ⟨a,ns,rfl,_⟩:=h;rfl) fun cdv A outer s H vs Q E hr h=>B base fa cdv A outer s H vs Q E hr h⟩
end L2
namespace L2
open PySem PySem.Spec PyProof.Rows
section
variable {X:Cx}
theorem QE {a:Int} {m:Nat} (h:a.natAbs<2^m):Builtin.Int.intBits a≤m:=by
 unfold Builtin.Int.intBits
 split
 ·omega
 ·rename_i h0
  have h0:a.natAbs≠0:=by simpa using h0
  have:=(Nat.log2_lt h0).mpr h
  omega
def Ur (i j:Int):Prop:=∃ m n:Nat,i.natAbs<2^m∧j.natAbs<2^n∧m+n≤100000000
theorem Ur.ok {i j:Int} (h:Ur i j):IntMulOk i j:=by
 obtain ⟨m,n,h1,h2,h3⟩:=h
 exact IntMulOk.of_le (QE h1) (QE h2) (by omega)
def Q9 (i j:Int):Prop:=0<j∧j.natAbs<2^9000
theorem Xi:OpR X (binaryOp .FloorDiv) (rI Q9 fun i j => .int (i / j)):=opI fun i j _ _ _ _ _ hc q=>by
 have h1:(0:Int)<j:=hc.1
 have h2:=hc.2
 have h3:j.natAbs≠0:=by omega
 exact floordiv_int (by omega) (by rw [Int.fdiv_eq_ediv_of_nonneg i (by omega)];exact q) (.inl (PyProof.noPylong_of_log2 ((Nat.log2_lt h3).mpr h2)))
end
end L2
namespace L2
open PySem PySem.Spec PyProof.Rows
theorem YcO {CX:CXT} {P:Program} {w:World} {K:PySem.W.Frag} {mg:Str→Option Value} {base:Heap} {N:List Str} {qual:Str} {scope:Scope} {f:Addr} {cd:Value} {A:Around} {outer:List Env} {s:Shared} {H:Hp} {E:XK} :
  (WL CX P w K mg base N qual scope f cd A outer s H E).K=K:=rfl
theorem nox_K {X:Cx}:X.nox.K=X.K:=rfl
section
variable {g:TG} {tb:TS} {D:Ends} {σ:St} {H:Hp}
theorem Wj {ta:TA} {n:Nat} (Pv:Nat→St→Hp→Prop) (ha:∀ R:List V→Hp→Prop,R [.int n] H→ta σ H R) (hn:n<2^62) (h0:Pv 0 σ H)
  (hs:∀ i σ H,i<n→Pv i σ H→g (.int i) σ H fun σ2 H2=>tb { D with nx:=Pv (i+1),ct:=Pv (i+1),bk:=D.nx } σ2 H2) (hd:∀ σ H,Pv n σ H→D.nx σ H):Vz (YbN ta) g tb D σ H:=by
 refine ha _ ⟨n,rfl,by omega,by omega,?_⟩
 refine Yau (lo:=0) (n:=n) Pv h0 (fun i σ H hi p=>?_) hd
 have e:(0:Int)+i=i:=by omega
 rw [e];exact hs i σ H hi p
theorem WO {K:PySem.W.Frag} {tl:TE} {a:Addr} {xs:List V} (Pv:Nat→St→Hp→Prop) (ha:∀ R:V→Hp→Prop,R (.ref a) H→tl σ H R) (h0:Pv 0 σ H) (hl:∀ i σ H,i≤xs.length→Pv i σ H→SqL K H a xs)
  (hs:∀ i x σ H,xs[i]?=some x→Pv i σ H→g x σ H fun σ2 H2=>tb { D with nx:=Pv (i+1),ct:=Pv (i+1),bk:=D.nx } σ2 H2) (hd:∀ σ H,Pv xs.length σ H→D.nx σ H):Vz (Wd K tl) g tb D σ H:=by
 refine ha _ ⟨a,rfl,⟨xs,hl 0 σ H (Nat.zero_le _) h0⟩,?_⟩
 exact UA Pv h0 hl hs hd
end
end L2
namespace L2
open PySem PySem.Spec PyProof.Rows
section
variable {X:Cx}
theorem XZ (hc:X.calm=true:=by rfl):Xn X (.builtin "sum") (fun xs H Q=>∃ (p:Addr) (ns:List Int),xs=[.ref p]∧SqL X.K H p (ns.map V.int)∧Q (.int ns.sum) H):=by
 intro pins s σ H xs us Q I r h
 obtain ⟨p,ns,rfl,hq,q⟩:=h
 obtain ⟨u,rfl,rx⟩:=XA r
 cases rx
 obtain ⟨its,r',pl,hz⟩:=I.list hq
 have hi:=Q4 r'
 have hl:=pl.isList
 obtain ⟨xs,ex⟩:=hi.allInts.items
 rw [ex] at hl
 have e:preSum (numAt xs) xs.size=ns.sum:=by
  have h1:=nums_intItems (xs:=xs)
  rw [← ex] at h1
  have h2:=hi.numsOf
  rw [preSum_eq,List.take_of_length_le (by simp)]
  rw [← h1]
  exact congrArg List.sum h2
 refine sum_intListG (I.ok.hd hc) hl fun h' tk t' hk=>?_
 rw [e]
 exact ⟨.int _,H,I.kept (t':=tk) hk,⟨t',rfl⟩,q⟩
end
section
variable {X:Cx} {elts:List Expr} {kk:Nat} {tpos:Pos}
end
end L2
namespace L2
open PySem PySem.Spec PyProof.Rows
mutual
inductive Den (K:PySem.W.Frag) (H:Hp):V→PyData→Prop
 | non:Den K H .non .none
 | bl (b:Bool):Den K H (.bl b) (.bool b)
 | int (i:Int):Den K H (.int i) (.int i)
 | str (x:Str) (h:PyData.strOk x=true):Den K H (.str x) (.str x)
 | lst {a:Addr} {vs:List V} {ds:List PyData}:SqL K H a vs→Dens K H vs ds→Den K H (.ref a) (.list ds)
 | tup {a:Addr} {vs:List V} {ds:List PyData}:SqT K H a vs→Dens K H vs ds→Den K H (.ref a) (.tuple ds)
inductive Dens (K:PySem.W.Frag) (H:Hp):List V→List PyData→Prop
 | nil:Dens K H [] []
 | cons {v:V} {d:PyData} {vs:List V} {ds:List PyData}:Den K H v d→Dens K H vs ds→Dens K H (v::vs) (d::ds)
end
mutual
theorem Den.keep {K:PySem.W.Frag} {H H':Hp} (e:Yc H H'):∀ {v:V} {d:PyData},Den K H v d→Den K H' v d
 | _,_,.non => .non
 | _,_,.bl b => .bl b
 | _,_,.int i => .int i
 | _,_,.str x h => .str x h
 | _,_,.lst h hs => .lst (e.seq h) (hs.keep e)
 | _,_,.tup h hs => .tup (e.tup h) (hs.keep e)
theorem Dens.keep {K:PySem.W.Frag} {H H':Hp} (e:Yc H H'):∀ {vs:List V} {ds:List PyData},Dens K H vs ds→Dens K H' vs ds
 | _,_,.nil => .nil
 | _,_,.cons h hs => .cons (h.keep e) (hs.keep e)
end
mutual
theorem Den.lay {K:PySem.W.Frag} {H:Hp}:∀ {v:V} {d:PyData},Den K H v d→d.canLay0=true
 | _,_,.non=>rfl
 | _,_,.bl b=>rfl
 | _,_,.int i=>rfl
 | _,_,.str x h=>by simpa [PyData.canLay0] using h
 | _,_,.lst _ hs=>by rw [PyData.canLay0];exact hs.lay
 | _,_,.tup _ hs=>by rw [PyData.canLay0];exact hs.lay
theorem Dens.lay {K:PySem.W.Frag} {H:Hp}:∀ {vs:List V} {ds:List PyData},Dens K H vs ds→PyData.canLayAll0 ds=true
 | _,_,.nil=>rfl
 | _,_,.cons h hs=>by rw [PyData.canLayAll0,h.lay,hs.lay];rfl
end
theorem Dens.length {K:PySem.W.Frag} {H:Hp}:∀ {vs:List V} {ds:List PyData},Dens K H vs ds→vs.length=ds.length
 | _,_,.nil=>rfl
 | _,_,.cons _ hs=>congrArg (·+1) hs.length
theorem Dens.append {K:PySem.W.Frag} {H:Hp} {vs':List V} {ds':List PyData}:∀ {vs:List V} {ds:List PyData},Dens K H vs ds→Dens K H vs' ds'→Dens K H (vs++vs') (ds++ds')
 | _,_,.nil,h=>h
 | _,_,.cons a b,h => .cons a (b.append h)
theorem Dens.get {K:PySem.W.Frag} {H:Hp}:∀ {vs:List V} {ds:List PyData} {i:Nat} {v:V},Dens K H vs ds→vs[i]?=some v→∃ d,ds[i]?=some d∧Den K H v d
 | _,_,0,v,.cons a _,h=>by
  have:_=v:=Option.some.inj h
  subst this
  exact ⟨_,rfl,a⟩
 | _,_,i+1,v,.cons _ b,h=>b.get (i:=i) h
section
variable {X:Cx}
mutual
theorem Den.reads {pins:List (Addr×Obj)} {σ:St} {H:Hp} {s:Shared} (I:Inv X pins σ H s):∀ {v:V} {d:PyData} {u:Value},Den X.K H v d→Ys v u→∃ as,Reads s.heap u d as
 | _,_,u,.non,r=>by cases (show u = .none from r);exact ⟨_,.none⟩
 | _,_,u,.bl b,r=>by cases (show u = .bool b from r);exact ⟨_,.bool b⟩
 | _,_,u,.int i,r=>by obtain ⟨t,rfl⟩:=r;exact ⟨_,.int i t⟩
 | _,_,u,.str x h,r=>by obtain ⟨t,rfl⟩:=r;exact ⟨_,.str x t⟩
 | _,_,u,.lst (a:=a) h hs,r=>by
  cases (show u = .ref a from r)
  obtain ⟨its,rv,pl,hz⟩:=I.list h
  obtain ⟨as,ra⟩:=hs.reads I rv
  obtain ⟨o,e1,e2,n,e3⟩:=pl.isList
  exact ⟨_,.list e1 e2 e3 (by simpa using ra)⟩
 | _,_,u,.tup (a:=a) h hs,r=>by
  cases (show u = .ref a from r)
  obtain ⟨its,rv,pl,hz⟩:=I.tuple h
  obtain ⟨as,ra⟩:=hs.reads I rv
  obtain ⟨o,e1,e2,n,e3⟩:=(show s.heap.IsTuple a its.toArray from pl)
  exact ⟨_,.tuple e1 e2 e3 (by simpa using ra)⟩
theorem Dens.reads {pins:List (Addr×Obj)} {σ:St} {H:Hp} {s:Shared} (I:Inv X pins σ H s):∀ {vs:List V} {ds:List PyData} {us:List Value},Dens X.K H vs ds→Yn vs us→∃ as,ReadsAll s.heap us ds as
 | _,_,us,.nil,r=>by cases r;exact ⟨_,.nil⟩
 | _,_,us,.cons h hs,r=>by
  cases r with
  | cons r rr =>
   obtain ⟨as,ra⟩:=h.reads I r
   obtain ⟨bs,rb⟩:=hs.reads I rr
   exact ⟨_,.cons ra rb⟩
end
theorem UI (hu:X.A.units+64<cLine):OpR X (compareOp .Eq) (fun x y H Q=>∃ d e,Den X.K H x d∧Den X.K H y e∧d.depth≤64∧Q (.bl (PyData.eqv d e)) H):=by
 intro pins s σ H x y v u Q I rx ry h
 obtain ⟨d,e,hd,he,dp,q⟩:=h
 obtain ⟨as,ra⟩:=hd.reads I rx
 obtain ⟨bs,rb⟩:=he.reads I ry
 exact SeqAt.rcAt_reads ra rb hd.lay he.lay (by omega) _ _ _ _ ⟨.bl _,H,I,rfl,q⟩
theorem YcP (hu:X.A.units+64<cLine):OpR X (compareOp .NotEq) (fun x y H Q=>∃ d e,Den X.K H x d∧Den X.K H y e∧d.depth≤64∧Q (.bl (!PyData.eqv d e)) H):=by
 intro pins s σ H x y v u Q I rx ry h
 obtain ⟨d,e,hd,he,dp,q⟩:=h
 obtain ⟨as,ra⟩:=hd.reads I rx
 obtain ⟨bs,rb⟩:=he.reads I ry
 exact SeqAt.compareNe_reads ra rb hd.lay he.lay (by omega) ⟨.bl _,H,I,rfl,q⟩
end
theorem YZ {α:Type} {l:List α} {i:Nat} {x:α} (h:l[i]?=some x):l.take (i+1)=l.take i++[x]:=by
 obtain ⟨hi,hc⟩:=List.getElem?_eq_some_iff.mp h
 rw [List.take_succ_eq_append_getElem hi,hc]
theorem YaP {J:It} {P:Hp→Prop} {xs:List V} (hJ:XQ J P xs) {src:List (Option Nat)} {te:TE} {σ:St} {H1:Hp} {Q:VK} {D:Addr} (ys:List V) (hP:∀ H',Yc H1 H'→P H') (hD:H1 D=none) (hl:ys.length=xs.length) (hlen:xs.length≤100000)
  (step:∀ (i:Nat) x y H',xs[i]?=some x→ys[i]?=some y→Yc H1 H'→∀ R:VK,(∀ H'',Yc H' H''→R y H'')→te (some x::Yz src σ) H' R)
  (fin:∀ H',Yc H1 H'→H' D=some (.lst ys)→Q (.ref D) H'):LC (none::src) J (Yv 0) Xt te σ H1 Q D:=by
 have h6:100000<sizeLine:=by decide
 refine Up hJ (fun i zs σ' H'=>zs=ys.take i∧(∃ o,σ'=o::Yz src σ)∧Yc H1 H'∧H' D=some (.lst zs)) ⟨by simp,⟨none,rfl⟩,.upd_new hD _,Yd⟩ (fun i zs σ' H' p=>⟨hP _ p.2.2.1,p.2.2.2⟩) (WA 0) ?_ ?_
 ·rintro i zs σ' H' x hx ⟨rfl,⟨o,rfl⟩,sm,hd⟩
  have hi:=(List.getElem?_eq_some_iff.mp hx).1
  have hy:ys[i]?=some (ys[i]'(by omega)):=List.getElem?_eq_getElem _
  show te (some x::Yz src σ) H' _
  refine step i x _ H' hx hy sm _ fun H'' s2=>⟨s2 _ _ hd,?_,(YZ hy).symm,⟨_,rfl⟩,.upd_over hD (sm.trans s2) _,Yd⟩
  rw [List.length_take];omega
 ·rintro zs σ' H' ⟨rfl,_,sm,hd⟩
  rw [← hl,List.take_length] at hd
  exact fin H' sm hd
theorem W3 (K:PySem.W.Frag) (i j:Nat):∀ x σ H Q Q',(∀ σ' H',Q σ' H'→Q' σ' H')→XY K 2 (YS (Yv i) (YS (Yv j) XX)) x σ H Q→XY K 2 (YS (Yv i) (YS (Yv j) XX)) x σ H Q':=by
 rintro x σ H Q Q' h ⟨a,xs,e,sq,l,v,r,e1,v2,r2,e2,e3,q⟩
 exact ⟨a,xs,e,sq,l,v,r,e1,v2,r2,e2,e3,h _ _ q⟩
end L2
namespace L2
open PySem PySem.Spec PyProof.Rows
section
variable {a b c d e r:TS} {D:Ends} {σ:St} {H:Hp} (M:St→Hp→Prop) (h1:∀ σ H,M σ H→r D σ H)
include h1
theorem UJ (h2:∀ N:St→Hp→Prop,(∀ σ H,M σ H→N σ H)→a { D with nx:=N } σ H):Xf a r D σ H:=h2 (r D) h1
theorem cut2 (h2:∀ N:St→Hp→Prop,(∀ σ H,M σ H→N σ H)→Xf a b { D with nx:=N } σ H):Xf a (Xf b r) D σ H:=h2 (r D) h1
theorem cut3 (h2:∀ N:St→Hp→Prop,(∀ σ H,M σ H→N σ H)→Xf a (Xf b c) { D with nx:=N } σ H):Xf a (Xf b (Xf c r)) D σ H:=h2 (r D) h1
theorem cut4 (h2:∀ N:St→Hp→Prop,(∀ σ H,M σ H→N σ H)→Xf a (Xf b (Xf c d)) { D with nx:=N } σ H):Xf a (Xf b (Xf c (Xf d r))) D σ H:=h2 (r D) h1
end
theorem Ycg (i j:Int):QZ (.int i) (.int j)=true:=rfl
theorem Ych (i j:Str):QZ (.str i) (.str j)=true:=rfl
theorem UK {α:Type} (xs:List α) (i j:Nat):(xs.drop (min i xs.length)).take (min j xs.length - min i xs.length)=(xs.drop i).take (j - i):=by
 by_cases hi:i≤xs.length
 ·rw [Nat.min_eq_left hi]
  by_cases hj:j≤xs.length
  ·rw [Nat.min_eq_left hj]
  ·rw [Nat.min_eq_right (by omega),List.take_of_length_le (by rw [List.length_drop];omega),List.take_of_length_le (by rw [List.length_drop];omega)]
 ·rw [List.drop_of_length_le (by omega),List.drop_of_length_le (show xs.length≤i by omega)]
  simp
theorem Yci (xs:List V) (i j:Nat):Y6 xs (some (i:Int)) (some (j:Int))=(xs.drop i).take (j - i):=by
 unfold Y6
 rw [HT.sIx_nat,HT.sIx_nat]
 exact UK xs i j
theorem QF (xs:List V) (j:Nat):Y6 xs none (some (j:Int))=xs.take j:=by
 unfold Y6
 rw [HT.sIx_nat,HT.sIx_none,List.drop_zero,Nat.sub_zero]
 have:=UK xs 0 j
 simpa using this
theorem Ycj (xs:List V) (i:Nat):Y6 xs (some (i:Int)) none=xs.drop i:=by
 unfold Y6
 rw [HT.sIx_nat,HT.sIx_none]
 by_cases hi:i≤xs.length
 ·rw [Nat.min_eq_left hi,List.take_of_length_le (by rw [List.length_drop];omega)]
 ·rw [List.drop_of_length_le (by omega),List.drop_of_length_le (show xs.length≤i by omega)]
  simp
end L2
namespace L2
open PySem PySem.Spec PyProof.Rows
section
variable {X:Cx} {tg:Expr}
end
end L2
namespace L2
open PySem PySem.Spec PyProof.Rows
end L2
namespace L2
open PySem PySem.Spec PyProof.Rows
section
variable {src:List (Option Nat)} {te:TE} {σ:St} {H:Hp} {Q:VK}
theorem VX {K:PySem.W.Frag} {tl:TE} {xs:List V} (ys:List V) (ha:∀ R:V→Hp→Prop,(∀ a H1,Yc H H1→SqL K H1 a xs→R (.ref a) H1)→tl σ H R) (hl:ys.length=xs.length) (hlen:xs.length≤100000)
  (step:∀ (i:Nat) x y H',xs[i]?=some x→ys[i]?=some y→Yc H H'→∀ R:VK,(∀ H'',Yc H' H''→R y H'')→te (some x::Yz src σ) H' R)
  (fin:∀ D H',H D=none→Yc H H'→H' D=some (.lst ys)→Q (.ref D) H'):tLC (none::src) (Wd K tl) (Yv 0) Xt te σ H Q :=
 ha _ fun a H1 s1 hS=>⟨a,rfl,⟨xs,hS⟩,fun D hD=>YaP (XC.imp fun H' (e:Yc H1 H')=>e.seq hS) ys (fun _ e=>e) hD hl hlen (fun i x y H' hx hy sm R r=>step i x y H' hx hy (s1.trans sm) R r) fun H' sm=>fin D H' (s1.free hD) (s1.trans sm)⟩
end
end L2
namespace L2
open PySem PySem.Spec PyProof.Rows
section
variable {src:List (Option Nat)} {te:TE} {σ:St} {H:Hp} {Q:VK}
end
section
variable {X:Cx} {K:PySem.W.Frag}
theorem Ybp (h:X.K=K:=by rfl):IxR X (rIxL K):=by subst h;exact YO
theorem X6 (h:X.K=K:=by rfl):IxR X (rIxT K):=by subst h;exact Yr
theorem Yck (hu:X.A.units+64<cLine) (h:X.K=K:=by rfl):OpR X (compareOp .Eq) (fun x y H Q=>∃ d e,Den K H x d∧Den K H y e∧d.depth≤64∧Q (.bl (PyData.eqv d e)) H):=by subst h;exact UI hu
end
end L2
namespace L2
open PySem PySem.Spec PyProof.Rows
section
variable {tb:TS} {D:Ends} {σ:St} {H:Hp}
theorem YaQ {K:PySem.W.Frag} {ta:TA} (i j:Nat) {xs ys:List V} (Pv:Addr→Addr→Nat→St→Hp→Prop) (ha:∀ R:List V→Hp→Prop,(∀ a b H1,Pv a b 0 σ H1→R [.ref a,.ref b] H1)→ta σ H R)
  (hl:∀ a b n σ H,n≤min xs.length ys.length→Pv a b n σ H→SqL K H a xs∧SqL K H b ys)
  (hs:∀ a b (n:Nat) x y σ H T,xs[n]?=some x→ys[n]?=some y→Pv a b n σ H→H T=none→tb { D with nx:=Pv a b (n+1),ct:=Pv a b (n+1),bk:=D.nx } ((σ.set i (some x)).set j (some y)) (upd H T (.tup [x,y])))
  (hd:∀ a b σ H,Pv a b (min xs.length ys.length) σ H→D.nx σ H):Vz (Q7 K ta) (XY K 2 (YS (Yv i) (YS (Yv j) XX))) tb D σ H:=by
 refine ha _ fun a b H1 h0=>?_
 obtain ⟨s1,s2⟩:=hl a b 0 σ H1 (Nat.zero_le _) h0
 refine ⟨a,b,xs,ys,rfl,s1,s2,?_⟩
 refine ⟨fun n m σ H=>m=min xs.length ys.length - n∧n≤min xs.length ys.length∧Pv a b n σ H,⟨min xs.length ys.length,by simp,Nat.zero_le _,h0⟩,?_⟩
 rintro n m σ H ⟨rfl,hn,p⟩
 obtain ⟨g1,g2⟩:=hl a b n σ H hn p
 by_cases hlt:n<min xs.length ys.length
 ·have hx:xs[n]?=some (xs[n]'(by omega)):=List.getElem?_eq_getElem _
  have hy:ys[n]?=some (ys[n]'(by omega)):=List.getElem?_eq_getElem _
  refine .inr ⟨⟨xs,ys,_,_,g1,g2,hx,hy⟩,Pv a b (n+1),fun σ' H' p'=>⟨min xs.length ys.length - (n+1),by omega,rfl,hlt,p'⟩,?_⟩
  rintro v H' ⟨T,rfl,hT,heq⟩
  have e:=heq xs ys _ _ g1 g2 hx hy
  subst e
  exact ⟨T,_,rfl,SqT.of Yd,rfl,_,_,rfl,_,_,rfl,rfl,hs a b n _ _ σ H T hx hy p hT⟩
 ·have e:n=min xs.length ys.length:=by omega
  subst e
  refine .inl ⟨⟨xs,ys,g1,g2,?_⟩,hd a b σ H p⟩
  omega
end
end L2
namespace L2
open PySem PySem.Spec PyProof.Rows
theorem Ug (its:List Value):slicePick its.toArray none none (some (-1))=its.reverse.toArray:=by
 unfold slicePick
 have hb:sliceBounds none none (some (-1)) its.toArray.size=((its.length:Int) - 1,-1,-1):=by simp [sliceBounds]
 rw [hb]
 have hr:sliceRange ((its.length:Int) - 1) (-1) (-1)=(List.range its.length).map fun (k:Nat)=>its.length - 1 - k:=by
  unfold sliceRange
  simp only [show ¬ ((-1:Int)>0) by decide,if_false]
  have hc:(if (its.length:Int) - 1 > -1 then ((its.length:Int) - 1 - -1 - -1 - 1) / - -1 else 0).toNat=its.length:=by
   split
   ·have:((its.length:Int) - 1 - -1 - -1 - 1)=its.length:=by omega
    rw [this,show (- -1:Int)=1 from rfl,Int.ediv_one];omega
   ·omega
  rw [hc]
  apply List.map_congr_left
  intro k hk
  have:k<its.length:=List.mem_range.mp hk
  omega
 simp only [hr]
 congr 1
 rw [List.filterMap_map]
 apply List.ext_getElem?
 intro i
 have key:∀ (n:Nat),n≤its.length→(List.filterMap ((fun x=>its.toArray[x]?) ∘ fun k=>its.length - 1 - k) (List.range n))=its.reverse.take n:=by
  intro n
  induction n with
  | zero=>intro _;simp
  | succ n ih =>
   intro hn
   rw [List.range_succ,List.filterMap_append,ih (by omega)]
   have hx:its.reverse[n]?=some (its[its.length - 1 - n]'(by omega)):=by
    rw [List.getElem?_reverse (by omega)];exact List.getElem?_eq_getElem _
   rw [YZ hx]
   have hlt:its.length - 1 - n<its.length:=by omega
   simp [hlt]
 rw [key its.length (Nat.le_refl _)]
 rw [List.take_of_length_le (by simp)]
section
variable {X:Cx} {e st:Expr} {te ts:TE} {pos p2:Pos}
def tRev (K:PySem.W.Frag) (te ts:TE):TE:=fun σ H Q=>te σ H fun x H1=>ts σ H1 fun y H2=>y = .int (-1)∧∃ a xs,x = .ref a∧SqL K H2 a xs∧∀ p,H2 p=none→Q (.ref p) (upd H2 p (.lst xs.reverse))
theorem UL (he:PE X e te) (hs:PE X st ts):PE X (.Subscript e (.Slice none none (some st) p2) pos) (tRev X.K te ts):=by
 intro pins s σ H Q I h
 refine Subscript_ (thn (he pins s σ H _ I h) fun v s1 ⟨x,H1,I1,r1,q1⟩=>?_)
 refine wpAny_Slice ?_
 rw [evalPart_none]
 refine wpAny_pure (wpAny_pure ?_)
 rw [evalPart_some]
 refine thn (hs pins s1 σ H1 _ I1 q1) fun u s2 ⟨y,H2,I2,r2,q2⟩=>?_
 obtain ⟨rfl,a,xs,rfl,hx,q⟩:=q2
 obtain ⟨t,rfl⟩:=r2
 cases r1
 have I4:Inv X pins σ H2 { s2 with heap:=s2.heap.push { cls := .type "slice",data := .fields #[.none,.none,.int (-1) t] } }:=I2.kept (t':=s2.toks) fun b ob q=>Heap.get?_push_of_some _ q
 obtain ⟨its,r,ht,hz⟩:=I4.list hx
 have hlen:=r.length
 have hg:=wpAny_getItem_list_slice (prog:=X.prog) (w:=X.w) (A:=X.A) (E:=X.xe) (Q:=EP X pins σ Q) ht.isList (Heap.IsSliceOf.new ..) .none .none (.int (-1) t) (by decide) (by
  rw [Ug]
  refine ⟨.ref _,_,I4.laid (t':=_) (o := .lst xs.reverse) (fun b ob q=>Heap.get?_push_of_some _ q) (Nat.le_refl _) ?_,rfl,q _ (I4.hok.fresh (Nat.le_refl _))⟩
  exact ⟨by rw [List.length_reverse];exact hz,_,0,r.reverse,Heap.get?_push_size _ rfl⟩) (by rw [List.size_toArray]<;>omega)
 exact tail_any (ops:=[.ref a,.ref s2.heap.objs.size]) ht.isList.typeIs slot_list_getitem.lookup hg (by with_unfolding_all rfl)
end
end L2
namespace L2
open PySem PySem.Spec PyProof.Rows
section
variable {X:Cx} {pos:Pos}
def YbU:V→List V→Hp→VK→Prop:=fun x vs H Q=>∃ i,x = .int i∧vs=[]∧Q (.int (Builtin.Int.intBits i:Nat)) H
theorem Ycl:MtR X "int.bit_length" YbU:=by
 intro pins s σ H x vs v us Q I rx r h
 obtain ⟨i,rfl,rfl,q⟩:=h
 obtain ⟨t,rfl⟩:=rx
 cases r
 exact call_gives F.slot_int_bit_length (typeIs_int s i t) F.entry_int_bit_length (F.args_int_bit_length_1 _) (AutoIntG2.int_bit_length_int_0 i t) ⟨.int _,H,I.tok _,⟨_,rfl⟩,q⟩
def YbV:V→List V→Hp→VK→Prop:=fun x vs H Q=>∃ (z y:Str),x = .str z∧vs=[.str y]∧Q (.int (Txt.find z y)) H
theorem Ycm:MtR X "str.find" YbV:=by
 intro pins s σ H x vs v us Q I rx r h
 obtain ⟨z,y,rfl,rfl,q⟩:=h
 obtain ⟨t,rfl⟩:=rx
 obtain ⟨u,rfl,ru⟩:=XA r
 obtain ⟨t',rfl⟩:=ru
 exact call_gives F.slot_str_find (typeIs_str s z t) F.entry_str_find (F.args_str_find_2 _ _) (gives_str_find z y t t') ⟨.int _,H,I.tok _,⟨_,rfl⟩,q⟩
def YcQ:TE:=fun _ H Q=>∀ p,H p=none→Q (.ref p) (upd H p (.dK []))
end
def Gx.ConT (g:Gx) (x:Str) (xs:List V):Prop:=∃ c,g.mg x=some (.ref c)∧∀ H,SqT g.K H c xs
theorem Ycn {K:PySem.W.Frag} {h:Heap} {mg:Str→Option Value} {x:Str} {i:Addr} {dc:Option Addr} {its:Array Value} {n:Nat} {sl:Array (Option Value)} {xs:List V} (X:K.In h) (G:h.Ns mainGlobals mg)
  (a:PySem.W.nsIn K mainGlobals x=some (some (.ref i))) (l:K.lookup i=some ⟨.type "tuple",dc,.seq its n,sl⟩) (hz:its.size≤sizeLine) (r:Yn xs its.toList):∀ P w base,(Gx.mk P w K mg base).ConT x xs :=
 fun P w base=>⟨i,PySem.W.mg_of X G a,fun H => .inr ⟨_,its,n,l,rfl,rfl,hz,r⟩⟩
section
variable {X:Cx} {g:Gx} {x:Str} {pos:Pos}
def YbW (K:PySem.W.Frag) (xs:List V):TE:=fun _ H Q=>∀ c,SqT K H c xs→Q (.ref c) H
theorem YbX {xs:List V} (F:g.ConT x xs) (hX:X.gx=g) (hg:Gl X x) (hd:(x==("__debug__":Str))=false):PE X (.Name x pos) (YbW g.K xs):=by
 subst hX
 obtain ⟨c,e,hc⟩:=F
 exact fun pins s σ H Q I h=>Yb5 hg e (show Ys (.ref c) (.ref c) from rfl) hd pins s σ H Q I (h c (hc H))
end
end L2
namespace L2
open PySem PySem.Spec PyProof.Rows
theorem Ym {c A B:Prop} [Decidable c] (h:¬ c) (hb:B):if c then A else B:=by rw [if_neg h];exact hb
theorem XE {c A B:Prop} [Decidable c] (h:c) (ha:A):if c then A else B:=by rw [if_pos h];exact ha
section
variable {src:List (Option Nat)} {te:TE} {σ:St} {H:Hp} {Q:VK}
theorem QG {tl:TE} {l:List Nat} (ys:List V) (ha:∀ R:V→Hp→Prop,R (.str (S l)) H→tl σ H R) (hl:ys.length=l.length) (hlen:l.length≤100000)
  (step:∀ (i c:Nat) y H',l[i]?=some c→ys[i]?=some y→Yc H H'→∀ R:VK,(∀ H'',Yc H' H''→R y H'')→te (some (.str (S [c]))::Yz src σ) H' R)
  (fin:∀ D H',H D=none→Yc H H'→H' D=some (.lst ys)→Q (.ref D) H'):tLC (none::src) (iStr tl) (Yv 0) Xt te σ H Q :=
 ha _ ⟨S l,rfl,fun D hD=>YaP (YaL (S l) (fun _=>True)) ys (fun _ _=>trivial) hD (by rw [XD];simpa using hl) (by rw [XD];simpa using hlen) (fun i x y H' hx hy sm R r=>by
  rw [XD,List.getElem?_map] at hx
  cases e:l[i]? with
  | none=>rw [e] at hx;cases hx
  | some c =>
   rw [e] at hx
   have:V.str ⟨#[c]⟩=x:=Option.some.inj hx
   subst this
   exact step i c y H' e hy sm R r) fun H'=>fin D H' hD⟩
end
section
variable {X:Cx} {K:PySem.W.Frag} {o e:Expr} {es:List Expr} {to:TE} {t:TA} {name:Str} {apos cpos:Pos} {T id:String} {r:V→List V→Hp→VK→Prop}
theorem YcR (pa:PlainAttrs T) (slot:Slot T name id) (hty:typeOf (.builtin id)=pure (.type "method_descriptor")) (hm:MtR X id r) (ho:PE X o to) (ha:PA X (e::es) t)
  (hbase:attributeBase o name X.env (eval o X.env)=eval o X.env)
  (hfew:((backTo cpos (starEach (e::es) X.env)).all (fun x => !x.1)&&(backToKw cpos (keywordEach [] X.env)).all (fun x=>x.1.isSome)
   && decide ((e::es).length+([]:List Keyword).length+(if ([]:List Keyword).isEmpty then 0 else 1)<30))=true)
  (hline:(apos.endLine==cpos.line)=true) (hs:starEach (e::es) X.env=(false,eval e X.env)::starEach es X.env) (hplain:(backTo cpos (starEach es X.env)).any (·.1)=false) (hK:X.K=K) :
  PE X (.Call (.Attribute o name apos) (e::es) [] cpos) (tBM K T r to t):=by
 subst hK
 exact XB pa slot hty hm ho ha hbase hfew hline hs hplain
end
section
variable {X:Cx}
def Yaa (i j:Int):Prop:=Ur i j∨CMul i j
theorem VE:OpR X (binaryOp .Mult) (rI Yaa fun i j => .int (i*j)):=opI fun _ _ _ _ _ _ _ hc q=>mul_int q (hc.elim (fun h=>h.ok) fun h=>h.ok)
end
theorem Yco (l:List Nat) (c:Nat):(!(Builtin.Str.occurrences (S l) (S [c]) 0 (S l).length 1).isEmpty)=decide (c∈l):=by
 have:=PySem.StrLaws.found_one (S l) c
 rw [XD] at this
 exact this
end L2
namespace L2
open PySem PySem.Spec PyProof.Rows
abbrev XW (h:Heap) (z TI TO:Addr) (f0:Value) (f1:Bool):Prop :=
 h.get? z=some { cls := .type "zip",dict:=none,data := .fields #[f0,.bool f1,.bool false,.ref TI,.ref TO],slots:=#[] }
section
variable {prog:Program} {w:World} {A:Around} {E:Value→Shared→Prop} {s:Shared} {z TI TO i1 i2 T:Addr} {S1 S2:Nat→Heap→Prop} {R1 R2:Heap→(Nat→Option Value)→Prop} {g1 g2:Nat→Option Value} {k:Nat} {a b:Value} {f:Bool} {oT:Obj}
theorem UM {x y:Value} {Q:Option Value→Shared→Prop} (D:ZApart z TI TO i1 i2) (U1:Sub prog w i1 S1 R1) (U2:Sub prog w i2 S2 R2)
  (k1:∀ h h' g,R1 h g→(∀ c o,c≠z→c≠TO→c≠i1→c≠i2→h.get? c=some o→h'.get? c=some o)→R1 h' g) (k2:∀ h h' g,R2 h g→(∀ c o,c≠z→c≠TO→c≠i1→c≠i2→h.get? c=some o→h'.get? c=some o)→R2 h' g)
  (hz:XW s.heap z TI TO (rawInt T) f) (hTI:IsPair s.heap TI (.ref i1) (.ref i2)) (hT:s.heap.get? T=some oT) (h1:S1 k s.heap) (h2:S2 k s.heap) (r1:R1 s.heap g1) (r2:R2 s.heap g2) (hx:g1 k=some x) (hy:g2 k=some y)
  (hQ:∀ h' tk,XW h' z TI TO (rawInt T) true→S1 (k+1) h'→S2 (k+1) h'→IsPair h' s.heap.objs.size x y→h'.objs.size=s.heap.objs.size+1 →
   (∀ c o,c≠z→c≠i1→c≠i2→s.heap.get? c=some o→h'.get? c=some o)→Q (some (.ref s.heap.objs.size)) { s with heap:=h',toks:=tk }) :
  wpAny (model prog w) A (pyNext (.ref z)) Q E s:=by
 have hTy:s.TypeIs (.ref z) "zip":=⟨_,hz,rfl⟩
 unfold pyNext
 refine wpAny_bind (wpAny_attempt (wpAny_callSpecial?_slot (name:=Str.ofString "__next__") hTy F.slot_zip_next (wpAny_call_entry F.slot_zip_next hTy F.entry_zip_next ?_ (F.args_zip_next_1 _))))
 show wpAny _ _ (field (.ref z) 2 >>= _) _ _ _
 refine wpAny_bind (wpAny_field hz rfl (x := .bool false) rfl ?_)
 show wpAny _ _ (field (.ref z) 3 >>= _) _ _ _
 refine wpAny_bind (wpAny_field hz rfl (x := .ref TI) rfl ?_)
 refine wpAny_bind (wpAny_seqItems hTI rfl ?_)
 show wpAny _ _ (Builtin.SmallTypes.ownedTupleIsFree (.ref z) >>= _) _ _ _
 refine wpAny_bind ?_
 unfold Builtin.SmallTypes.ownedTupleIsFree
 refine wpAny_bind (wpAny_field hz rfl (x:=rawInt T) rfl ?_)
 show wpAny _ _ (loadIfAlive ((T:Int).toNat) >>= _) _ _ _
 rw [Int.toNat_natCast]
 refine wpAny_bind (PySem.W.kdx_alive hT ?_)
 simp only [Option.isNone_some,Bool.false_eq_true,if_false]
 refine wpAny_bind (wpAny_field hz rfl (x := .bool f) rfl ?_)
 have step:∀ (P:Bool→Shared→Prop) (E':Value→Shared→Prop),(∀ h₀:Heap,XW h₀ z TI TO (rawInt T) true→Heap.SameBut z s.heap h₀→P false { s with heap:=h₀ }) →
   wpAny (model prog w) A.in1 (if (Value.bool f != Value.bool true)=true then do setField (Value.ref z) 1 (Value.bool true);pure false else pure false) P E' s:=by
  intro P E' h
  cases f with
  | true =>
   rw [if_neg (show ¬ ((Value.bool true != Value.bool true)=true) from Bool.false_ne_true)]
   exact wpAny_pure (h s.heap hz (Heap.SameBut.refl _ _))
  | false =>
   rw [if_pos (show (Value.bool false != Value.bool true)=true from rfl)]
   exact wpAny_bind (wpAny_setField_rec hz (by simp) fun h₃ he₃ hs₃=>wpAny_pure (h h₃ he₃ hs₃))
 refine step _ _ fun h₀ hz₀ hs₀=>?_
 simp only [Bool.false_eq_true,if_false]
 have S1₀:S1 k h₀:=U1.keep _ _ _ h1 fun o e=>hs₀.extBut _ _ D.c e
 have R1₀:R1 h₀ g1:=k1 _ _ _ r1 fun c o c1 _ _ _ e=>hs₀.extBut _ _ c1 e
 rw [← Array.forIn_toList]
 simp only [List.forIn_cons,List.forIn_nil]
 refine wpAny_bind (wpAny_bind (wpAny_bind (wpAny_holding ?_)))
 show wpAny _ _ (Builtin.SmallTypes.nextOf (.ref i1) >>= _) _ _ _
 refine wpAny_bind (U1.item _ k { s with heap:=h₀ } g1 x _ _ S1₀ R1₀ hx fun h₂ tk₂ S1₂ hs₂=>wpAny_pure ?_)
 have kk₂:∀ c o,c≠z→c≠i1→s.heap.get? c=some o→h₂.get? c=some o:=fun c o c1 c3 e=>hs₂.extBut _ _ c3 (hs₀.extBut _ _ c1 e)
 refine wpAny_pure ?_
 dsimp only
 have S2₂:S2 k h₂:=U2.keep _ _ _ h2 fun o e=>hs₂.extBut _ _ D.j.symm (hs₀.extBut _ _ D.d e)
 refine wpAny_bind (wpAny_bind (wpAny_holding ?_))
 show wpAny _ _ (Builtin.SmallTypes.nextOf (.ref i2) >>= _) _ _ _
 refine wpAny_bind (U2.item _ k { s with heap:=h₂,toks:=tk₂ } g2 y _ _ S2₂ (k2 _ _ _ r2 fun c o c1 c2 c3 c4 e=>kk₂ c o c1 c3 e) hy fun h₄ tk₄ S2₄ hs₄=>wpAny_pure ?_)
 refine wpAny_pure (wpAny_pure ?_)
 dsimp only
 refine wpAny_bind (wpAny_newTuple ?_ (show (2:Nat)≤sizeLine by decide))
 have hsz:h₄.objs.size=s.heap.objs.size:=by rw [hs₄.1,hs₂.1,hs₀.1]
 have hz₄:XW h₄ z TI TO (rawInt T) true:=hs₄.extBut _ _ D.d.symm (hs₂.extBut _ _ D.c.symm hz₀)
 refine wpAny_pure ⟨_,rfl,wpAny_pure ?_⟩
 show Q (some (.ref h₄.objs.size)) _
 have hlast:=hQ (h₄.push { cls := .type "tuple",data := .seq #[x,y] }) tk₄ (Heap.get?_push_of_some _ hz₄) (U1.keep _ _ _ S1₂ fun o e=>Heap.get?_push_of_some _ (hs₄.extBut _ _ D.j e)) (U2.keep _ _ _ S2₄ fun o e=>Heap.get?_push_of_some _ e)
  (by rw [← hsz];exact Heap.get?_push_size _ rfl) (by rw [Heap.size_push,hsz]) fun c o c1 c3 c4 e=>Heap.get?_push_of_some _ (hs₄.extBut _ _ c4 (kk₂ c o c1 c3 e))
 rw [hsz]
 exact hlast
theorem Qf {Q:Option Value→Shared→Prop} (hh:A.handled=none) (D:ZApart z TI TO i1 i2) (U1:Sub prog w i1 S1 R1) (U2:Sub prog w i2 S2 R2)
  (k1:∀ h h' g,R1 h g→(∀ c o,c≠z→c≠TO→c≠i1→c≠i2→h.get? c=some o→h'.get? c=some o)→R1 h' g)
  (hz:XW s.heap z TI TO (rawInt T) f) (hTI:IsPair s.heap TI (.ref i1) (.ref i2)) (hT:s.heap.get? T=some oT) (h1:S1 k s.heap) (r1:R1 s.heap g1) (hend:g1 k=none)
  (hQ:∀ h' tk,(∀ c o,c≠z→c≠i1→c≠i2→s.heap.get? c=some o→h'.get? c=some o)→Q none { s with heap:=h',toks:=tk }):wpAny (model prog w) A (pyNext (.ref z)) Q E s:=by
 have hTy:s.TypeIs (.ref z) "zip":=⟨_,hz,rfl⟩
 unfold pyNext
 refine wpAny_bind (wpAny_attempt (wpAny_callSpecial?_slot (name:=Str.ofString "__next__") hTy F.slot_zip_next (wpAny_call_entry F.slot_zip_next hTy F.entry_zip_next ?_ (F.args_zip_next_1 _))))
 show wpAny _ _ (field (.ref z) 2 >>= _) _ _ _
 refine wpAny_bind (wpAny_field hz rfl (x := .bool false) rfl ?_)
 show wpAny _ _ (field (.ref z) 3 >>= _) _ _ _
 refine wpAny_bind (wpAny_field hz rfl (x := .ref TI) rfl ?_)
 refine wpAny_bind (wpAny_seqItems hTI rfl ?_)
 show wpAny _ _ (Builtin.SmallTypes.ownedTupleIsFree (.ref z) >>= _) _ _ _
 refine wpAny_bind ?_
 unfold Builtin.SmallTypes.ownedTupleIsFree
 refine wpAny_bind (wpAny_field hz rfl (x:=rawInt T) rfl ?_)
 show wpAny _ _ (loadIfAlive ((T:Int).toNat) >>= _) _ _ _
 rw [Int.toNat_natCast]
 refine wpAny_bind (PySem.W.kdx_alive hT ?_)
 simp only [Option.isNone_some,Bool.false_eq_true,if_false]
 refine wpAny_bind (wpAny_field hz rfl (x := .bool f) rfl ?_)
 have step:∀ (P:Bool→Shared→Prop) (E':Value→Shared→Prop),(∀ h₀:Heap,XW h₀ z TI TO (rawInt T) true→Heap.SameBut z s.heap h₀→P false { s with heap:=h₀ }) →
   wpAny (model prog w) A.in1 (if (Value.bool f != Value.bool true)=true then do setField (Value.ref z) 1 (Value.bool true);pure false else pure false) P E' s:=by
  intro P E' h
  cases f with
  | true =>
   rw [if_neg (show ¬ ((Value.bool true != Value.bool true)=true) from Bool.false_ne_true)]
   exact wpAny_pure (h s.heap hz (Heap.SameBut.refl _ _))
  | false =>
   rw [if_pos (show (Value.bool false != Value.bool true)=true from rfl)]
   exact wpAny_bind (wpAny_setField_rec hz (by simp) fun h₃ he₃ hs₃=>wpAny_pure (h h₃ he₃ hs₃))
 refine step _ _ fun h₀ hz₀ hs₀=>?_
 simp only [Bool.false_eq_true,if_false]
 have S1₀:S1 k h₀:=U1.keep _ _ _ h1 fun o e=>hs₀.extBut _ _ D.c e
 have R1₀:R1 h₀ g1:=k1 _ _ _ r1 fun c o c1 _ _ _ e=>hs₀.extBut _ _ c1 e
 rw [← Array.forIn_toList]
 simp only [List.forIn_cons,List.forIn_nil]
 refine wpAny_bind (wpAny_bind (wpAny_bind (wpAny_holding ?_)))
 show wpAny _ _ (Builtin.SmallTypes.nextOf (.ref i1) >>= _) _ _ _
 refine wpAny_bind (U1.fin _ k { s with heap:=h₀ } g1 _ _ hh S1₀ R1₀ hend fun h₂ e hs₂ he=>?_)
 obtain ⟨oe,hoe,hce⟩:=he
 refine wpAny_bind (wpAny_isInstance (T:="StopIteration") (b:=true) ⟨oe,hoe,hce⟩ isSubtype_stop ?_)
 exact wpAny_pure (hQ h₂ s.toks fun c o c1 c3 c4 x=>hs₂ _ _ c3 (hs₀.extBut _ _ c1 x))
end
section
variable {prog:Program} {w:World} {A:Around} {s:Shared} {R:Result→Shared→Prop} {z TI TO i1 i2 S p1 p2:Addr} {xs ys:List Value}
def ZSt (h:Heap) (z TI TO i1 i2 p1 p2:Addr) (i:Nat) (as:List Addr):Prop :=
 IsPair h TI (.ref i1) (.ref i2)∧h.IsTupleIter i1 p1 i∧h.IsTupleIter i2 p2 i∧((i=0∧IsZip h z TI TO .none∧∃ a b,IsPair h TO a b)∨∃ T f,T∈as∧XW h z TI TO (rawInt T) f)
theorem Ybq (hh:A.handled=none) (D:ZApart z TI TO i1 i2) (lo:Nat) (hlo:z<lo∧TI<lo∧TO<lo∧i1<lo∧i2<lo∧S<lo∧p1<lo∧p2<lo) (nS:S∉[z,TI,TO,i1,i2,p1,p2]) (n1:p1∉[z,TO,i1,i2]) (n2:p2∉[z,TO,i1,i2]) (hl:xs.length=ys.length) (hn:xs.length≤sizeLine) (res:Value) {h₁:Heap}
  (hR:∀ (h':Heap) (tk:Nat) (acc:Array Value) (c:Nat) (as:List Addr),(∀ b o,b∉[S,z,TO,i1,i2]→h₁.get? b=some o→h'.get? b=some o)→h'.get? S=some { cls := .type "list",dict:=none,data := .seq acc c,slots:=#[] }→as.length=xs.length→acc.toList=as.map Value.ref →
   as.Pairwise (·<·)→(∀ a∈as,lo≤a)→(∀ (j:Nat) a x y,as[j]?=some a→xs[j]?=some x→ys[j]?=some y→IsPair h' a x y)→R (.ok (.ret res)) { s with heap:=h',toks:=tk }) :
  ∀ (k i:Nat) (h:Heap) (tk c:Nat) (acc:Array Value) (as:List Addr),xs.length - i=k→i≤xs.length→ZSt h z TI TO i1 i2 p1 p2 i as→h.IsTuple p1 xs.toArray→h.IsTuple p2 ys.toArray→(∀ b o,b∉[S,z,TO,i1,i2]→h₁.get? b=some o→h.get? b=some o) →
   h.get? S=some { cls := .type "list",dict:=none,data := .seq acc c,slots:=#[] }→acc.toList=as.map Value.ref→as.length=i→as.Pairwise (·<·)→(∀ a∈as,lo≤a∧a<h.objs.size)→(∀ (j:Nat) a x y,as[j]?=some a→xs[j]?=some x→ys[j]?=some y→IsPair h a x y)→lo≤h.objs.size →
   codeAny (model prog w) A (.builtin "list.extend.loop" ⟨[.ref S,.ref z,res],[]⟩) R { s with heap:=h,toks:=tk }:=by
 intro k
 have nz:S≠z:=fun e=>nS (by simp [e])
 have nTI:S≠TI:=fun e=>nS (by simp [e])
 have nTO:S≠TO:=fun e=>nS (by simp [e])
 have ni1:S≠i1:=fun e=>nS (by simp [e])
 have ni2:S≠i2:=fun e=>nS (by simp [e])
 have np1:S≠p1:=fun e=>nS (by simp [e])
 have np2:S≠p2:=fun e=>nS (by simp [e])
 have q1:p1≠z∧p1≠TO∧p1≠i1∧p1≠i2:=⟨fun e=>n1 (by simp [e]),fun e=>n1 (by simp [e]),fun e=>n1 (by simp [e]),fun e=>n1 (by simp [e])⟩
 have q2:p2≠z∧p2≠TO∧p2≠i1∧p2≠i2:=⟨fun e=>n2 (by simp [e]),fun e=>n2 (by simp [e]),fun e=>n2 (by simp [e]),fun e=>n2 (by simp [e])⟩
 have big:∀ {a:Addr},lo≤a→a≠z∧a≠TO∧a≠i1∧a≠i2∧a≠S:=fun {a} ha=>by
  obtain ⟨l1,l2,l3,l4,l5,l6,_⟩:=hlo
  refine ⟨?_,?_,?_,?_,?_⟩<;>(intro e;subst e;exact absurd ha (Nat.not_le.mpr (by assumption)))
 have rdy1:∀ h:Heap,h.IsTuple p1 xs.toArray→∃ items:Array Value,h.IsTuple p1 items∧∀ k:Nat,(fun k:Nat=>xs[k]?) k=items[k]?:=fun h e=>⟨_,e,fun (k:Nat)=>by simp⟩
 have rdy2:∀ h:Heap,h.IsTuple p2 ys.toArray→∃ items:Array Value,h.IsTuple p2 items∧∀ k:Nat,(fun k:Nat=>ys[k]?) k=items[k]?:=fun h e=>⟨_,e,fun (k:Nat)=>by simp⟩
 have kp1:∀ (h h':Heap) (g:Nat→Option Value),(∃ items:Array Value,h.IsTuple p1 items∧∀ k,g k=items[k]?)→(∀ c o,c≠z→c≠TO→c≠i1→c≠i2→h.get? c=some o→h'.get? c=some o)→∃ items:Array Value,h'.IsTuple p1 items∧∀ k,g k=items[k]? :=
  fun h h' g ⟨items,⟨o,e,r⟩,q⟩ k=>⟨items,⟨o,k _ o q1.1 q1.2.1 q1.2.2.1 q1.2.2.2 e,r⟩,q⟩
 have kp2:∀ (h h':Heap) (g:Nat→Option Value),(∃ items:Array Value,h.IsTuple p2 items∧∀ k,g k=items[k]?)→(∀ c o,c≠z→c≠TO→c≠i1→c≠i2→h.get? c=some o→h'.get? c=some o)→∃ items:Array Value,h'.IsTuple p2 items∧∀ k,g k=items[k]? :=
  fun h h' g ⟨items,⟨o,e,r⟩,q⟩ k=>⟨items,⟨o,k _ o q2.1 q2.2.1 q2.2.2.1 q2.2.2.2 e,r⟩,q⟩
 induction k with
 | zero =>
  intro i h tk c acc as hk hi hst ht1 ht2 hkeep hS hacc hal hpw hab hpr hlo'
  have hin:i=xs.length:=by omega
  refine codeAny_builtin PySem.F.entry_extend_loop ?_
  rw [Around.under_plainId PySem.F.plain_extend_loop _]
  show wpAny _ A.in1 (pyNext (.ref z) >>= _) _ _ _
  obtain ⟨hTI,hi1,hi2,hzs⟩:=hst
  have fin:∀ h' tk',(∀ b o,b≠z→b≠TO→b≠i1→b≠i2→h.get? b=some o→h'.get? b=some o)→R (.ok (.ret res)) { s with heap:=h',toks:=tk' }:=fun h' tk' kp=>by
   refine hR h' tk' acc c as (fun b o hb e=>?_) (kp S _ nz nTO ni1 ni2 hS) (by omega) hacc hpw (fun a ha=>(hab a ha).1) (fun j a x y h1 h2 h3=>?_)
   ·simp only [List.mem_cons,List.not_mem_nil,or_false,not_or] at hb
    exact kp b o hb.2.1 hb.2.2.1 hb.2.2.2.1 hb.2.2.2.2 (hkeep b o (by simp [hb]) e)
   ·have hb:=big (hab a (List.mem_of_getElem? h1)).1
    exact kp a _ hb.1 hb.2.1 hb.2.2.1 hb.2.2.2.1 (hpr j a x y h1 h2 h3)
  rcases hzs with ⟨e0,hz,a,b,hTO⟩ | ⟨T,f,hT,hz⟩
  ·refine wpAny_bind (QD (s:={ s with heap:=h,toks:=tk }) (A:=A.in1) (k:=i) hh D (Y4 i1 p1) (Y4 i2 p2) kp1 kp2 hz hTI hTO hi1 hi2 (rdy1 h ht1) (rdy2 h ht2) (.inl (List.getElem?_eq_none (by omega))) fun h' tk' kp=>wpAny_pure (fin h' tk' kp))
  ·obtain ⟨j,hj⟩:=List.mem_iff_getElem?.mp hT
   have hjl:=(List.getElem?_eq_some_iff.mp hj).1
   have:=hpr j T _ _ hj (List.getElem?_eq_getElem (show j<xs.length by omega)) (List.getElem?_eq_getElem (show j<ys.length by omega))
   refine wpAny_bind (Qf (s:={ s with heap:=h,toks:=tk }) (A:=A.in1) (k:=i) hh D (Y4 i1 p1) (Y4 i2 p2) kp1 hz hTI this hi1 (rdy1 h ht1) (List.getElem?_eq_none (by omega)) fun h' tk' kp=>wpAny_pure (fin h' tk' fun b o b1 _ b3 b4 e=>kp b o b1 b3 b4 e))
 | succ k ih =>
  intro i h tk c acc as hk hi hst ht1 ht2 hkeep hS hacc hal hpw hab hpr hlo'
  have hlt:i<xs.length:=by omega
  have hlt2:i<ys.length:=by omega
  have hx:xs[i]?=some xs[i]:=List.getElem?_eq_getElem hlt
  have hy:ys[i]?=some ys[i]:=List.getElem?_eq_getElem hlt2
  have hsz:acc.size=i:=by rw [← Array.length_toList,hacc,List.length_map,hal]
  refine codeAny_builtin PySem.F.entry_extend_loop ?_
  rw [Around.under_plainId PySem.F.plain_extend_loop _]
  show wpAny _ A.in1 (pyNext (.ref z) >>= _) _ _ _
  obtain ⟨hTI,hi1,hi2,hzs⟩:=hst
  have step:∀ (Q:Option Value→Shared→Prop) (E:Value→Shared→Prop),(∀ (h':Heap) (tk':Nat) (T:Addr) (f:Bool),T∈as++[h.objs.size]→XW h' z TI TO (rawInt T) f→h'.IsTupleIter i1 p1 (i+1)→h'.IsTupleIter i2 p2 (i+1)→IsPair h' h.objs.size xs[i] ys[i]→h'.objs.size=h.objs.size+1 →
    (∀ c o,c≠z→c≠TO→c≠i1→c≠i2→h.get? c=some o→h'.get? c=some o)→Q (some (.ref h.objs.size)) { s with heap:=h',toks:=tk' })→wpAny (model prog w) A.in1 (pyNext (.ref z)) Q E { s with heap:=h,toks:=tk }:=by
   intro Q E hq
   rcases hzs with ⟨e0,hz,a,b,hTO⟩ | ⟨T,f,hT,hz⟩
   ·exact UH (s:={ s with heap:=h,toks:=tk }) (A:=A.in1) (k:=i) D (Y4 i1 p1) (Y4 i2 p2) kp1 kp2 hz hTI hTO hi1 hi2 (rdy1 h ht1) (rdy2 h ht2) hx hy fun h' tk' hz' _ s1 s2 hp hs kp=>hq h' tk' h.objs.size _ (by simp) hz' s1 s2 hp hs kp
   ·obtain ⟨j,hj⟩:=List.mem_iff_getElem?.mp hT
    have hjl:=(List.getElem?_eq_some_iff.mp hj).1
    have:=hpr j T _ _ hj (List.getElem?_eq_getElem (show j<xs.length by omega)) (List.getElem?_eq_getElem (show j<ys.length by omega))
    exact UM (s:={ s with heap:=h,toks:=tk }) (A:=A.in1) (k:=i) D (Y4 i1 p1) (Y4 i2 p2) kp1 kp2 hz hTI this hi1 hi2 (rdy1 h ht1) (rdy2 h ht2) hx hy fun h' tk' hz' s1 s2 hp hs kp=>hq h' tk' T _ (by simp [hT]) hz' s1 s2 hp hs fun c o c1 _ c3 c4 e=>kp c o c1 c3 c4 e
  refine wpAny_bind (step _ _ fun h' tk' T f hT hz' s1 s2 hp hs hkp=>?_)
  have hS':=hkp S _ nz nTO ni1 ni2 hS
  have up:∀ b o,b≠S→h'.get? b=some o→(h'.update S (Obj.mapSeq (·.push (Value.ref h.objs.size)))).get? b=some o:=fun b o hb e=>(Heap.get?_update_other _ _ (Ne.symm hb)).trans e
  have hSl:S<h.objs.size:=Heap.lt_size hS
  have np:h.objs.size≠S:=Nat.ne_of_gt hSl
  show wpAny _ A.in1 (updateSeq S (·.push (Value.ref h.objs.size)) >>= _) _ _ _
  refine wpAny_bind ?_
  refine wpAny_updateSeq hS' rfl (wpAny_pure ⟨plainId_quiet PySem.F.plain_extend_loop _,ih (i+1) _ tk' _ (acc.push (Value.ref h.objs.size)) (as++[h.objs.size]) (by omega) hlt ⟨?_,?_,?_,.inr ⟨T,f,hT,up _ _ nz.symm hz'⟩⟩ ?_ ?_
   (fun b o hb e=>?_) (Heap.get?_update_self _ hS' rfl) (by rw [Array.toList_push,hacc,List.map_append];rfl) (by rw [List.length_append,hal];rfl) ?_ ?_ ?_ ?_⟩) (by rw [hsz];omega) (by show (acc.push (Value.ref h.objs.size)).size≤sizeLine+1;rw [Array.size_push,hsz];omega)
  ·exact up _ _ nTI.symm (hkp TI _ D.a D.e D.f D.g hTI)
  ·obtain ⟨o,e,r⟩:=s1
   exact ⟨o,up _ _ ni1.symm e,r⟩
  ·obtain ⟨o,e,r⟩:=s2
   exact ⟨o,up _ _ ni2.symm e,r⟩
  ·obtain ⟨o,e,r⟩:=ht1
   exact ⟨o,up _ _ np1.symm (hkp _ _ q1.1 q1.2.1 q1.2.2.1 q1.2.2.2 e),r⟩
  ·obtain ⟨o,e,r⟩:=ht2
   exact ⟨o,up _ _ np2.symm (hkp _ _ q2.1 q2.2.1 q2.2.2.1 q2.2.2.2 e),r⟩
  ·have hb':=hb
   simp only [List.mem_cons,List.not_mem_nil,or_false,not_or] at hb'
   exact up b o hb'.1 (hkp b o hb'.2.1 hb'.2.2.1 hb'.2.2.2.1 hb'.2.2.2.2 (hkeep b o hb e))
  ·refine List.pairwise_append.mpr ⟨hpw,List.pairwise_singleton _ _,fun a ha b hb=>?_⟩
   rw [List.mem_singleton.mp hb]
   exact (hab a ha).2
  ·have hsz':(h'.update S (Obj.mapSeq (·.push (Value.ref h.objs.size)))).objs.size=h.objs.size+1:=by rw [← hs];exact Heap.size_update _ _ _
   intro a ha
   rw [hsz']
   rcases List.mem_append.mp ha with ha | ha
   ·exact ⟨(hab a ha).1,Nat.lt_succ_of_lt (hab a ha).2⟩
   ·rw [List.mem_singleton.mp ha];exact ⟨hlo',Nat.lt_succ_self _⟩
  ·intro j b x y hj ex ey
   rcases Nat.lt_trichotomy j as.length with h1 | h1 | h1
   ·rw [List.getElem?_append_left h1] at hj
    have hb:=big (hab b (List.mem_of_getElem? hj)).1
    exact up b _ hb.2.2.2.2 (hkp b _ hb.1 hb.2.1 hb.2.2.1 hb.2.2.2.1 (hpr j b x y hj ex ey))
   ·subst h1
    have hb:h.objs.size=b:=by simpa using hj
    subst hb
    rw [hal] at ex ey
    rw [hx] at ex
    rw [hy] at ey
    cases ex
    cases ey
    exact up _ _ np hp
   ·have hnone:(as++[h.objs.size])[j]?=none:=List.getElem?_eq_none (by rw [List.length_append,List.length_singleton];omega)
    rw [hnone] at hj;cases hj
  ·have hsz':(h'.update S (Obj.mapSeq (·.push (Value.ref h.objs.size)))).objs.size=h.objs.size+1:=by rw [← hs];exact Heap.size_update _ _ _
   rw [hsz'];exact Nat.le_succ_of_le hlo'
end
end L2
namespace L2
open PySem PySem.Calls PySem.Spec PyProof.Rows PyProof.V
theorem Yab:typeLookup (.type "zip") "__len__"=pure none:=by rw [typeLookup_type,builtinLookup_eq_fast];kernel_rfl
theorem Qg:typeLookup (.type "zip") "__length_hint__"=pure none:=by rw [typeLookup_type,builtinLookup_eq_fast];kernel_rfl
section
variable {prog:Program} {w:World} {A:Around} {E:Value→Shared→Prop} {s:Shared} {z TI TO i1 i2 p1 p2:Addr} {xs ys:List Value}
theorem Ybr (hT:s.TypeIs (.ref z) "zip") {Q:Bool→Shared→Prop} (h:Q true s):wpAny (model prog w) A (Builtin.List.listLengthHint (.ref z)) Q E s:=by
 unfold Builtin.List.listLengthHint
 refine wpAny_bind (wpAny_specialOf hT Yab ?_)
 show wpAny _ _ (specialOf (.ref z) "__length_hint__" >>= _) _ _ _
 refine wpAny_bind (wpAny_specialOf hT Qg ?_)
 exact wpAny_pure h
structure ZGot (xs ys:List Value) (lo:Nat) (h:Heap) (as:List Addr):Prop where
 len:as.length=xs.length
 rise:as.Pairwise (·<·)
 above:∀ a∈as,lo≤a
 pairs:∀ (j:Nat) a x y,as[j]?=some a→xs[j]?=some x→ys[j]?=some y→IsPair h a x y
theorem Yac {R:Result→Shared→Prop} {S:Addr} {oa ob:Value} (hh:A.handled=none) (D:ZApart z TI TO i1 i2) (hlt:z<S∧TI<S∧TO<S∧i1<S∧i2<S∧p1<S∧p2<S) (n1:p1∉[z,TO,i1,i2]) (n2:p2∉[z,TO,i1,i2]) (hl:xs.length=ys.length) (hn:xs.length≤sizeLine) (res:Value) (c₀:Nat)
  (hz:IsZip s.heap z TI TO .none) (hTI:IsPair s.heap TI (.ref i1) (.ref i2)) (hTO:IsPair s.heap TO oa ob) (h1:s.heap.IsTupleIter i1 p1 0) (h2:s.heap.IsTupleIter i2 p2 0) (t1:s.heap.IsTuple p1 xs.toArray) (t2:s.heap.IsTuple p2 ys.toArray) (hS:s.heap.get? S=some { cls := .type "list",data := .seq #[] c₀ })
  (hR:∀ (h':Heap) (tk:Nat) (acc:Array Value) (c:Nat) (as:List Addr),(∀ b o,b∉[S,z,TO,i1,i2]→s.heap.get? b=some o→h'.get? b=some o)→h'.get? S=some { cls := .type "list",dict:=none,data := .seq acc c,slots:=#[] }→acc.toList=as.map Value.ref→ZGot xs ys (S+1) h' as→R (.ok (.ret res)) { s with heap:=h',toks:=tk }) :
  wpAny (model prog w) A.in1 (Builtin.List.listExtendWith (.ref S) (.ref z) res)
   (fun fin s'=>match fin with | .done f=>R (.ok f) s' | .again c'=>c'.quiet=true∧codeAny (model prog w) A c' R s') (fun e s'=>R (.error e) s') s:=by
 obtain ⟨l1,l2,l3,l4,l5,l6,l7⟩:=hlt
 have nS:S∉[z,TI,TO,i1,i2,p1,p2]:=by
  intro hm
  simp only [List.mem_cons,List.not_mem_nil,or_false] at hm
  rcases hm with e | e | e | e | e | e | e<;>(subst e;first | exact absurd l1 (Nat.lt_irrefl _) | exact absurd l2 (Nat.lt_irrefl _) | exact absurd l3 (Nat.lt_irrefl _) | exact absurd l4 (Nat.lt_irrefl _) | exact absurd l5 (Nat.lt_irrefl _) | exact absurd l6 (Nat.lt_irrefl _) | exact absurd l7 (Nat.lt_irrefl _))
 have key:∀ (h:Heap) (c₁ tk:Nat),(∀ b o,b≠S→s.heap.get? b=some o→h.get? b=some o)→h.get? S=some { cls := .type "list",data := .seq #[] c₁ }→codeAny (model prog w) A (.builtin "list.extend.loop" ⟨[.ref S,.ref z,res],[]⟩) R { s with heap:=h,toks:=tk }:=by
  intro h c₁ tk hk hS₁
  have m:∀ {b:Addr},b<S→∀ o,s.heap.get? b=some o→h.get? b=some o:=fun {b} hb o e=>hk b o (Nat.ne_of_lt hb) e
  refine Ybq (s:=s) (h₁:=s.heap) hh D (S+1) ⟨Nat.lt_succ_of_lt l1,Nat.lt_succ_of_lt l2,Nat.lt_succ_of_lt l3,Nat.lt_succ_of_lt l4,Nat.lt_succ_of_lt l5,Nat.lt_succ_self _,Nat.lt_succ_of_lt l6,Nat.lt_succ_of_lt l7⟩ nS n1 n2 hl hn res (fun h' tk' acc c as kp eS ln ac pw ab pr=>hR h' tk' acc c as kp eS ac ⟨ln,pw,ab,pr⟩)
   xs.length 0 h tk c₁ #[] [] (Nat.sub_zero _) (Nat.zero_le _) ⟨m l2 _ hTI,?_,?_,.inl ⟨rfl,m l1 _ hz,_,_,m l3 _ hTO⟩⟩ ?_ ?_ (fun b o hb e=>hk b o (fun q=>hb (by simp [q])) e) hS₁ rfl rfl List.Pairwise.nil (fun _ ha=>nomatch ha) (fun j a x y hj=>by simp at hj) (Heap.lt_size hS₁)
  ·obtain ⟨o,e,r⟩:=h1;exact ⟨o,m l4 _ e,r⟩
  ·obtain ⟨o,e,r⟩:=h2;exact ⟨o,m l5 _ e,r⟩
  ·obtain ⟨o,e,r⟩:=t1;exact ⟨o,m l6 _ e,r⟩
  ·obtain ⟨o,e,r⟩:=t2;exact ⟨o,m l7 _ e,r⟩
 have hT:s.TypeIs (.ref z) "zip":=⟨_,hz,rfl⟩
 unfold Builtin.List.listExtendWith
 refine wpAny_bind (wpAny_typeOf (T:="zip") hT ?_)
 have h1:Builtin.List.listSameRef (.ref S) (.ref z)=false:=by simp [Builtin.List.listSameRef,Nat.ne_of_gt l1]
 have h2:(Value.type "zip"==Value.type "list")=false:=by decide
 have h3:(Value.type "zip"==Value.type "tuple")=false:=by decide
 simp only [h1,h2,h3,Bool.or_false,Bool.false_eq_true,if_false]
 refine wpAny_bind (wpAny_pyIter_zip hz ?_)
 refine wpAny_bind (wpAny_holding (Ybr hT ?_))
 refine wpAny_ite_split (fun _=>?_) (fun _=>wpAny_pure ⟨plainId_quiet PySem.F.plain_extend_loop _,key _ c₀ _ (fun b o _ e=>e) hS⟩)
 refine wpAny_bind (wpAny_rule ?_)
 refine wpAny_bind ?_
 show wpAny _ _ (updateSeq S (·.push .none) >>= fun _=>updateSeq S (·.pop)) _ _ _
 refine wpAny_bind (wpAny_updateSeq hS rfl ?_)
 have hS₂:=Heap.get?_update_self (Obj.mapSeq (·.push Value.none)) hS rfl
 refine wpAny_updateSeq (hz:=by seq_fits) hS₂ rfl ?_
 have hS₃:=Heap.get?_update_self (Obj.mapSeq (·.pop)) hS₂ rfl
 refine wpAny_pure ⟨plainId_quiet PySem.F.plain_extend_loop _,key _ _ _ (fun b o hb e=>?_) hS₃⟩
 exact (Heap.get?_update_other _ _ (Ne.symm hb)).trans ((Heap.get?_update_other _ _ (Ne.symm hb)).trans e)
theorem Ybs {R:Result→Shared→Prop} {S:Addr} {oa ob:Value} (hh:A.handled=none) (D:ZApart z TI TO i1 i2) (hlt:z<S∧TI<S∧TO<S∧i1<S∧i2<S∧p1<S∧p2<S) (n1:p1∉[z,TO,i1,i2]) (n2:p2∉[z,TO,i1,i2]) (hl:xs.length=ys.length) (hn:xs.length≤sizeLine)
  (hz:IsZip s.heap z TI TO .none) (hTI:IsPair s.heap TI (.ref i1) (.ref i2)) (hTO:IsPair s.heap TO oa ob) (h1:s.heap.IsTupleIter i1 p1 0) (h2:s.heap.IsTupleIter i2 p2 0) (t1:s.heap.IsTuple p1 xs.toArray) (t2:s.heap.IsTuple p2 ys.toArray) (hS:s.heap.get? S=some { cls := .type "list",data := .seq #[] })
  (hR:∀ (h':Heap) (tk:Nat) (acc:Array Value) (c:Nat) (as:List Addr),(∀ b o,b∉[S,z,TO,i1,i2]→s.heap.get? b=some o→h'.get? b=some o)→h'.get? S=some { cls := .type "list",dict:=none,data := .seq acc c,slots:=#[] }→acc.toList=as.map Value.ref→ZGot xs ys (S+1) h' as→R (.ok (.ret .none)) { s with heap:=h',toks:=tk }) :
  wpAny (model prog w) A.in1 (Builtin.«list.__init__» ⟨[.ref S,.ref z],[]⟩)
   (fun fin s'=>match fin with | .done f=>R (.ok f) s' | .again c'=>c'.quiet=true∧codeAny (model prog w) A c' R s') (fun e s'=>R (.error e) s') s:=by
 show wpAny _ _ (do let old ← Builtin.List.listItems (.ref S);Builtin.List.listUpdate (.ref S) (fun _=>#[]);letGo old.toList.reverse;Builtin.List.listExtendWith (.ref S) (.ref z) .none) _ _ s
 refine wpAny_bind ?_
 unfold Builtin.List.listItems
 refine wpAny_bind (wpAny_seqItems hS rfl (wpAny_pure ?_))
 show wpAny _ _ (updateSeq S (fun _=>#[]) >>= fun _=>letGo (#[]:Array Value).toList.reverse >>= fun _=>Builtin.List.listExtendWith (.ref S) (.ref z) .none) _ _ s
 refine wpAny_bind (wpAny_updateSeq hS rfl ?_)
 have hS₂:=Heap.get?_update_self (Obj.mapSeq (fun _=>(#[]:Array Value))) hS rfl
 have oth:∀ b o,b≠S→s.heap.get? b=some o→(s.heap.update S (Obj.mapSeq (fun _=>(#[]:Array Value)))).get? b=some o :=
  fun b o hb e=>(Heap.get?_update_other _ _ (Ne.symm hb)).trans e
 have m:∀ {b:Addr},b<S→∀ o,s.heap.get? b=some o→(s.heap.update S (Obj.mapSeq (fun _=>(#[]:Array Value)))).get? b=some o:=fun {b} hb o e=>oth b o (Nat.ne_of_lt hb) e
 refine wpAny_bind (wpAny_letGo ?_)
 refine Yac (oa:=oa) (ob:=ob) (xs:=xs) (ys:=ys) hh D hlt n1 n2 hl hn .none _ (m hlt.1 _ hz) (m hlt.2.1 _ hTI) (m hlt.2.2.1 _ hTO) ?_ ?_ ?_ ?_ hS₂ (fun h' tk acc c as hk hS' hacc hG=>?_)
 ·obtain ⟨o,e,r⟩:=h1;exact ⟨o,m hlt.2.2.2.1 _ e,r⟩
 ·obtain ⟨o,e,r⟩:=h2;exact ⟨o,m hlt.2.2.2.2.1 _ e,r⟩
 ·obtain ⟨o,e,r⟩:=t1;exact ⟨o,m hlt.2.2.2.2.2.1 _ e,r⟩
 ·obtain ⟨o,e,r⟩:=t2;exact ⟨o,m hlt.2.2.2.2.2.2 _ e,r⟩
 ·exact hR h' tk acc c as (fun b o hb e=>hk b o hb (oth b o (fun q=>hb (by simp [q])) e)) hS' hacc hG
theorem Uh {Q:Value→Shared→Prop} {oa ob:Value} (hh:A.handled=none) (D:ZApart z TI TO i1 i2) (n1:p1∉[z,TO,i1,i2]) (n2:p2∉[z,TO,i1,i2]) (hl:xs.length=ys.length) (hn:xs.length≤sizeLine)
  (hz:IsZip s.heap z TI TO .none) (hTI:IsPair s.heap TI (.ref i1) (.ref i2)) (hTO:IsPair s.heap TO oa ob) (h1:s.heap.IsTupleIter i1 p1 0) (h2:s.heap.IsTupleIter i2 p2 0) (t1:s.heap.IsTuple p1 xs.toArray) (t2:s.heap.IsTuple p2 ys.toArray)
  (hQ:∀ (h':Heap) (tk:Nat) (acc:Array Value) (c:Nat) (as:List Addr),(∀ b o,b∉[z,TO,i1,i2]→s.heap.get? b=some o→h'.get? b=some o)→h'.get? s.heap.objs.size=some { cls := .type "list",dict:=none,data := .seq acc c,slots:=#[] }→acc.toList=as.map Value.ref→ZGot xs ys (s.heap.objs.size+1) h' as→Q (.ref s.heap.objs.size) { s with heap:=h',toks:=tk }) :
  wpAny (model prog w) A (call (.type "list") [.ref z]) Q E s:=by
 refine callType_codes (Q₁:=fun obj s₁=>obj = .ref s.heap.objs.size∧s₁={ s with heap:=s.heap.push { cls := .type "list",data := .seq #[] } }) PySem.F.called_list (PySem.F.typeCall_list_1 _) PySem.F.entry_list_init
  (code_list_new _ ⟨rfl,rfl⟩) fun obj s₁ h₁=>?_
 obtain ⟨rfl,rfl⟩:=h₁
 have hS:(s.heap.push { cls := .type "list",data := .seq #[] }).get? s.heap.objs.size=some { cls := .type "list",data := .seq #[] }:=Heap.get?_push_size _ rfl
 obtain ⟨o1,e1,r1⟩:=h1
 obtain ⟨o2,e2,r2⟩:=h2
 obtain ⟨o3,e3,r3⟩:=t1
 obtain ⟨o4,e4,r4⟩:=t2
 refine ⟨⟨_,hS,rfl⟩,PySem.F.args_list_init_2 _ _,Ybs (oa:=oa) (ob:=ob) (xs:=xs) (ys:=ys) (A:=A.in1) hh D ⟨Heap.lt_size hz,Heap.lt_size hTI,Heap.lt_size hTO,Heap.lt_size e1,Heap.lt_size e2,Heap.lt_size e3,Heap.lt_size e4⟩ n1 n2 hl hn
  (Heap.get?_push_of_some _ hz) (Heap.get?_push_of_some _ hTI) (Heap.get?_push_of_some _ hTO) ⟨_,Heap.get?_push_of_some _ e1,r1⟩ ⟨_,Heap.get?_push_of_some _ e2,r2⟩ ⟨_,Heap.get?_push_of_some _ e3,r3⟩ ⟨_,Heap.get?_push_of_some _ e4,r4⟩ hS (fun h' tk acc c as hk hS' hacc hG=>?_)⟩
 exact ⟨rfl,hQ h' tk acc c as (fun b o hb e=>hk b o (fun q=>hb (by
  rcases List.mem_cons.mp q with q | q
  ·exact absurd (Heap.lt_size e) (by rw [q];exact Nat.lt_irrefl _)
  ·exact q)) (Heap.get?_push_of_some _ e)) hS' hacc hG⟩
end
end L2
namespace L2
open PySem PySem.Spec PyProof.Rows
section
variable {X:Cx} {pins:List (Addr×Obj)} {σ:St} {H H':Hp} {s:Shared} {h':Heap}
theorem Inv.turnedM {t':Nat} {ch:List Addr} (I:Inv X pins σ H s) (k:∀ b o,b∉ch→s.heap.get? b=some o→h'.get? b=some o) (hf:∀ b∈ch,Xr X pins H b) (up:∀ b u,H b=some u→H' b=some u)
  (nw:∀ b u,H' b=some u→H b=none→s.heap.objs.size≤b∧YN X.prog X.w H' h' b u):Inv X pins σ H' { s with heap:=h',toks:=t' }:=by
 have nit:∀ b u,H b=some u→b∉ch:=fun b u e z=>by rw [(hf b z).1] at e;cases e
 refine I.step (g':=s.gens) (d':=s.drawn) (ch:=ch) (fun b hb=>?_) (fun b o _ _ hc e _=>k b o hc e) (fun b o _ _ hc e _=>⟨o.slots,k b o hc e⟩) (fun b o _ e n=>?_)
  (fun b o hc e=>⟨o,k b o hc e⟩) (fun b xs e=>up b _ e) (fun b o u e=>up b _ e) (fun b ps e=>⟨#[],by rw [up b _ e];simp⟩) (fun m hm=>?_) (fun b u e=>?_) I.bare
 ·obtain ⟨f0,f1,f2,f3,f4,f5⟩:=hf b hb
  exact ⟨f3,f1,f4,f5⟩
 ·cases q:H' b with
  | none=>rfl
  | some u=>exact absurd (Heap.lt_size e) (Nat.not_lt.mpr (nw b u q n).1)
 ·obtain ⟨o,es,ep,ho,r⟩:=hm
  exact ⟨o,es,ep,k _ o (fun z=>(hf _ z).2.1 rfl) ho,r⟩
 ·cases q:H b with
  | none=>exact (nw b u e q).2
  | some v =>
   have q':=up b v q
   rw [e] at q'
   cases q'
   refine (I.hok b u q).stay (fun c v hc q3=>k c v ?_ q3) (fun c q=>up c _ q) fun c xs q=>up c _ q
   rcases hc with z | z
   ·rw [z];exact nit b u q
   ·exact nit c _ z
end
theorem WH {β:Type}:∀ (as:List Addr) (ps:List β) (j:Nat) (a:Addr) (p:β),as.Pairwise (·<·)→as[j]?=some a→ps[j]?=some p→(as.zip ps).lookup a=some p
 | [],_,j,a,p,_,h,_=>by simp at h
 | _::_,[],j,a,p,_,_,h=>by simp at h
 | b::as,q::ps,0,a,p,_,h1,h2=>by
  simp only [List.getElem?_cons_zero,Option.some.injEq] at h1 h2
  subst h1;subst h2
  simp [List.lookup]
 | b::as,q::ps,j+1,a,p,hp,h1,h2=>by
  simp only [List.getElem?_cons_succ] at h1 h2
  obtain ⟨g1,g2⟩:=List.pairwise_cons.mp hp
  have hlt:b<a:=g1 a (List.mem_of_getElem? h1)
  have hne:(a==b)=false:=by simpa using Nat.ne_of_gt hlt
  simp only [List.zip_cons_cons,List.lookup,hne]
  exact WH as ps j a p g2 h1 h2
theorem X0 {β:Type}:∀ (as:List Addr) (ps:List β) (a:Addr) (p:β),(as.zip ps).lookup a=some p→∃ j:Nat,as[j]?=some a∧ps[j]?=some p
 | [],_,a,p,h=>by simp at h
 | _::_,[],a,p,h=>by simp at h
 | b::as,q::ps,a,p,h=>by
  simp only [List.zip_cons_cons,List.lookup] at h
  by_cases e:a=b
  ·subst e
   simp only [beq_self_eq_true,Option.some.injEq] at h
   exact ⟨0,by simp,by simp [h]⟩
  ·have hne:(a==b)=false:=by simpa using e
   simp only [hne] at h
   obtain ⟨j,h1,h2⟩:=X0 as ps a p h
   exact ⟨j+1,by simpa using h1,by simpa using h2⟩
section
variable {X:Cx}
def tLZ (K:PySem.W.Frag) (ta:TA):TE:=fun σ H Q=>ta σ H fun vs H1=>∃ a b xs ys,vs=[.ref a,.ref b]∧SqT K H1 a xs∧SqT K H1 b ys∧xs.length=ys.length ∧
 ∀ (l:Addr) (as:List Addr) (H2:Hp),H1 l=none→Yc H1 H2→H2 l=some (.lst (as.map V.ref))→as.length=xs.length →
  (∀ (j:Nat) a x y,as[j]?=some a→xs[j]?=some x→ys[j]?=some y→H1 a=none∧H2 a=some (.tup [x,y]))→Q (.ref l) H2
theorem VY:∀ as:List Addr,Yn (as.map V.ref) (as.map Value.ref)
 | [] => .nil
 | _::as => .cons rfl (VY as)
theorem UN:∀ {xs:List V} {us:List Value},Yn xs us→∀ {j:Nat} {x:V},xs[j]?=some x→∃ u,us[j]?=some u∧Ys x u:=by
 intro xs us h
 induction h with
 | nil=>intro j x e;simp at e
 | cons r _ ih =>
  intro j x e
  cases j with
  | zero=>simp only [List.getElem?_cons_zero,Option.some.injEq] at e;subst e;exact ⟨_,rfl,r⟩
  | succ j=>simpa using ih (by simpa using e)
theorem Qh {a b:Expr} {ta:TA} {p q pos pos':Pos} (hgl:Gl X "list") (hml:X.mg "list"=none) (hg:Gl X "zip") (hm:X.mg "zip"=none) (ha:PA X [a,b] ta) (hc:X.calm=true)
  (hs:starEach [a,b] X.env=[(false,eval a X.env),(false,eval b X.env)]) (hs2:starEach [b] X.env=[(false,eval b X.env)]) :
  PE X (.Call (.Name "list" p) [.Call (.Name "zip" q) [a,b] [] pos'] [] pos) (tLZ X.K ta):=by
 intro pins s σ H Q I h
 refine wpAny_Call_Name_kw (XT I hgl hml boot_list ?_)
 refine PyProof.Rows.callWith_type1 ?_
 show wpAny _ _ (spliced ((false,eval (.Call (.Name "zip" q) [a,b] [] pos') X.env)::[])) _ _ s
 refine Calls.spliced_cons ?_
 refine wpAny_Call_Name_kw (XT I hg hm boot_zip (PyProof.Rows.callWith_type1 (thn (ha pos' pins s σ H _ I h) fun us s1 ⟨vs,H1,I1,r1,q1⟩=>?_) (by rw [hs,hs2]) (by rw [hs2];rfl)))
 obtain ⟨x,y,xs,ys,e,hx,hy,hl,q⟩:=q1
 subst e
 obtain ⟨u,v,rfl,ru,rv⟩:=r1.two
 cases ru
 cases rv
 obtain ⟨i1,w1,ht1,z1⟩:=I1.tuple hx
 obtain ⟨i2,w2,ht2,z2⟩:=I1.tuple hy
 have l1:x<s1.heap.objs.size:=by obtain ⟨_,e,_⟩:=ht1;exact Heap.lt_size e
 have l2:y<s1.heap.objs.size:=by obtain ⟨_,e,_⟩:=ht2;exact Heap.lt_size e
 refine VV (WG ht1) (WG ht2) rfl rfl fun h1 hz hTI hTO g1 g2 hsz keep=>?_
 refine Calls.spliced_nil ?_
 have I2:Inv X pins σ H1 { s1 with heap:=h1 }:=I1.kept (t':=s1.toks) keep
 have n1:x∉[s1.heap.objs.size+4,s1.heap.objs.size+3,s1.heap.objs.size,s1.heap.objs.size+1]:=by
  intro hm
  simp only [List.mem_cons,List.not_mem_nil,or_false] at hm
  rcases hm with e | e | e | e<;>(have e':@Eq Nat _ _:=e;have la':@LT.lt Nat _ x s1.heap.objs.size:=l1;omega)
 have n2:y∉[s1.heap.objs.size+4,s1.heap.objs.size+3,s1.heap.objs.size,s1.heap.objs.size+1]:=by
  intro hm
  simp only [List.mem_cons,List.not_mem_nil,or_false] at hm
  rcases hm with e | e | e | e<;>(have e':@Eq Nat _ _:=e;have la':@LT.lt Nat _ y s1.heap.objs.size:=l2;omega)
 have t1:h1.IsTuple x i1.toArray:=by obtain ⟨o,e,r⟩:=ht1;exact ⟨o,keep _ _ e,r⟩
 have t2:h1.IsTuple y i2.toArray:=by obtain ⟨o,e,r⟩:=ht2;exact ⟨o,keep _ _ e,r⟩
 have e1:=w1.length
 have e2:=w2.length
 refine Uh (s:={ s1 with heap:=h1 }) (xs:=i1) (ys:=i2) (I2.ok.hd hc) (Vl s1.heap.objs.size) n1 n2 (by omega) (by omega) hz hTI hTO ⟨_,g1,rfl,rfl⟩ ⟨_,g2,rfl,rfl⟩ t1 t2 fun h' tk acc c as kp hS hacc hG=>?_
 let H2:Hp:=fun b=>if b=h1.objs.size then some (.lst (as.map V.ref)) else match (as.zip (xs.zip ys)).lookup b with | some p=>some (.tup [p.1,p.2]) | none=>H1 b
 have fr:∀ b,h1.objs.size≤b→H1 b=none:=fun b hb=>I2.hok.fresh hb
 have old:∀ b u,H1 b=some u→b<h1.objs.size:=fun b u e=>Nat.lt_of_not_le fun hb=>by rw [fr b hb] at e;cases e
 have lk:∀ b p,(as.zip (xs.zip ys)).lookup b=some p→h1.objs.size+1≤b:=fun b p e=>by
  obtain ⟨j,h1,_⟩:=X0 _ _ _ _ e
  exact hG.above b (List.mem_of_getElem? h1)
 have up:∀ b u,H1 b=some u→H2 b=some u:=fun b u e=>by
  have hb:=old b u e
  show (if b=h1.objs.size then _ else _)=_
  rw [if_neg (Nat.ne_of_lt hb)]
  cases e':(as.zip (xs.zip ys)).lookup b with
  | none=>exact e
  | some p=>exact absurd (Nat.lt_of_succ_le (lk b p e')) (Nat.not_lt.mpr (Nat.le_of_lt hb))
 have atj:∀ (j:Nat) a x y,as[j]?=some a→xs[j]?=some x→ys[j]?=some y→H2 a=some (.tup [x,y]):=fun j a x y h1' h2 h3=>by
  have ha:h1.objs.size+1≤a:=hG.above a (List.mem_of_getElem? h1')
  show (if a=h1.objs.size then _ else _)=_
  have hzz:(xs.zip ys)[j]?=some (x,y):=List.getElem?_zip_eq_some.mpr ⟨h2,h3⟩
  rw [if_neg (Nat.ne_of_gt (Nat.lt_of_succ_le ha)),WH as (xs.zip ys) j a (x,y) hG.rise h1' hzz]
 have hS2:H2 h1.objs.size=some (.lst (as.map V.ref)):=if_pos rfl
 have hlen:as.length=xs.length:=by rw [hG.len];omega
 have I3:Inv X pins σ H2 { s1 with heap:=h',toks:=tk }:=by
  refine I2.turnedM (s:={ s1 with heap:=h1 }) (ch:=[s1.heap.objs.size+4,s1.heap.objs.size+3,s1.heap.objs.size,s1.heap.objs.size+1]) kp (fun b hb=>?_) up (fun b u e hn=>?_)
  ·have hle:s1.heap.objs.size≤b:=by
    simp only [List.mem_cons,List.not_mem_nil,or_false] at hb
    rcases hb with e | e | e | e<;>(have e':@Eq Nat _ _:=e;show @LE.le Nat _ s1.heap.objs.size b;omega)
   exact I1.fpOk hle (I1.hok.fresh hle)
  ·by_cases hb:b=h1.objs.size
   ·subst hb
    rw [hS2] at e
    cases e
    refine ⟨Nat.le_refl _,(by rw [List.length_map];omega),as.map Value.ref,c,VY as,?_⟩
    rw [← hacc];exact hS
   ·have e0:(match (as.zip (xs.zip ys)).lookup b with | some p=>some (HO.tup [p.1,p.2]) | none=>H1 b)=some u:=by
     have:H2 b=_:=if_neg hb
     rw [← this];exact e
    cases e':(as.zip (xs.zip ys)).lookup b with
    | none=>rw [e'] at e0;rw [hn] at e0;cases e0
    | some p =>
     rw [e'] at e0
     cases e0
     refine ⟨Nat.le_of_succ_le (lk b p e'),(show (2:Nat)≤sizeLine by decide),?_⟩
     obtain ⟨j,j1,j2⟩:=X0 _ _ _ _ e'
     obtain ⟨k1,k2⟩:=List.getElem?_zip_eq_some.mp j2
     obtain ⟨u1,f1,r1⟩:=UN w1 k1
     obtain ⟨u2,f2,r2⟩:=UN w2 k2
     exact ⟨[u1,u2],.cons r1 (.cons r2 .nil),⟨_,hG.pairs j b u1 u2 j1 f1 f2,rfl,_,rfl⟩⟩
 exact ⟨.ref h1.objs.size,H2,I3,rfl,q _ as H2 (fr _ (Nat.le_refl _)) up hS2 hlen fun j a x y k1 k2 k3=>⟨fr a (Nat.le_of_succ_le (hG.above a (List.mem_of_getElem? k1))),atj j a x y k1 k2 k3⟩⟩
end
end L2
namespace L2
open PySem PySem.Spec PyProof.Rows
section
variable {src:List (Option Nat)} {te:TE} {σ:St} {H:Hp} {Q:VK}
theorem Ycp {J:It} {P:Hp→Prop} {xs:List V} (hJ:XQ J P xs) {H1:Hp} {D:Addr} (ts:List (List V)) (hP:∀ H',Yc H1 H'→P H') (hD:H1 D=none) (hl:ts.length=xs.length) (hlen:xs.length≤100000)
  (step:∀ (i:Nat) x t H',xs[i]?=some x→ts[i]?=some t→Yc H1 H'→∀ R:VK,(∀ a H'',Yc H' H''→H'' a=some (.tup t)→R (.ref a) H'')→te (some x::Yz src σ) H' R)
  (fin:∀ (as:List Addr) H',Yc H1 H'→H' D=some (.lst (as.map V.ref))→as.length=xs.length→(∀ (j:Nat) a t,as[j]?=some a→ts[j]?=some t→H' a=some (.tup t))→Q (.ref D) H'):LC (none::src) J (Yv 0) Xt te σ H1 Q D:=by
 have h6:100000<sizeLine:=by decide
 refine Up hJ (fun i zs σ' H'=>∃ as:List Addr,zs=as.map V.ref∧as.length=i∧(∃ o,σ'=o::Yz src σ)∧Yc H1 H'∧H' D=some (.lst zs)∧∀ (j:Nat) a t,as[j]?=some a→ts[j]?=some t→H' a=some (.tup t))
  ⟨[],rfl,rfl,⟨none,rfl⟩,.upd_new hD _,Yd,fun j a t h=>by simp at h⟩ (fun i zs σ' H' ⟨as,_,_,_,p1,p2,_⟩=>⟨hP _ p1,p2⟩) (WA 0) ?_ ?_
 ·rintro i zs σ' H' x hx ⟨as,rfl,hi',⟨o,rfl⟩,sm,hd,hts⟩
  have hi:=(List.getElem?_eq_some_iff.mp hx).1
  have ht:ts[i]?=some (ts[i]'(by omega)):=List.getElem?_eq_getElem _
  show te (some x::Yz src σ) H' _
  refine step i x _ H' hx ht sm _ fun a H'' s2 ha=>⟨s2 _ _ hd,by rw [List.length_map];omega,as++[a],by simp,by simp [hi'],⟨_,rfl⟩,.upd_over hD (sm.trans s2) _,Yd,fun j b t hj hjt=>?_⟩
  have key:H'' b=some (.tup t):=by
   rcases Nat.lt_trichotomy j as.length with h1 | h1 | h1
   ·rw [List.getElem?_append_left h1] at hj
    exact s2 _ _ (hts j b t hj hjt)
   ·have hb:a=b:=by subst h1;simpa using hj
    subst hb
    rw [h1,hi'] at hjt
    rw [ht] at hjt
    cases hjt
    exact ha
   ·rw [List.getElem?_eq_none (by rw [List.length_append,List.length_singleton];omega)] at hj;cases hj
  rw [Yl (Um key (s2 _ _ hd) (by intro z;cases z))]
  exact key
 ·rintro zs σ' H' ⟨as,rfl,hn,_,sm,hd,hts⟩
  exact fin as H' sm hd hn hts
theorem UO {K:PySem.W.Frag} {tl:TE} {xs:List V} (ts:List (List V)) (ha:∀ R:V→Hp→Prop,(∀ a H1,Yc H H1→SqL K H1 a xs→R (.ref a) H1)→tl σ H R) (hl:ts.length=xs.length) (hlen:xs.length≤100000)
  (step:∀ (i:Nat) x t H',xs[i]?=some x→ts[i]?=some t→Yc H H'→∀ R:VK,(∀ a H'',Yc H' H''→H'' a=some (.tup t)→R (.ref a) H'')→te (some x::Yz src σ) H' R)
  (fin:∀ D (as:List Addr) H',H D=none→Yc H H'→H' D=some (.lst (as.map V.ref))→as.length=xs.length→(∀ (j:Nat) a t,as[j]?=some a→ts[j]?=some t→H' a=some (.tup t))→Q (.ref D) H'):tLC (none::src) (Wd K tl) (Yv 0) Xt te σ H Q :=
 ha _ fun a H1 s1 hS=>⟨a,rfl,⟨xs,hS⟩,fun D hD=>Ycp (XC.imp fun H' (e:Yc H1 H')=>e.seq hS) ts (fun _ e=>e) hD hl hlen (fun i x t H' hx ht sm R r=>step i x t H' hx ht (s1.trans sm) R r) fun as H' sm=>fin D as H' (s1.free hD) (s1.trans sm)⟩
theorem YcS {J:It} {P:Hp→Prop} {xs:List V} (hJ:XQ J P xs) {H1:Hp} {D:Addr} (Rl:Nat→V→Hp→Prop) (st:∀ i y H H',Rl i y H→Yc H H'→Rl i y H') (su:∀ i y H p zs zs',Rl i y H→H p=some (.lst zs)→Rl i y (upd H p (.lst zs')))
  (hP:∀ H',Yc H1 H'→P H') (hD:H1 D=none) (hlen:xs.length≤100000)
  (step:∀ (i:Nat) x H',xs[i]?=some x→Yc H1 H'→∀ R:VK,(∀ y H'',Yc H' H''→Rl i y H''→R y H'')→te (some x::Yz src σ) H' R)
  (fin:∀ (ys:List V) H',Yc H1 H'→H' D=some (.lst ys)→ys.length=xs.length→(∀ (j:Nat) y,ys[j]?=some y→Rl j y H')→Q (.ref D) H'):LC (none::src) J (Yv 0) Xt te σ H1 Q D:=by
 have h6:100000<sizeLine:=by decide
 refine Up hJ (fun i zs σ' H'=>zs.length=i∧(∃ o,σ'=o::Yz src σ)∧Yc H1 H'∧H' D=some (.lst zs)∧∀ (j:Nat) y,zs[j]?=some y→Rl j y H')
  ⟨rfl,⟨none,rfl⟩,.upd_new hD _,Yd,fun j y h=>by simp at h⟩ (fun i zs σ' H' ⟨_,_,p1,p2,_⟩=>⟨hP _ p1,p2⟩) (WA 0) ?_ ?_
 ·rintro i zs σ' H' x hx ⟨hi',⟨o,rfl⟩,sm,hd,hts⟩
  have hi:=(List.getElem?_eq_some_iff.mp hx).1
  show te (some x::Yz src σ) H' _
  refine step i x H' hx sm _ fun y H'' s2 hy=>⟨s2 _ _ hd,by omega,by simp [hi'],⟨_,rfl⟩,.upd_over hD (sm.trans s2) _,Yd,fun j z hj=>su _ _ _ _ _ _ ?_ (s2 _ _ hd)⟩
  rcases Nat.lt_trichotomy j zs.length with h1 | h1 | h1
  ·rw [List.getElem?_append_left h1] at hj
   exact st _ _ _ _ (hts j z hj) s2
  ·have hb:y=z:=by subst h1;simpa using hj
   subst hb
   rw [h1,hi']
   exact hy
  ·rw [List.getElem?_eq_none (by rw [List.length_append,List.length_singleton];omega)] at hj;cases hj
 ·rintro zs σ' H' ⟨hn,_,sm,hd,hts⟩
  exact fin zs H' sm hd hn hts
theorem QH {K:PySem.W.Frag} {tl:TE} {xs:List V} (Rl:Nat→V→Hp→Prop) (st:∀ i y H H',Rl i y H→Yc H H'→Rl i y H') (su:∀ i y H p zs zs',Rl i y H→H p=some (.lst zs)→Rl i y (upd H p (.lst zs')))
  (ha:∀ R:V→Hp→Prop,(∀ a H1,Yc H H1→SqL K H1 a xs→R (.ref a) H1)→tl σ H R) (hlen:xs.length≤100000)
  (step:∀ (i:Nat) x H',xs[i]?=some x→Yc H H'→∀ R:VK,(∀ y H'',Yc H' H''→Rl i y H''→R y H'')→te (some x::Yz src σ) H' R)
  (fin:∀ D (ys:List V) H',H D=none→Yc H H'→H' D=some (.lst ys)→ys.length=xs.length→(∀ (j:Nat) y,ys[j]?=some y→Rl j y H')→Q (.ref D) H'):tLC (none::src) (Wd K tl) (Yv 0) Xt te σ H Q :=
 ha _ fun a H1 s1 hS=>⟨a,rfl,⟨xs,hS⟩,fun D hD=>YcS (XC.imp fun H' (e:Yc H1 H')=>e.seq hS) Rl st su (fun _ e=>e) hD hlen (fun i x H' hx sm R r=>step i x H' hx (s1.trans sm) R r) fun ys H' sm=>fin D ys H' (s1.free hD) (s1.trans sm)⟩
end
end L2
namespace L2
open PySem PySem.Spec PyProof.Rows
section
variable {X:Cx}
theorem WX {i:Nat} {x:Str} {pos' apos:Pos} {elt tg iter:Expr} {ifs:List Expr} {scope:Scope} {pos:Pos} {src:List (Option Nat)} {N':List Str} {wi:TI} {g:TG} {tt:TT} {te:TE} (hN:X.N.Nodup) (hix:X.N[i]?=some x) (hlx:Loc X.env.scope x) (hcap:Cap X scope src N') (hc:X.calm=true) (hi:PI X tg iter wi)
  (hg:∀ cl C s₀ H₀ fp pn,PG (cxC X scope N' cl C s₀ H₀ fp pn) tg g) (ht:∀ cl C s₀ H₀ fp pn,PTs (cxC X scope N' cl C s₀ H₀ fp pn) ifs tt) (he:∀ cl C s₀ H₀ fp pn,PE (cxC X scope N' cl C s₀ H₀ fp pn) elt te)
  (hfree:∀ x,(x,NameKind.free)∈scope.names→X.env.scope.names.lookup x=some NameKind.cell∨X.env.scope.names.lookup x=some NameKind.free)
  (hk:scope.kind = .function) (hcell:∀ y∈scope.names,y.2 ≠ .cell) (hnames:∀ y∈scope.names,y.2 = .local→scope.names.lookup y.1=some .local)
  (hs:∀ x,foldedSetIterable iter X.env x=pure x) (hsw:swapsWithSole [.Name x pos'] (.ListComp elt [⟨tg,iter,ifs,0⟩] scope pos) apos.line X.env=pure true) (hf:X.fn x=true∨X.env.scope.names.lookup x=some .local) :
  PS X (.Assign [.Name x pos'] (.ListComp elt [⟨tg,iter,ifs,0⟩] scope pos) apos) (QW (tLC src wi g tt te) (Yv i)):=by
 intro pins s σ H D0 I h
 have no:∀ {E:Value→Shared→Prop},∀ (e:Value) (s':Shared),False→E e s':=fun _ _ f=>f.elim
 obtain ⟨cl,hcl,a,b⟩:=Vk X.env scope fun x hx=>I.ok.has x (hfree x hx)
 rw [exec_Assign_arm]
 refine wpAny_bind (wpAny_standAt ?_)
 rw [hsw]
 refine wpAny_bind (wpAny_pure ?_)
 rw [if_pos rfl]
 refine wpAny_bind ?_
 rw [arm_evalThenUse_ListComp]
 refine wpAny_bind ?_
 refine wpAny_comprehension_free (use:=some _) rfl hs hcl hk hnames (thn (hi pins s σ H _ I h) fun v s1 h1=>thn h1 fun itv s2 h2=>?_)
 obtain ⟨it,fp,tn,J,H2,e,I2,T,st2,f2,q⟩:=h2
 subst e
 have hD:H2 s2.heap.objs.size=none:=I2.hok.fresh (Nat.le_refl _)
 obtain ⟨W,⟨m0,w0⟩,turn⟩:=q s2.heap.objs.size hD
 have I3:=I2.lnew (t':=s2.toks) (ys:=[]) (its:=[]) .nil (Nat.zero_le _)
 have fl2:∀ b∈fp,b<s2.heap.objs.size:=fun b hb=>by
  obtain ⟨o,e,_⟩:=T.obj _ _ st2 b hb
  exact Heap.lt_size e
 refine wpAny_newObj_type ?_
 generalize es3:({ s2 with heap:=s2.heap.push { cls := .type "list",dict:=none,data := .seq ([]:List Value).toArray } }:Shared)=s3
 have I3':Inv X pins σ (upd H2 s2.heap.objs.size (.lst [])) s3:=es3▸I3
 have keep3:∀ b o,s2.heap.get? b=some o→s3.heap.get? b=some o:=fun b o e=>by rw [← es3];exact Heap.get?_push_of_some _ e
 have st3:tn 0 s3.heap:=T.keep _ _ _ st2 fun b _ o e=>keep3 b o e
 have fl3:∀ b∈fp,b<s3.heap.objs.size:=fun b hb=>by
  obtain ⟨o,e,_⟩:=T.obj _ _ st3 b hb
  exact Heap.lt_size e
 have f3:∀ b∈fp,Xr X pins (upd H2 s2.heap.objs.size (.lst [])) b:=fun b hb=>⟨by rw [Yl (Nat.ne_of_lt (fl2 b hb))];exact (f2 b hb).1,(f2 b hb).2⟩
 generalize eD:s2.heap.objs.size=D at *
 generalize eH3:upd H2 D (.lst [])=H3 at *
 refine wpAny_newFunctionEnv hcell (by intro y hy;simp at hy) (fun h₁ hns₁ hsb₁=>?_) hk
 have keep4:∀ b o,s3.heap.get? b=some o→h₁.get? b=some o:=fun b o e=>hsb₁.extBut b o (Nat.ne_of_lt (Heap.lt_size e)) (Heap.get?_push_of_some _ e)
 have I4:=UF (N':=N') (src:=src) (tk:=s3.toks+([]:List (Str×Value)).length) hk hcell hcap a b I3' f3 fl3 rfl keep4 hns₁
 -- the iterator's objects,through the block
 have stat:∀ {H':Hp},(∀ b∈fp,H' b=none)→∀ b∈fp,Xr (cxC X scope N' cl s3.heap.objs.size s3 H3 fp (X.pn++pins)) [] H' b:=fun hn b' hb=>by
  obtain ⟨f0,f1,fs,fe,f4,f5⟩:=f3 b' hb
  refine ⟨hn b' hb,Nat.ne_of_lt (fl3 b' hb),fun z=>?_,.inl hb,fun x c h=>f4 x c (a x c h),fun p hp=>f5 p (by simpa [cxC] using hp)⟩
  rcases List.mem_cons.mp (I3'.stkSub b' z) with e | e
  ·exact f1 e
  ·exact fs e
 -- behind the block
 have fin:∀ {H':Hp} {s':Shared} {σ':St} {pins':List (Addr×Obj)},Inv (cxC X scope N' cl s3.heap.objs.size s3 H3 fp (X.pn++pins)) pins' σ' H' s'→∀ h',Heap.SameBut s3.heap.objs.size s'.heap h'→Inv X pins σ H' { s' with heap:=h' }:=fun {H' s' σ' pins'} J' h' sb=>by
  have same:∀ b o,b≠s3.heap.objs.size→s'.heap.get? b=some o→h'.get? b=some o:=fun b o hb e=>sb.extBut b o hb e
  have u:Un (frs X.stack) fp H3 H' s3.heap s'.heap:=J'.base
  refine I3'.call' (s':={ s' with heap:=h' }) (ch:=fp) J'.os ⟨fun b o e n hb hx=>?_,fun b o e n hb hx=>?_,u.free,fun b o e hx=>?_,u.tups,u.frzs,u.tbls⟩ (fun b o e=>?_) J'.bare fun b hb=>?_
  ·exact same b o (Nat.ne_of_lt (Heap.lt_size e)) (u.keep b o e n hb hx)
  ·obtain ⟨sl,z⟩:=u.slot b o e n hb hx
   exact ⟨sl,same b _ (Nat.ne_of_lt (Heap.lt_size e)) z⟩
  ·obtain ⟨o',z⟩:=u.there b o e hx
   exact ⟨o',same b o' (Nat.ne_of_lt (Heap.lt_size e)) z⟩
  ·have nC:∀ c v,H' c=some v→c≠s3.heap.objs.size:=fun c v z q=>by
    have:=J'.free
    rw [show (cxC X scope N' cl s3.heap.objs.size s3 H3 fp (X.pn++pins)).env.locals=s3.heap.objs.size from rfl,← q,z] at this
    cases this
   refine (J'.hok b o e).stay (fun c v hc q=>same c v ?_ q) (fun _ q=>q) fun _ _ q=>q
   rcases hc with z | z
   ·rw [z];exact nC b o e
   ·exact nC c _ z
  ·obtain ⟨f0,f1,fs,fe,f4,f5⟩:=f3 b hb
   exact ⟨fe,f1,f4,f5⟩
 have loop:codeAny (model X.prog X.w) X.A (.compLoop (.ListComp elt [⟨tg,iter,ifs,0⟩] scope pos) 0 (.ref it) (.ref D) (compEnvC scope cl s3.heap.objs.size X.env))
   (compPost (model X.prog X.w) X.A X.xe (some fun v=>assignAll v ((assignEach [.Name x pos'] X.env).map (·.2))) (fun _ s'=>wpAny (model X.prog X.w) X.A (pure PUnit.unit) (fun _ s'=>wpAny (model X.prog X.w) X.A (pure Flow.next) (SP X pins D0) X.xe s') X.xe s') (.ref D) s3.heap.objs.size) { s3 with heap:=h₁,toks:=s3.toks+([]:List (Str×Value)).length }:=by
  refine VU (fun n s'=>∃ i ys σ' H',Inv (cxC X scope N' cl s3.heap.objs.size s3 H3 fp (X.pn++pins)) [] σ' H' s'∧tn i s'.heap∧(∀ b∈fp,H' b=none)∧W i n ys σ' H') ?_ m0 ⟨0,[],Yz src σ,H3,I4,T.keep _ _ _ st3 fun b _ o e=>keep4 b o e,fun b hb=>(f3 b hb).1,w0⟩
  rintro n s5 ⟨i,ys,σ5,H5,I5,st5,fr5,w5⟩
  obtain ⟨hDs,stop | go⟩:=turn i n ys σ5 H5 w5
  ·obtain ⟨stop,qn⟩:=stop
   refine thn (T.done (cxC X scope N' cl s3.heap.objs.size s3 H3 fp (X.pn++pins)) rfl rfl rfl hc i [] s5 σ5 H5 _ I5 (stat fr5) st5 stop) fun r s6 ⟨hr,I6⟩=>?_
   subst hr
   obtain ⟨m,hn,_⟩:=id I6.loc
   have IO:Inv X pins σ H5 s6:=fin I6 s6.heap (Heap.SameBut.refl _ _)
   have hCn:H5 s3.heap.objs.size=none:=I6.free
   have hC:∀ {H':Hp},H' s3.heap.objs.size=none→Xr X pins H' s3.heap.objs.size:=fun {H'} z=>I3'.fpOk (Nat.le_refl _) z
   obtain ⟨oC,es,ep,hoC,rC⟩:=hn
   have IP:=IO.pinned (fp:=[s3.heap.objs.size]) (fun b hb=>by rw [List.mem_singleton.mp hb];exact hC hCn) (fun b hb=>by rw [List.mem_singleton.mp hb];exact ⟨oC,hoC,fun v z=>by (rw [rC.1] at z;cases z)⟩)
   show wpAny _ _ (assign (.Name x pos') X.env (.ref D)) _ _ _
   refine thn (Yp hN hix hlx hf _ s6 σ H5 (.ref D) (.ref D) _ IP rfl qn) fun _ s7 ⟨σ7,H7,I7,q7⟩=>?_
   obtain ⟨g1,g2,_⟩:=I7.pin (s3.heap.objs.size,oC) (List.mem_append_right _ (List.mem_append_right _ (Y5 (List.mem_singleton.mpr rfl) hoC)))
   refine ⟨m,⟨oC,es,ep,g1,rC⟩,fun h' sb=>wpAny_pure (wpAny_pure ⟨σ7,H7,?_,q7⟩)⟩
   exact I7.unpinned.turnedL (t':=s7.toks) (ch:=[s3.heap.objs.size]) (fun b o hb e=>sb.extBut b o (fun z=>hb (by rw [z];exact List.mem_singleton.mpr rfl)) e) (fun b hb=>by rw [List.mem_singleton.mp hb];exact hC g2)
  ·obtain ⟨go,N,hN,step⟩:=go
   refine thn (T.item (cxC X scope N' cl s3.heap.objs.size s3 H3 fp (X.pn++pins)) rfl rfl rfl hc i [] s5 σ5 H5 _ I5 (stat fr5) st5 go) fun r s6 ⟨u,hr,h6⟩=>?_
   subst hr
   refine thn h6 fun _ s7 ⟨x,H7,I7,r7,y7,st7,fr7⟩=>?_
   have I7':=I7.pinned (stat fr7) (T.obj _ _ st7)
   have again:∀ {s8:Shared} {σ8:St} {H8:Hp} {ys':List V},Inv (cxC X scope N' cl s3.heap.objs.size s3 H3 fp (X.pn++pins)) ([]++Wn fp s7.heap) σ8 H8 s8→(∃ m',m'<n∧W (i+1) m' ys' σ8 H8) →
     ∃ m,m<n∧∃ i ys σ' H',Inv (cxC X scope N' cl s3.heap.objs.size s3 H3 fp (X.pn++pins)) [] σ' H' s8∧tn i s8.heap∧(∀ b∈fp,H' b=none)∧W i m ys σ' H':=fun {s8 σ8 H8 ys'} I8 ⟨m',hm,w8⟩=>by
    refine ⟨m',hm,i+1,ys',σ8,H8,I8.unpinned,T.keep _ _ _ st7 fun b hb o e=>(I8.pin (b,o) (List.mem_append_right _ (List.mem_append_right _ (Y5 hb e)))).1,fun b hb=>?_,w8⟩
    obtain ⟨o,e,d⟩:=T.obj _ _ st7 b hb
    exact (I8.pin (b,o) (List.mem_append_right _ (List.mem_append_right _ (Y5 hb e)))).2.1
   refine thn (hg cl _ s3 H3 fp _ _ s7 σ5 H7 x u _ I7' r7 (step x H7 y7)) fun _ s8 ⟨σ8,H8,I8,q8⟩=>?_
   refine thn (ht cl _ s3 H3 fp _ _ s8 σ8 H8 _ I8 q8) fun ok s9 ⟨H9,I9,q9⟩=>?_
   cases ok with
   | false=>exact again I9 (hN _ _ _ q9)
   | true =>
    rw [if_pos rfl]
    refine thn (he cl _ s3 H3 fp _ _ s9 σ8 H9 _ I9 q9) fun y s10 ⟨yv,H10,I10,r10,q10⟩=>?_
    obtain ⟨hDy,hlen,w10⟩:=q10
    refine thn (YY (X:=cxC X scope N' cl s3.heap.objs.size s3 H3 fp (X.pn++pins)) _ s10 σ8 H10 (.ref D) [yv] (.ref D) [y] (fun _ H'=>H'=upd H10 D (.lst (ys++[yv]))) I10 rfl (.cons r10 .nil) ⟨D,ys,yv,rfl,rfl,hDy,hlen,rfl⟩) fun _ s11 ⟨_,H11,I11,_,e11⟩=>?_
    subst e11
    exact again I11 (hN _ _ _ w10)
 exact codeAny_compStart_list loop (T.self _ 0 _ _ _ (T.keep _ _ _ st3 fun b _ o e=>keep4 b o e) loop)
end
end L2
namespace L2
open PySem PySem.Spec PyProof.Rows
structure Fly (P:Program) (w:World) (l:List Env) (H:Hp) (h:Heap) (e:Addr) (cls:Value) (H':Hp) (h' B:Heap):Prop where
 fl:∃ a0,Heap.FlyingW B l e cls a0 h'
 hok:HOk P w H' B
 keep:∀ b o,h.get? b=some o→H b=none→b∉frs l→B.get? b=some o
 slot:∀ b o,h.get? b=some o→H b=none→b∈frs l→∃ sl,h'.get? b=some { o with slots:=sl }
 al:∀ b o,h.get? b=some o→b∉frs l→∃ o',B.get? b=some o'
 free:∀ b o,h.get? b=some o→H b=none→H' b=none
 tups:∀ b xs,H b=some (.tup xs)→H' b=some (.tup xs)
 frzs:∀ b o u,H b=some (.frz o u)→H' b=some (.frz o u)
 tbls:∀ b ps,H b=some (.tbl ps)→∃ more,H' b=some (.tbl (ps++more))
section
variable {P:Program} {w:World} {l:List Env} {H H':Hp} {h h' h'' B:Heap} {e:Addr} {cls:Value}
theorem Fly.un (F:Fly P w l H h e cls H' h' B) (hf:∀ b∈frs l,H b=none):Un (frs l) [] H H' h h':=by
 obtain ⟨a0,fl⟩:=F.fl
 refine ⟨fun b o q n hb _=>fl.1 b o (F.keep b o q n hb),fun b o q n hb _=>F.slot b o q n hb,fun b o q n _=>F.free b o q n,fun b o q _=>?_,F.tups,F.frzs,F.tbls⟩
 by_cases hb:b∈frs l
 ·obtain ⟨sl,z⟩:=F.slot b o q (hf b hb) hb
  exact ⟨_,z⟩
 ·obtain ⟨o',z⟩:=F.al b o q hb
  exact ⟨o',fl.1 b o' z⟩
end
section
variable {X:Cx} {pins:List (Addr×Obj)} {σ:St} {H H':Hp} {s s':Shared} {h' B:Heap} {e:Addr} {cls:Value} {M:Model} {A:Around} {Q:Unit→Shared→Prop} {EE:Value→Shared→Prop}
end
section
variable {g:Gx} {N:List Str} {qual:Str} {st:Stmt} {f:Addr} {cdv:Value} {A:Around} {outer:List Env} {s:Shared} {H:Hp} {E:XK}
end
section
variable {g:Gx} {k:Nat} {x qual m:Str} {st:Stmt} {N ps:List Str} {sp:Sp} {C:Addr}
end
section
variable {g:Gx} {X:Cx} {k j:Nat} {x:Str} {ps:List Str} {sp:Sp} {E:XK} {e:Expr} {es:List Expr} {t:TA} {p pos cpos np:Pos}
theorem PS.nox {st:Stmt} {t:TS} (h:PS X.nox st t):PS X st t:=fun pins s σ H D I hw =>
 wpAny_mono (h pins s σ H D (I.wish _) hw) (fun _ _ q=>q.unwish) fun _ _ z=>False.elim z
abbrev YaR:List Value:=[.type "ValueError",.type "Exception",.type "BaseException",.type "object"]
def YcT (C:Addr) (E:XK) (t:TA):TS:=fun _ σ H=>t σ H fun vs H1=>vs.length≤sizeLine∧E (.ref C) none H1
end
abbrev Cx.caught (X:Cx) (e:Addr):Cx:={ X with A:=X.A.mark (some (.ref e)),calm:=false,xe:=fun _ _=>False }
section
variable {X:Cx} {pins:List (Addr×Obj)} {σ:St} {H H' H1:Hp} {s s1 s':Shared} {e:Value} {D:Ends} {ts:TS} {b₀:Stmt} {suite:List Stmt} {c:Str} {cv:Value} {cp hpos:Pos}
theorem Inv.caught (I:Inv X pins σ H s) (a:Addr):Inv (X.caught a) pins σ H s :=
 ⟨⟨I.ok.mod,I.ok.kind,I.ok.glob,I.ok.blt,I.ok.above,I.ok.inj,I.ok.has,I.ok.cab,fun z=>(by cases z),I.ok.frames,I.ok.stk,I.ok.exf,I.ok.bs,I.ok.bsz,I.ok.noex,I.ok.exfs,I.ok.funs,I.ok.frf⟩,I.os,I.bare,I.base,I.loc,I.cell,I.free,I.freeC,I.pin,I.hok,I.len⟩
end
def tTry (K:PySem.W.Frag) (cv:Value) (sp:Sp) (t:TA) (i:Nat) (ts:TS):TS:=fun D σ H=>t σ H fun vs H1=>sp (vs++[]) H1 (fun v H2=>D.nx (σ.set i (some v)) H2) (fun cls _ H2=>PySem.W.exmOne K cls cv=some true∧ts D σ H2)
section
variable {g:Gx} {X:Cx} {k j i:Nat} {x f c:Str} {ps:List Str} {sp:Sp} {e:Expr} {es:List Expr} {t:TA} {ts:TS} {b₀:Stmt} {suite:List Stmt} {cv:Value} {fp px cp hpos apos cpos pos:Pos}
end
end L2
namespace L2
open PySem PySem.Spec PyProof.Rows
def VF (k:Nat) (G:Hp→List V→Prop):It :=
 ⟨fun i H=>∃ xs x,G H xs∧xs[i]?=some x,fun i H v H'=>∃ T,v = .ref T∧H T=none∧∀ xs x,G H xs→xs[i]?=some x→H'=upd H T (.tup [.int ((i+k:Nat):Int),x]),fun i H=>∃ xs,G H xs∧xs.length=i⟩
theorem W4 {P:Program} {w:World} {A:Around} {it:Addr} {fp:List Addr} {n:Nat} {R:Nat→Value→Prop} {St:Nat→Heap→Prop} (D:Draws P w A it fp n R St) (k:Nat) :
  Draws P w A it fp (n+k) (fun i v=>∃ j,i=j+k∧R j v) (fun i h=>∃ j,i=j+k∧St j h) where
 live:=fun i h ⟨j,_,st⟩=>D.live j h st
 frame:=fun i h h' ⟨j,e,st⟩ q=>⟨j,e,D.frame j h h' st q⟩
 item:=fun i s Q E hi ⟨j,e,st⟩ hQ=>by
  subst e
  exact D.item j s Q E (by omega) st fun x h' tk p st' sb=>hQ x h' tk ⟨j,rfl,p⟩ ⟨j+1,by omega,st'⟩ sb
 done:=fun s Q E ⟨j,e,st⟩ hE=>by
  have:j=n:=by omega
  subst this
  exact D.done s Q E st hE
theorem YaS {P:Program} {w:World} {K:PySem.W.Frag} {elts:List Expr} {kk:Nat} {pos:Pos} {a e it:Addr} {k:Nat} {G:Hp→List V→Prop} {inner:Nat→Heap→Prop} (ne:e≠it) (na:e≠a)
  (obj:∀ i h,inner i h→∃ o,h.get? it=some o∧∀ v,o.data ≠ .cell v) (keep:∀ i h h',inner i h→(∀ o,h.get? it=some o→h'.get? it=some o)→inner i h')
  (inj:∀ (X:Cx) pins σ H s xs ys,X.prog=P→X.w=w→X.K=K→Inv X pins σ H s→G H xs→G H ys→xs=ys)
  (dr:∀ (X:Cx) pins σ H s xs i,X.prog=P→X.w=w→X.K=K→X.calm=true→Inv X pins σ H s→G H xs→inner i s.heap→∃ its:List Value,Yn xs its∧∃ St:Nat→Heap→Prop,Draws P w X.A.in1 it [it,a] its.length (fun i v=>its[i]?=some v) St∧St i s.heap∧∀ i h,St i h→inner i h) :
  Turn P w K (.Tuple elts kk pos) (VF k G) [e,it] e (fun i h=>(∃ old,IsEnum h e it ((i+k:Nat):Int) old)∧inner i h) where
 mem:=by simp
 obj:=fun i h ⟨⟨old,he⟩,hi⟩ c hc=>by
  simp only [List.mem_cons,List.not_mem_nil,or_false] at hc
  rcases hc with rfl | rfl
  ·exact ⟨_,he,fun v z=>by cases z⟩
  ·exact obj i h hi
 keep:=fun i h h' ⟨⟨old,he⟩,hi⟩ q=>⟨⟨old,q e (by simp) _ he⟩,keep i h h' hi fun o z=>q it (by simp) o z⟩
 item:=by
  intro X hP hw hK hc i pins s σ H E I hf ⟨⟨old,he⟩,hi⟩ hg
  obtain ⟨xs,x,g1,hx⟩:=hg
  obtain ⟨its,rv,St,D,hst,hin⟩:=dr X pins σ H s xs i hP hw hK hc I g1 hi
  subst hP hw hK
  have hlen:=rv.length
  have hil:i<xs.length:=(List.getElem?_eq_some_iff.mp hx).1
  refine wpAny_pyNext_enum_itemD (W4 D k) he ⟨i,rfl,hst⟩ (by omega) ne (fun z=>?_) fun u h1 tk hu ho hi1 hT hsz kp=>?_
  ·simp only [List.mem_cons,List.not_mem_nil,or_false] at z
   rcases z with z | z
   ·exact ne z
   ·exact na z
  refine ⟨_,rfl,?_⟩
  refine wpAny_letOwnedTupleGo_enum (s:={ s with heap:=h1,toks:=tk+1 }) ho fun h2 he2 sb=>?_
  have elt:e<s.heap.objs.size:=Heap.lt_size he
  have ilt:it<s.heap.objs.size:=by obtain ⟨o,q,_⟩:=obj i _ hi;exact Heap.lt_size q
  have kp2:∀ c o,c∉[e,it]→s.heap.get? c=some o→h2.get? c=some o:=fun c o hm z=>by
   have c1:c≠e:=fun q=>hm (by simp [q])
   have c2:c≠it:=fun q=>hm (by simp [q])
   exact sb.extBut c o c1 (kp c o c1 c2 z)
  obtain ⟨j,ej,hu⟩:=hu
  have ej:j=i:=by omega
  subst ej
  obtain ⟨u',hu',ru⟩:=rv.get hx
  rw [hu] at hu'
  cases hu'
  have hT2:h2.get? s.heap.objs.size=some { cls := .type "tuple",data := .seq #[.int ((j+k:Nat):Int) tk,u] }:=sb.extBut _ _ (Nat.ne_of_gt elt) hT
  have I':=I.turnedT (t':=tk+1) (h':=h2) (T:=s.heap.objs.size) (vs:=[.int ((j+k:Nat):Int),x]) kp2 hf (Nat.le_refl _) (show YN X.prog X.w _ h2 _ (.tup [.int ((j+k:Nat):Int),x]) from ⟨by show 2≤sizeLine;decide,[.int ((j+k:Nat):Int) tk,u],.cons ⟨_,rfl⟩ (.cons ru .nil),_,hT2,rfl,_,rfl⟩)
  have fresh:H s.heap.objs.size=none:=I.hok.fresh (Nat.le_refl _)
  obtain ⟨j',ej',st'⟩:=hi1
  have ej':j'=j+1:=by omega
  subst ej'
  refine ⟨.ref s.heap.objs.size,_,I',rfl,⟨_,rfl,fresh,fun xs' x' g1' hx'=>?_⟩,⟨⟨u,?_⟩,keep _ _ _ (hin _ _ st') fun o z=>sb.extBut _ _ (Ne.symm ne) z⟩,fun c hm=>?_⟩
  ·rw [inj X pins σ H s _ _ rfl rfl rfl I g1' g1,hx] at hx'
   cases hx'
   rfl
  ·have e2:(((j+1+k:Nat)):Int)=((j+k:Nat):Int)+1:=by omega
   rw [e2]
   simpa using he2
  ·have h0:=(hf c hm).1
   have clt:c<s.heap.objs.size:=by
    simp only [List.mem_cons,List.not_mem_nil,or_false] at hm
    rcases hm with rfl | rfl
    ·exact elt
    ·exact ilt
   rw [Yl (Nat.ne_of_lt clt)]
   exact h0
 done:=by
  intro X hP hw hK hc i pins s σ H E I hf ⟨⟨old,he⟩,hi⟩ hg
  obtain ⟨xs,g1,hx⟩:=hg
  obtain ⟨its,rv,St,D,hst,hin⟩:=dr X pins σ H s xs i hP hw hK hc I g1 hi
  subst hP hw hK
  have hlen:=rv.length
  obtain ⟨f0,f1,f2,f3,f4,f5⟩:=hf it (by simp)
  exact wpAny_pyNext_enum_endD (W4 D k) he ⟨i,by omega,hst⟩ fun h' eb=>⟨rfl,I.turned (t':=s.toks) (fun b o hb z=>eb b o hb z) f0 f1 f3 f4 f5⟩
 self:=fun _ _ _ _ _ ⟨⟨_,he⟩,_⟩ h=>wpAny_pyIter_enum he h
section
variable {prog:Program} {w:World} {A:Around} {E:Value→Shared→Prop} {s:Shared}
theorem Yad {it t:Addr} {i:Nat} {its:Array Value} {x:Value} {Q:Value→Shared→Prop} (hit:IsTupIter s.heap it t i) (ht:IsTup s.heap t its) (hx:its[i]?=some x)
  (hQ:∀ h',IsTupIter h' it t (i+1)→Heap.SameBut it s.heap h'→Q x { s with heap:=h' }):wpAny (model prog w) A (Builtin.SmallTypes.nextOf (.ref it)) Q E s:=by
 have hT:=hit.typeIs
 obtain ⟨o,ho,hc,hd⟩:=hit
 obtain ⟨ot,hot,_,nt,hdt⟩:=ht
 unfold Builtin.SmallTypes.nextOf
 refine wpAny_bind (wpAny_callSpecial?_slot (name:=Str.ofString "__next__") hT slot_tupleiter_next (wpAny_call_entry slot_tupleiter_next hT entry_tupleiter_next ?_ (args_tupleiter_next _)))
 change wpAny _ _ (field (.ref it) 0 >>= _) _ _ s
 refine wpAny_bind (wpAny_field (x := .ref t) ho hd rfl ?_)
 change wpAny _ _ (if (Value.ref t==Value.none)=true then _ else _) _ _ s
 rw [if_neg (show ¬ (Value.ref t==Value.none)=true from Bool.false_ne_true)]
 change wpAny _ _ (field (.ref it) 1 >>= _) _ _ s
 refine wpAny_bind (wpAny_field (x := .int i 0) ho hd rfl ?_)
 change wpAny _ _ (seqItems? (.ref t) >>= _) _ _ s
 refine wpAny_bind (wpAny_seqItems hot hdt ?_)
 simp only [hx,Int.toNat_natCast]
 refine wpAny_bind (wpAny_setField ho hd (by simp) (wpAny_pure ⟨x,rfl,wpAny_pure (hQ _ ⟨_,Heap.get?_update_self _ ho (Obj.isFreed_of_fields (Obj.data_mapFields hd _)),(Obj.cls_mapFields ..).trans hc,?_⟩ (Heap.SameBut.update ..))⟩))
 rw [Obj.data_mapFields hd]
 simp [rawInt]
theorem YaT {it t:Addr} {i:Nat} {its:Array Value} {Q:Value→Shared→Prop} (hh:A.handled=none) (hit:IsTupIter s.heap it t i) (ht:IsTup s.heap t its) (hx:its[i]?=none)
  (hE:∀ h' e,Heap.ExtBut it s.heap h'→(∃ o,h'.get? e=some o∧o.cls = .type "StopIteration")→E (.ref e) { s with heap:=h' }):wpAny (model prog w) A (Builtin.SmallTypes.nextOf (.ref it)) Q E s:=by
 have hT:=hit.typeIs
 obtain ⟨o,ho,hc,hd⟩:=hit
 obtain ⟨ot,hot,_,nt,hdt⟩:=ht
 unfold Builtin.SmallTypes.nextOf
 refine wpAny_bind (wpAny_callSpecial?_slot (name:=Str.ofString "__next__") hT slot_tupleiter_next (wpAny_call_entry slot_tupleiter_next hT entry_tupleiter_next ?_ (args_tupleiter_next _)))
 change wpAny _ _ (field (.ref it) 0 >>= _) _ _ s
 refine wpAny_bind (wpAny_field (x := .ref t) ho hd rfl ?_)
 change wpAny _ _ (if (Value.ref t==Value.none)=true then _ else _) _ _ s
 rw [if_neg (show ¬ (Value.ref t==Value.none)=true from Bool.false_ne_true)]
 change wpAny _ _ (field (.ref it) 1 >>= _) _ _ s
 refine wpAny_bind (wpAny_field (x := .int i 0) ho hd rfl ?_)
 change wpAny _ _ (seqItems? (.ref t) >>= _) _ _ s
 refine wpAny_bind (wpAny_seqItems hot hdt ?_)
 simp only [hx,Int.toNat_natCast]
 refine wpAny_bind (wpAny_rule (wpAny_bind (wpAny_setField ho hd (by simp) ?_)))
 change wpAny _ _ (newExc (.type "StopIteration") [] >>= _) _ _ _
 refine wpAny_bind ?_
 simp only [newTuple,newExc]
 refine wpAny_bind (wpAny_newObj_type ?_ (by size_fits))
 refine wpAny_bind (m:=firstArgMember _ _) (wpAny_of_eq (a:=Value.none) (by first | (simp only [firstArgMember];rfl) | rfl) ?_)
 refine wpAny_newObj_type ?_ (by size_fits)
 simp only [raiseNew]
 refine wpAny_bind (wpAny_handled ?_)
 first | rw [hh] | rw [show A.in1.handled=none from hh]
 exact wpAny_bind (wpAny_pure (wpAny_throw (hE _ _ (((Heap.SameBut.update ..).extBut.push _).push _) ⟨_,Heap.get?_push_size _ rfl,rfl⟩)))
theorem YaU (hh:A.handled=none) (it t:Addr) (ne:t≠it) (its:Array Value):Draws prog w A it [it,t] its.size (fun i v=>its[i]?=some v) (fun i h=>IsTupIter h it t i∧IsTup h t its) where
 live:=fun _ _ st=>let ⟨o,ho,_⟩:=st.1;⟨o,ho⟩
 frame:=fun _ _ _ st hk=>⟨let ⟨o,ho,r⟩:=st.1;⟨o,hk it (by simp) o ho,r⟩,let ⟨o,ho,r⟩:=st.2;⟨o,hk t (by simp) o ho,r⟩⟩
 item:=fun i s Q E hi st hQ=>by
  refine Yad st.1 st.2 (x:=its[i]) (by simp [hi]) fun h' hit' hs'=>?_
  exact hQ _ h' s.toks (by simp [hi]) ⟨hit',let ⟨o,ho,r⟩:=st.2;⟨o,hs'.extBut t o ne ho,r⟩⟩ hs'
 done:=fun s Q E st hE=>YaT hh st.1 st.2 (by simp) hE
open AutoSeq1 (wpAny_loadPart') in
theorem Qi (l:Addr) (o:Obj) (its:Array Value) (n:Nat) (hc:o.cls = .type "tuple") (hd:o.data = .seq its n) :
  Meets (Builtin.«enumerate.__new__» ⟨[.type "enumerate",.ref l],[]⟩) (fun _ R s=>s.heap.get? l=some o ∧
   R (.ok (.ret (.ref (s.heap.push { cls := .type "tuple_iterator",data := .fields #[.ref l,.int 0 0] }).objs.size)))
    { s with heap:=(s.heap.push { cls := .type "tuple_iterator",data := .fields #[.ref l,.int 0 0] }).push { cls := .type "enumerate",data := .fields #[.none,.bool false,.ref s.heap.objs.size,rawInt 0,.none,.none] } }) :=
 .of_wp fun prog w A R s h=>by
  obtain ⟨hp,g,d,tk,os⟩:=s
  obtain ⟨hl,h⟩:=h
  have hsub:=sub_enumerate
  have hL:IsTup (Shared.heap ⟨hp,g,d,tk,os⟩) l its:=⟨o,hl,hc,n,hd⟩
  wp_walk using wpAny_loadPart' hl
  refine wpAny_stack_any fun st=>wpAny_pure ?_
  split
  ·rename_i c _ _ _ _ _
   cases (c==Value.type "enumerate")
   ·wp_walk using wpAny_loadPart' hl,iter_tuple hL
    exact ⟨_,rfl,h⟩
   ·wp_walk using wpAny_loadPart' hl,iter_tuple hL
    exact ⟨_,rfl,h⟩
  ·wp_walk using wpAny_loadPart' hl,iter_tuple hL
   exact ⟨_,rfl,h⟩
theorem Yae {l:Addr} {its:Array Value} {Q:Value→Shared→Prop} (hL:IsTup s.heap l its)
  (h:∀ h',IsEnum h' (s.heap.objs.size+1) s.heap.objs.size 0 .none→IsTupIter h' s.heap.objs.size l 0→(∀ b o,s.heap.get? b=some o→h'.get? b=some o)→Q (.ref (s.heap.objs.size+1)) { s with heap:=h' }) :
  wpAny (model prog w) A (call (.type "enumerate") [.ref l]) Q E s:=by
 obtain ⟨o,hl,hc,n,hd⟩:=hL
 refine callType_new F.called_enumerate (by decide) (F.typeCall_enumerate_1 _) (F.newCall_enumerate_1 _) (fun obj=>F.args_object_init_2 obj _) F.entry_enumerate_new (Qi l o its n hc hd) ⟨hl,?_⟩
 have hz:(s.heap.push { cls := .type "tuple_iterator",data := .fields #[.ref l,.int 0 0] }).objs.size=s.heap.objs.size+1:=Heap.size_push ..
 change _∧_
 rw [hz]
 have he:IsEnum ((s.heap.push { cls := .type "tuple_iterator",data := .fields #[.ref l,.int 0 0] }).push { cls := .type "enumerate",data := .fields #[.none,.bool false,.ref s.heap.objs.size,rawInt 0,.none,.none] }) (s.heap.objs.size+1) s.heap.objs.size 0 .none:=by
  have z:=Heap.get?_push_size (s.heap.push { cls := .type "tuple_iterator",data := .fields #[.ref l,.int 0 0] }) (o:={ cls := .type "enumerate",data := .fields #[.none,.bool false,.ref s.heap.objs.size,rawInt 0,.none,.none] }) rfl
  rw [hz] at z
  exact z
 exact ⟨⟨_,he,rfl⟩,h _ he ⟨_,Heap.get?_push_of_some _ (Heap.get?_push_size _ rfl),rfl,rfl⟩ fun b o x=>Heap.get?_push_of_some _ (Heap.get?_push_of_some _ x)⟩
end
section
variable {X:Cx} {elts:List Expr} {kk:Nat} {tpos:Pos}
theorem Yaf {P:Program} {w:World} {K:PySem.W.Frag} {pos:Pos} {a e it:Addr} (ne:e≠it) (na:e≠a) (nt:a≠it) :
  Turn P w K (.Tuple elts kk pos) (VF 0 fun H xs=>SqT K H a xs) [e,it] e (fun i h=>(∃ old,IsEnum h e it ((i+0:Nat):Int) old)∧IsTupIter h it a i):=by
 refine YaS ne na (fun i h ⟨o,q,_,d⟩=>⟨o,q,fun v z=>by rw [d] at z;cases z⟩) (fun i h h' ⟨o,q,r⟩ k=>⟨o,k o q,r⟩) (fun X pins σ H s xs ys hP hw hK I g1 g2=>?_) (fun X pins σ H s xs i hP hw hK hc I g1 hi=>?_)
 ·subst hP hw hK
  exact I.tuple_inj g1 g2
 ·subst hP hw hK
  obtain ⟨its,rv,pl,hz⟩:=I.tuple g1
  refine ⟨its,rv,fun i h=>IsTupIter h it a i∧IsTup h a its.toArray,by simpa using YaU (prog:=X.prog) (w:=X.w) (A:=X.A.in1) (I.ok.hd hc) it a nt its.toArray,⟨hi,pl⟩,fun i h st=>st.1⟩
def YaV (K:PySem.W.Frag) (ta:TA):TI:=fun σ H R=>ta σ H fun vs H1=>∃ a xs,vs=[.ref a]∧SqT K H1 a xs∧R (VF 0 fun H xs=>SqT K H a xs) H1
theorem Ybt {a:Expr} {ta:TA} {p pos:Pos} (hg:Gl X "enumerate") (hm:X.mg "enumerate"=none) (ha:PA X [a] ta) (hs:starEach [a] X.env=[(false,eval a X.env)]) :
  PI X (.Tuple elts kk tpos) (.Call (.Name "enumerate" p) [a] [] pos) (YaV X.K ta):=by
 intro pins s σ H R I h
 refine Call_ (XT I hg hm boot_enumerate (PyProof.Rows.callWith_type1 (thn (ha pos pins s σ H _ I h) fun us s1 hz=>?_) hs rfl))
 obtain ⟨vs,H1,I1,r1,x,xs,e,hx,q⟩:=hz
 subst e
 obtain ⟨u,rfl,ru⟩:=XA r1
 cases ru
 obtain ⟨i1,_,pl,_⟩:=I1.tuple hx
 have l1:x<s1.heap.objs.size:=by obtain ⟨_,e,_⟩:=pl;exact Heap.lt_size e
 refine Yae pl fun h' he hi keep=>?_
 refine wpAny_pyIter_enum he ?_
 have I2:Inv X pins σ H1 { s1 with heap:=h' }:=I1.kept (t':=s1.toks) keep
 have l1':@LT.lt Nat _ x s1.heap.objs.size:=l1
 refine ⟨_,[s1.heap.objs.size+1,s1.heap.objs.size],_,_,H1,rfl,I2,Yaf (by intro z;have z':@Eq Nat _ _:=z;omega) (by intro z;have z':@Eq Nat _ _:=z;omega) (by intro z;have z':@Eq Nat _ _:=z;omega),⟨⟨_,he⟩,hi⟩,fun c hc=>?_,q⟩
 have hle:s1.heap.objs.size≤c:=by
  simp only [List.mem_cons,List.not_mem_nil,or_false] at hc
  rcases hc with e | e<;>(have e':@Eq Nat _ _:=e;show @LE.le Nat _ s1.heap.objs.size c;omega)
 exact I1.fpOk hle (I1.hok.fresh hle)
end
section
variable {g:TG} {tb:TS} {D:Ends} {σ:St} {H:Hp}
theorem Ybu {k:Nat} {G:Hp→List V→Prop} {xs:List V} (Pv:Nat→St→Hp→Prop) (h0:Pv 0 σ H) (hl:∀ i σ H,i≤xs.length→Pv i σ H→G H xs)
  (hs:∀ i x σ H T,xs[i]?=some x→Pv i σ H→H T=none→g (.ref T) σ (upd H T (.tup [.int ((i+k:Nat):Int),x])) fun σ2 H2=>tb { D with nx:=Pv (i+1),ct:=Pv (i+1),bk:=D.nx } σ2 H2) (hd:∀ σ H,Pv xs.length σ H→D.nx σ H) :
  ∃ W:Nat→Nat→St→Hp→Prop,(∃ m,W 0 m σ H)∧∀ i m σ H,W i m σ H →
   ((VF k G).stop i H∧D.nx σ H)∨((VF k G).go i H∧∃ N:St→Hp→Prop,(∀ σ' H',N σ' H'→∃ m',m'<m∧W (i+1) m' σ' H')∧∀ x H',(VF k G).yld i H x H'→g x σ H' fun σ2 H2=>tb { D with nx:=N,ct:=N,bk:=D.nx } σ2 H2):=by
 refine ⟨fun i m σ H=>m=xs.length - i∧i≤xs.length∧Pv i σ H,⟨xs.length,by simp,Nat.zero_le _,h0⟩,?_⟩
 rintro i m σ H ⟨rfl,hi,p⟩
 have q:=hl i σ H hi p
 by_cases hlt:i<xs.length
 ·have hx:xs[i]?=some xs[i]:=List.getElem?_eq_getElem hlt
  refine .inr ⟨⟨xs,_,q,hx⟩,Pv (i+1),fun σ' H' p'=>⟨xs.length - (i+1),by omega,rfl,hlt,p'⟩,?_⟩
  rintro v H' ⟨T,rfl,hT,heq⟩
  have e:=heq xs _ q hx
  subst e
  exact hs i _ σ H T hx p hT
 ·have e:i=xs.length:=by omega
  subst e
  exact .inl ⟨⟨xs,q,rfl⟩,hd σ H p⟩
theorem Yag {K:PySem.W.Frag} {ta:TA} {a:Addr} {xs:List V} (Pv:Nat→St→Hp→Prop) (ha:∀ R:List V→Hp→Prop,R [.ref a] H→ta σ H R) (h0:Pv 0 σ H) (hl:∀ i σ H,i≤xs.length→Pv i σ H→SqT K H a xs)
  (hs:∀ i x σ H T,xs[i]?=some x→Pv i σ H→H T=none→g (.ref T) σ (upd H T (.tup [.int (i:Int),x])) fun σ2 H2=>tb { D with nx:=Pv (i+1),ct:=Pv (i+1),bk:=D.nx } σ2 H2) (hd:∀ σ H,Pv xs.length σ H→D.nx σ H):Vz (YaV K ta) g tb D σ H:=by
 refine ha _ ⟨a,xs,rfl,hl 0 σ H (Nat.zero_le _) h0,?_⟩
 exact Ybu Pv h0 hl (fun i x σ H T hx p hT=>hs i x σ H T hx p hT) hd
end
end L2
namespace L2
open PySem PySem.Spec PyProof.Rows
section
variable {prog:Program} {w:World} {A:Around} {E:Value→Shared→Prop} {s:Shared}
open AutoSeq1 (wpAny_loadPart') in
end
end L2
namespace L2
open PySem PySem.Spec PyProof.Rows
section
variable {X:Cx} {elts:List Expr} {kk:Nat} {tpos:Pos}
end
section
variable {g:TG} {tb:TS} {D:Ends} {σ:St} {H:Hp}
end
section
variable {X:Cx} {tg:Expr}
end
end L2
namespace L2
open PySem PySem.Spec PyProof.Rows
def ExcD (a:Addr) (cls:Value) (dc:Option Addr):HO := .ext fun h=>∃ o vs,h.get? a=some o∧o.cls=cls∧o.data = .fields vs∧o.dict=dc
section
variable {P:Program} {w:World} {l:List Env} {H H':Hp} {h h' h'' B:Heap} {a e:Addr} {cls:Value} {o:HO}
theorem YN.alive (x:YN P w H h a o):∃ u,h.get? a=some u:=by
 cases o with
 | lst xs=>obtain ⟨_,_,_,_,e⟩:=x;exact ⟨_,e⟩
 | tup xs=>obtain ⟨_,_,_,u,e,_⟩:=x;exact ⟨_,e⟩
 | dK kvs=>obtain ⟨_,_,_,_,o,_,_,e,_⟩:=x;exact ⟨_,e⟩
 | dT kvs=>obtain ⟨_,_,_,_,o,_,_,e,_⟩:=x;exact ⟨_,e⟩
 | set S n=>obtain ⟨o,_,_,_,e,_⟩:=x;exact ⟨_,e⟩
 | ins C dx fs=>obtain ⟨_,_,_,e,_⟩:=x;exact ⟨_,e⟩
 | own y=>exact x
 | xd fs=>obtain ⟨_,⟨_,_,_,e,_⟩,_⟩:=x;exact ⟨_,e⟩
 | rng lo hi=>obtain ⟨_,_,_,e⟩:=x;exact ⟨_,e⟩
 | frz ob u=>obtain ⟨e,_⟩:=x;exact ⟨_,e⟩
 | tbl ps=>exact ⟨_,(show h.get? a=some _ from x)⟩
 | met f y=>exact ⟨_,(show h.get? a=some _ from x)⟩
 | ext φ=>exact x.2.1
theorem Fly.new (F:Fly P w l H h e cls H' h' B) (hf:∀ b∈frs l,H b=none) (nf:∀ b∈frs l,∀ o,h.get? b=some o→∀ vs,o.data ≠ .fields vs):h.get? e=none:=by
 obtain ⟨a0,fl⟩:=F.fl
 cases q:h.get? e with
 | none=>rfl
 | some o =>
  by_cases hb:e∈frs l
  ·obtain ⟨sl,z⟩:=F.slot e o q (hf e hb) hb
   obtain ⟨oe,vs,z',_,d,_⟩:=fl.first
   rw [z] at z'
   cases z'
   exact absurd d (nf e hb o q vs)
  ·obtain ⟨o',z⟩:=F.al e o q hb
   rw [fl.2.1] at z
   cases z
theorem Fly.out (F:Fly P w l H h e cls H' h' B):H' e=none:=by
 obtain ⟨a0,fl⟩:=F.fl
 cases q:H' e with
 | none=>rfl
 | some u =>
  obtain ⟨o,z⟩:=(F.hok e u q).alive
  rw [fl.2.1] at z
  cases z
end
section
variable {X:Cx} {pins:List (Addr×Obj)} {σ:St} {H H' H1:Hp} {s s1 s':Shared}
end
def Ends.gone (D:Ends) (j:Nat):Ends:={ nx:=fun σ H=>D.nx (σ.set j none) H,rt:=D.rt,bk:=fun σ H=>D.bk (σ.set j none) H,ct:=fun σ H=>D.ct (σ.set j none) H }
section
variable {X:Cx} {pins:List (Addr×Obj)} {σ:St} {H H' H1:Hp} {s s1 s':Shared} {e:Value} {D:Ends} {ts:TS} {b₀:Stmt} {suite:List Stmt} {c n:Str} {cv:Value} {cp hpos:Pos} {j:Nat}
end
end L2
namespace L2
open PySem PySem.Spec PyProof.Rows
def YcU (K:PySem.W.Frag) (cv:Value) (sp:Sp) (t:TA) (i j:Nat) (ts:TS):TS:=fun D σ H=>t σ H fun vs H1=>sp (vs++[]) H1 (fun v H2=>D.nx (σ.set i (some v)) H2) (fun cls dc H2=>PySem.W.exmOne K cls cv=some true∧∀ a,H2 a=none→ts (D.gone j) (σ.set j (some (.ref a))) (upd H2 a (ExcD a cls dc)))
section
variable {g:Gx} {X:Cx} {k jj i j:Nat} {x f c n:Str} {ps:List Str} {sp:Sp} {e:Expr} {es:List Expr} {t:TA} {ts:TS} {b₀:Stmt} {suite:List Stmt} {cv:Value} {fp px cp hpos apos cpos pos:Pos}
end
structure RoomM (k:Nat) (A:Around):Prop where
 dp:A.depth+3*k+5<recursionLimit
 un:A.units+16*k+200<cLine
theorem Room.m {k:Nat} {A:Around} (r:Room k A) (h:Option Value):RoomM k (A.mark h):=⟨r.dp,r.un⟩
section
variable {g:Gx} {k:Nat} {x qual:Str} {st:Stmt} {N ps:List Str} {sp:Sp}
end
section
variable {g:Gx} {X:Cx} {k j:Nat} {x:Str} {ps:List Str} {sp:Sp} {e:Expr} {es:List Expr} {t:TA} {p pos:Pos}
end
end L2
namespace PySem.W
open PySem PySem.Calls PyProof.Rows Builtin Builtin.ObjectAttr Builtin.Getset_descriptor
section
variable {prog:Program} {w:World} {A:Around} {E:Value→Shared→Prop} {K:Frag} {x C:Addr} {ox:Obj} {hh:Heap} {g:Array GenState} {d:Drawn} {t:Nat} {os:OsState}
end
end PySem.W
namespace L2
open PySem PySem.Spec PyProof.Rows
section
variable {X:Cx}
end
theorem Ybv {X:Cx} {a:Addr}:(X.caught a).K=X.K:=rfl
end L2
namespace L2
open PySem PySem.Spec PyProof.Rows
end L2
namespace L2
open PySem PySem.Spec PyProof.Rows
section
variable {src:List (Option Nat)} {te:TE} {σ:St} {H:Hp} {Q:VK}
end
end L2
namespace L2
open PySem PySem.Spec PyProof.Rows
section
variable {X:Cx}
end
end L2
namespace L2
open PySem PySem.Spec PyProof.Rows
section
variable {src:List (Option Nat)} {te:TE} {σ:St} {H:Hp} {Q:VK}
end
end L2
namespace L2
open PySem PySem.Spec PyProof.Rows
def SqX (K:PySem.W.Frag) (H:Hp) (a:Addr) (xs:List V):Prop:=Rd H a (.lst xs)∨∃ (its:Array Value) (n:Nat),K.lookup a=some { cls := .type "list",data := .seq its n }∧its.size≤sizeLine∧Yn xs its.toList
theorem SqX.sq {K:PySem.W.Frag} {H:Hp} {a:Addr} {xs:List V} (h:SqX K H a xs):SqL K H a xs:=by
 rcases h with h | ⟨its,n,h1,h2,h3⟩
 ·exact .inl h
 ·exact .inr ⟨_,its,n,h1,rfl,rfl,rfl,h2,h3⟩
theorem SqX.of {K:PySem.W.Frag} {H:Hp} {a:Addr} {xs:List V} (h:H a=some (.lst xs)):SqX K H a xs := .inl (.of h)
theorem SqX.keep {K:PySem.W.Frag} {H H':Hp} {a:Addr} {xs:List V} (h:SqX K H a xs) (s:Yc H H'):SqX K H' a xs:=by
 rcases h with h | h
 ·rcases h with h | ⟨o,h⟩
  ·exact .inl (.inl (s _ _ h))
  ·exact .inl (.inr ⟨o,s _ _ h⟩)
 ·exact .inr h
section
variable {X:Cx}
end
end L2
namespace L2
open PySem PySem.Spec PyProof.Rows
section
variable {X:Cx} {g:Gx} {k j i:Nat} {x:Str} {ps:List Str} {sp:Sp} {p pos:Pos} {e:Expr} {es:List Expr} {t:TA}
end
theorem WB (es:List Expr) (x:Nat) (p:Pos) (es':List Expr) (env:Env):starEach (.Tuple es x p::es') env=(false,eval (.Tuple es x p) env)::starEach es' env:=rfl
theorem Xu (es:List Expr) (p:Pos) (es':List Expr) (env:Env):starEach (.List es p::es') env=(false,eval (.List es p) env)::starEach es' env:=rfl
end L2
namespace L2
open PySem PySem.Spec PyProof.Rows
section
variable {X:Cx} {pins:List (Addr×Obj)} {σ:St} {H:Hp} {s:Shared} {A:Around} {E Q:Value→Shared→Prop}
end
section
variable {X:Cx}
end
section
variable {src:List (Option Nat)} {te:TE} {σ:St} {Q:VK}
variable {X:Cx} {H:Hp}
end
end L2
namespace L2
open PySem PySem.Spec PyProof.Rows
mutual
inductive LtR:PyData→PyData→Bool→Prop
 | int (i j:Int):LtR (.int i) (.int j) (decide (i<j))
 | tup {ds es:List PyData} {b:Bool}:LtA ds es b→LtR (.tuple ds) (.tuple es) b
inductive LtA:List PyData→List PyData→Bool→Prop
 | nn:LtA [] [] false
 | nc {e:PyData} {es:List PyData}:LtA [] (e::es) true
 | cn {d:PyData} {ds:List PyData}:LtA (d::ds) [] false
 | eq {d e:PyData} {ds es:List PyData} {b:Bool}:PyData.eqv d e=true→LtA ds es b→LtA (d::ds) (e::es) b
 | ne {d e:PyData} {ds es:List PyData} {b:Bool}:PyData.eqv d e=false→LtR d e b→LtA (d::ds) (e::es) b
end
def LtAt (A:Around) (s:Shared) (u v:Value) (b:Bool):Prop:=∀ (prog:Program) (w:World) (E:Value→Shared→Prop) (Q:Value→Shared→Prop),Q (.bool b) s→wpAny (model prog w) A (richCompare .Lt u v) Q E s
section
open PySem.SeqAt
open PySem.AutoSeq1 (wpAny_loadPart')
open PySem.MeetsSeq PySem.MeetsSeq2 PySem.MeetsSeq3
inductive Two (A:Around) (s:Shared):List Value→List Value→Bool→Prop
 | nn:Two A s [] [] false
 | nc {v:Value} {vs:List Value}:Two A s [] (v::vs) true
 | cn {v:Value} {vs:List Value}:Two A s (v::vs) [] false
 | eq {u v:Value} {us vs:List Value} {b:Bool}:EqAt A s u v true→Two A s us vs b→Two A s (u::us) (v::vs) b
 | ne {u v:Value} {us vs:List Value} {b:Bool}:EqAt A s u v false→LtAt A s u v b→Two A s (u::us) (v::vs) b
theorem UP (l b:Addr) (items items2:Array Value) (n n2:Nat) (dd dd2:Option Addr) (sl sl2:Array (Option Value)) (r:Bool) :
  Meets (Builtin.«tuple.__lt__» ⟨[.ref l,.ref b],[]⟩)
   (fun A R s=>s.heap.get? l=some { cls := .type "tuple",dict:=dd,data := .seq items n,slots:=sl }∧s.heap.get? b=some { cls := .type "tuple",dict:=dd2,data := .seq items2 n2,slots:=sl2 } ∧
    Two A.in1 s items.toList items2.toList r∧R (.ok (.ret (.bool r))) s) :=
 .of_wp fun prog w A R s h=>by
  obtain ⟨hp,g,d,tk,os⟩:=s;obtain ⟨hl,hb,h2,h⟩:=h
  have f2:=AutoSeq1.sub_tuple_tuple
  wp_walk using wpAny_loadPart' hl,wpAny_loadPart' hb,wpAny_forIn_list _ (fun YW b s'=>b.1=none∧s'=⟨hp,g,d,tk,os⟩∧∃ (vs ws:List Value),YW=vs.zip ws ∧
   vs.length+items2.size=ws.length+items.size∧Two A.in1 ⟨hp,g,d,tk,os⟩ vs ws r) _
  case turn =>
   rintro ⟨y,x⟩ YW b s' ⟨hb',rfl,vs,ws,hz,hlen,ht⟩
   cases ht with
   | nn=>cases hz
   | nc=>cases hz
   | cn=>cases hz
   | eq he ht' =>
    rw [List.zip_cons_cons] at hz
    injection hz with hyx hrest
    injection hyx with hy hx
    subst hy hx
    simp only [List.length_cons] at hlen
    refine wpAny_bind (he prog w _ _ ?_)
    wp_walk
    exact ⟨rfl,rfl,_,_,hrest,by omega,ht'⟩
   | ne he hlt =>
    rw [List.zip_cons_cons] at hz
    injection hz with hyx hrest
    injection hyx with hy hx
    subst hy hx
    refine wpAny_bind (he prog w _ _ ?_)
    have hri:=hlt prog w
    wp_walk using hri
    exact ⟨_,rfl,by simpa using h⟩
  case fin =>
   rintro ⟨b1,b2⟩ s' ⟨hb',rfl,vs,ws,hz,hlen,ht⟩
   simp only at hb'
   subst hb'
   have hv:r=decide (items.size<items2.size):=by
    cases ht with
    | nn=>simp only [List.length_nil] at hlen;exact (decide_eq_false (by omega)).symm
    | nc=>simp only [List.length_nil,List.length_cons] at hlen;exact (decide_eq_true (by omega)).symm
    | cn=>simp only [List.length_nil,List.length_cons] at hlen;exact (decide_eq_false (by omega)).symm
    | eq _ _=>rw [List.zip_cons_cons] at hz;cases hz
    | ne _ _=>rw [List.zip_cons_cons] at hz;cases hz
   rw [hv] at h
   wp_walk
   exact ⟨_,rfl,by simpa [Builtin.Tuple.tupleCompareSizes] using h⟩
  case h =>
   exact ⟨rfl,rfl,items.toList,items2.toList,rfl,by simp;omega,h2⟩
mutual
theorem Vn:∀ {d e:PyData} {b:Bool},LtR d e b→∀ (A:Around) (s:Shared) (u v:Value) (as bs:List Addr),Reads s.heap u d as→Reads s.heap v e bs→d.canLay0=true→e.canLay0=true→A.units+d.depth+1<cLine→LtAt A s u v b
 | _,_,_,.int i j,A,s,u,v,as,bs,r1,r2,_,_,_=>by
  cases r1
  cases r2
  exact fun prog w E Q h=>HT.rcLt_int A s i _ j _ prog w E Q h
 | _,_,b,.tup (ds:=ds) (es:=es) hA,A,s,u,v,as,bs,r1,r2,l1,l2,hu=>by
  rw [PyData.canLay0] at l1 l2
  rw [PyData.depth] at hu
  cases r1 with
  | @tuple a1 o1 vs1 n1 _ _ h1 c1 d1 q1 =>
  cases r2 with
  | @tuple a2 o2 vs2 n2 _ _ h2 c2 d2 q2 =>
  have ht:=VZ hA A.in1 s _ _ _ _ q1 q2 l1 l2 (show A.units+1+_+1<cLine by omega)
  obtain ⟨cls,dd,data,sl⟩:=o1
  obtain ⟨cls2,dd2,data2,sl2⟩:=o2
  have c1':cls=Value.type "tuple":=c1
  have c2':cls2=Value.type "tuple":=c2
  have d1':data=Data.seq vs1 n1:=d1
  have d2':data2=Data.seq vs2 n2:=d2
  subst c1' c2' d1' d2'
  exact fun prog w E Q h=>richCompare_meets_room (op := .Lt) ⟨_,h1,rfl⟩ ⟨_,h2,rfl⟩ PySem.F.slot_tuple_lt PySem.F.entry_tuple_lt (PySem.F.args_tuple_lt_2 _ _) (UP _ _ _ _ n1 n2 dd dd2 sl sl2 b)
   ⟨h1,h2,ht,show Value.bool b≠Value.notImplemented∧Q (.bool b) s from ⟨(fun x=>nomatch x),h⟩⟩ (by omega)
theorem VZ:∀ {ds es:List PyData} {b:Bool},LtA ds es b→∀ (A:Around) (s:Shared) (us vs:List Value) (as bs:List Addr),ReadsAll s.heap us ds as→ReadsAll s.heap vs es bs→PyData.canLayAll0 ds=true→PyData.canLayAll0 es=true→A.units+PyData.depthAll ds+1<cLine→Two A s us vs b
 | _,_,_,.nn,A,s,us,vs,as,bs,r1,r2,_,_,_=>by cases r1;cases r2;exact .nn
 | _,_,_,.nc,A,s,us,vs,as,bs,r1,r2,_,_,_=>by cases r1;cases r2;exact .nc
 | _,_,_,.cn,A,s,us,vs,as,bs,r1,r2,_,_,_=>by cases r1;cases r2;exact .cn
 | _,_,b,.eq (d:=d) (e:=e) he hA,A,s,us,vs,as,bs,r1,r2,l1,l2,hu=>by
  rw [PyData.canLayAll0,Bool.and_eq_true] at l1 l2
  rw [PyData.depthAll] at hu
  cases r1 with
  | cons q1 qs1 =>
  cases r2 with
  | cons q2 qs2 =>
  have h:=SeqAt.eqAt_reads d e A s _ _ _ _ q1 q2 l1.1 l2.1 (by omega)
  rw [he] at h
  exact .eq h (VZ hA A s _ _ _ _ qs1 qs2 l1.2 l2.2 (by omega))
 | _,_,b,.ne (d:=d) (e:=e) he hR,A,s,us,vs,as,bs,r1,r2,l1,l2,hu=>by
  rw [PyData.canLayAll0,Bool.and_eq_true] at l1 l2
  rw [PyData.depthAll] at hu
  cases r1 with
  | cons q1 qs1 =>
  cases r2 with
  | cons q2 qs2 =>
  have h:=SeqAt.eqAt_reads d e A s _ _ _ _ q1 q2 l1.1 l2.1 (by omega)
  rw [he] at h
  exact .ne h (Vn hR A s _ _ _ _ q1 q2 l1.1 l2.1 (by omega))
end
variable {X:Cx}
theorem YaW (hu:X.A.units+66<cLine):OpR X (compareOp .Lt) (fun x y H Q=>∃ d e b,Den X.K H x d∧Den X.K H y e∧LtR d e b∧d.depth≤64∧Q (.bl b) H):=by
 intro pins s σ H x y v u Q I rx ry h
 obtain ⟨d,e,b,hd,he,hc,dp,q⟩:=h
 obtain ⟨as,ra⟩:=hd.reads I rx
 obtain ⟨bs,rb⟩:=he.reads I ry
 exact Vn hc _ _ _ _ _ _ ra rb hd.lay he.lay (by omega) _ _ _ _ ⟨.bl _,H,I,rfl,q⟩
end
end L2
namespace L2
open PySem PySem.Spec PyProof.Rows
mutual
inductive LeR:PyData→PyData→Bool→Prop
 | int (i j:Int):LeR (.int i) (.int j) (decide (i≤j))
 | tup {ds es:List PyData} {b:Bool}:LeA ds es b→LeR (.tuple ds) (.tuple es) b
inductive LeA:List PyData→List PyData→Bool→Prop
 | nn:LeA [] [] true
 | nc {e:PyData} {es:List PyData}:LeA [] (e::es) true
 | cn {d:PyData} {ds:List PyData}:LeA (d::ds) [] false
 | eq {d e:PyData} {ds es:List PyData} {b:Bool}:PyData.eqv d e=true→LeA ds es b→LeA (d::ds) (e::es) b
 | ne {d e:PyData} {ds es:List PyData} {b:Bool}:PyData.eqv d e=false→LeR d e b→LeA (d::ds) (e::es) b
end
theorem Ybw (A:Around) (s:Shared) (a:Int) (t:Tok) (c:Int) (u:Tok) (prog:Program) (w:World) (E:Value→Shared→Prop) (Q:Value→Shared→Prop) (h:Q (.bool (decide (a≤c))) s) :
  wpAny (model prog w) A (richCompare .LtE (.int a t) (.int c u)) Q E s :=
 (PyProof.Rows.le_int h:wpAny (model prog w) A (compareOp .LtE (.int a t) (.int c u)) Q E s)
def LeAt (A:Around) (s:Shared) (u v:Value) (b:Bool):Prop:=∀ (prog:Program) (w:World) (E:Value→Shared→Prop) (Q:Value→Shared→Prop),Q (.bool b) s→wpAny (model prog w) A (richCompare .LtE u v) Q E s
section
open PySem.SeqAt
open PySem.AutoSeq1 (wpAny_loadPart')
open PySem.MeetsSeq PySem.MeetsSeq2 PySem.MeetsSeq3
inductive TwoE (A:Around) (s:Shared):List Value→List Value→Bool→Prop
 | nn:TwoE A s [] [] true
 | nc {v:Value} {vs:List Value}:TwoE A s [] (v::vs) true
 | cn {v:Value} {vs:List Value}:TwoE A s (v::vs) [] false
 | eq {u v:Value} {us vs:List Value} {b:Bool}:EqAt A s u v true→TwoE A s us vs b→TwoE A s (u::us) (v::vs) b
 | ne {u v:Value} {us vs:List Value} {b:Bool}:EqAt A s u v false→LeAt A s u v b→TwoE A s (u::us) (v::vs) b
theorem UQ (l b:Addr) (items items2:Array Value) (n n2:Nat) (dd dd2:Option Addr) (sl sl2:Array (Option Value)) (r:Bool) :
  Meets (Builtin.«tuple.__le__» ⟨[.ref l,.ref b],[]⟩)
   (fun A R s=>s.heap.get? l=some { cls := .type "tuple",dict:=dd,data := .seq items n,slots:=sl }∧s.heap.get? b=some { cls := .type "tuple",dict:=dd2,data := .seq items2 n2,slots:=sl2 } ∧
    TwoE A.in1 s items.toList items2.toList r∧R (.ok (.ret (.bool r))) s) :=
 .of_wp fun prog w A R s h=>by
  obtain ⟨hp,g,d,tk,os⟩:=s;obtain ⟨hl,hb,h2,h⟩:=h
  have f2:=AutoSeq1.sub_tuple_tuple
  wp_walk using wpAny_loadPart' hl,wpAny_loadPart' hb,wpAny_forIn_list _ (fun YW b s'=>b.1=none∧s'=⟨hp,g,d,tk,os⟩∧∃ (vs ws:List Value),YW=vs.zip ws ∧
   vs.length+items2.size=ws.length+items.size∧TwoE A.in1 ⟨hp,g,d,tk,os⟩ vs ws r) _
  case turn =>
   rintro ⟨y,x⟩ YW b s' ⟨hb',rfl,vs,ws,hz,hlen,ht⟩
   cases ht with
   | nn=>cases hz
   | nc=>cases hz
   | cn=>cases hz
   | eq he ht' =>
    rw [List.zip_cons_cons] at hz
    injection hz with hyx hrest
    injection hyx with hy hx
    subst hy hx
    simp only [List.length_cons] at hlen
    refine wpAny_bind (he prog w _ _ ?_)
    wp_walk
    exact ⟨rfl,rfl,_,_,hrest,by omega,ht'⟩
   | ne he hlt =>
    rw [List.zip_cons_cons] at hz
    injection hz with hyx hrest
    injection hyx with hy hx
    subst hy hx
    refine wpAny_bind (he prog w _ _ ?_)
    have hri:=hlt prog w
    wp_walk using hri
    exact ⟨_,rfl,by simpa using h⟩
  case fin =>
   rintro ⟨b1,b2⟩ s' ⟨hb',rfl,vs,ws,hz,hlen,ht⟩
   simp only at hb'
   subst hb'
   have hv:r=decide (items.size≤items2.size):=by
    cases ht with
    | nn=>simp only [List.length_nil] at hlen;exact (decide_eq_true (by omega)).symm
    | nc=>simp only [List.length_nil,List.length_cons] at hlen;exact (decide_eq_true (by omega)).symm
    | cn=>simp only [List.length_nil,List.length_cons] at hlen;exact (decide_eq_false (by omega)).symm
    | eq _ _=>rw [List.zip_cons_cons] at hz;cases hz
    | ne _ _=>rw [List.zip_cons_cons] at hz;cases hz
   rw [hv] at h
   wp_walk
   exact ⟨_,rfl,by simpa [Builtin.Tuple.tupleCompareSizes] using h⟩
  case h =>
   exact ⟨rfl,rfl,items.toList,items2.toList,rfl,by simp;omega,h2⟩
mutual
theorem Vo:∀ {d e:PyData} {b:Bool},LeR d e b→∀ (A:Around) (s:Shared) (u v:Value) (as bs:List Addr),Reads s.heap u d as→Reads s.heap v e bs→d.canLay0=true→e.canLay0=true→A.units+d.depth+1<cLine→LeAt A s u v b
 | _,_,_,.int i j,A,s,u,v,as,bs,r1,r2,_,_,_=>by
  cases r1
  cases r2
  exact fun prog w E Q h=>Ybw A s i _ j _ prog w E Q h
 | _,_,b,.tup (ds:=ds) (es:=es) hA,A,s,u,v,as,bs,r1,r2,l1,l2,hu=>by
  rw [PyData.canLay0] at l1 l2
  rw [PyData.depth] at hu
  cases r1 with
  | @tuple a1 o1 vs1 n1 _ _ h1 c1 d1 q1 =>
  cases r2 with
  | @tuple a2 o2 vs2 n2 _ _ h2 c2 d2 q2 =>
  have ht:=Vp hA A.in1 s _ _ _ _ q1 q2 l1 l2 (show A.units+1+_+1<cLine by omega)
  obtain ⟨cls,dd,data,sl⟩:=o1
  obtain ⟨cls2,dd2,data2,sl2⟩:=o2
  have c1':cls=Value.type "tuple":=c1
  have c2':cls2=Value.type "tuple":=c2
  have d1':data=Data.seq vs1 n1:=d1
  have d2':data2=Data.seq vs2 n2:=d2
  subst c1' c2' d1' d2'
  exact fun prog w E Q h=>richCompare_meets_room (op := .LtE) ⟨_,h1,rfl⟩ ⟨_,h2,rfl⟩ PySem.F.slot_tuple_le PySem.F.entry_tuple_le (PySem.F.args_tuple_le_2 _ _) (UQ _ _ _ _ n1 n2 dd dd2 sl sl2 b)
   ⟨h1,h2,ht,show Value.bool b≠Value.notImplemented∧Q (.bool b) s from ⟨(fun x=>nomatch x),h⟩⟩ (by omega)
theorem Vp:∀ {ds es:List PyData} {b:Bool},LeA ds es b→∀ (A:Around) (s:Shared) (us vs:List Value) (as bs:List Addr),ReadsAll s.heap us ds as→ReadsAll s.heap vs es bs→PyData.canLayAll0 ds=true→PyData.canLayAll0 es=true→A.units+PyData.depthAll ds+1<cLine→TwoE A s us vs b
 | _,_,_,.nn,A,s,us,vs,as,bs,r1,r2,_,_,_=>by cases r1;cases r2;exact .nn
 | _,_,_,.nc,A,s,us,vs,as,bs,r1,r2,_,_,_=>by cases r1;cases r2;exact .nc
 | _,_,_,.cn,A,s,us,vs,as,bs,r1,r2,_,_,_=>by cases r1;cases r2;exact .cn
 | _,_,b,.eq (d:=d) (e:=e) he hA,A,s,us,vs,as,bs,r1,r2,l1,l2,hu=>by
  rw [PyData.canLayAll0,Bool.and_eq_true] at l1 l2
  rw [PyData.depthAll] at hu
  cases r1 with
  | cons q1 qs1 =>
  cases r2 with
  | cons q2 qs2 =>
  have h:=SeqAt.eqAt_reads d e A s _ _ _ _ q1 q2 l1.1 l2.1 (by omega)
  rw [he] at h
  exact .eq h (Vp hA A s _ _ _ _ qs1 qs2 l1.2 l2.2 (by omega))
 | _,_,b,.ne (d:=d) (e:=e) he hR,A,s,us,vs,as,bs,r1,r2,l1,l2,hu=>by
  rw [PyData.canLayAll0,Bool.and_eq_true] at l1 l2
  rw [PyData.depthAll] at hu
  cases r1 with
  | cons q1 qs1 =>
  cases r2 with
  | cons q2 qs2 =>
  have h:=SeqAt.eqAt_reads d e A s _ _ _ _ q1 q2 l1.1 l2.1 (by omega)
  rw [he] at h
  exact .ne h (Vo hR A s _ _ _ _ q1 q2 l1.1 l2.1 (by omega))
end
variable {X:Cx}
theorem YcV (hu:X.A.units+66<cLine):OpR X (compareOp .LtE) (fun x y H Q=>∃ d e b,Den X.K H x d∧Den X.K H y e∧LeR d e b∧d.depth≤64∧Q (.bl b) H):=by
 intro pins s σ H x y v u Q I rx ry h
 obtain ⟨d,e,b,hd,he,hc,dp,q⟩:=h
 obtain ⟨as,ra⟩:=hd.reads I rx
 obtain ⟨bs,rb⟩:=he.reads I ry
 exact Vo hc _ _ _ _ _ _ ra rb hd.lay he.lay (by omega) _ _ _ _ ⟨.bl _,H,I,rfl,q⟩
variable {K:PySem.W.Frag}
theorem Ycq (hu:X.A.units+66<cLine) (h:X.K=K:=by rfl):OpR X (compareOp .Lt) (fun x y H Q=>∃ d e b,Den K H x d∧Den K H y e∧LtR d e b∧d.depth≤64∧Q (.bl b) H):=by subst h;exact YaW hu
theorem Ycr (hu:X.A.units+66<cLine) (h:X.K=K:=by rfl):OpR X (compareOp .LtE) (fun x y H Q=>∃ d e b,Den K H x d∧Den K H y e∧LeR d e b∧d.depth≤64∧Q (.bl b) H):=by subst h;exact YcV hu
theorem Room.units66 {k:Nat} {A:Around} (r:Room k A):A.units+66<cLine:=by have:=r.un;omega
end
end L2
namespace L2
open PySem
mutual
inductive KD:PyData→Prop
 | int (i:Int):KD (.int i)
 | tup {ds:List PyData}:KDs ds→KD (.tuple ds)
inductive KDs:List PyData→Prop
 | nil:KDs []
 | cons {d:PyData} {ds:List PyData}:KD d→KDs ds→KDs (d::ds)
end
mutual
theorem KD.eqv:∀ {d e:PyData},KD d→KD e→(PyData.eqv d e=true↔d=e)
 | _,_,.int i,.int j=>by rw [PyData.eqv];simp
 | _,_,.int i,.tup _=>by rw [PyData.eqv];simp
 | _,_,.tup _,.int i=>by rw [PyData.eqv];simp
 | _,_,.tup h,.tup k=>by
  rw [PyData.eqv,h.eqv k]
  simp
theorem KDs.eqv:∀ {ds es:List PyData},KDs ds→KDs es→(PyData.eqvAll ds es=true↔ds=es)
 | _,_,.nil,.nil=>by simp [PyData.eqvAll]
 | _,_,.nil,.cons _ _=>by simp [PyData.eqvAll]
 | _,_,.cons _ _,.nil=>by simp [PyData.eqvAll]
 | _,_,.cons (d:=d) (ds:=ds) h hs,.cons (d:=e) (ds:=es) k ks=>by
  rw [PyData.eqvAll,Bool.and_eq_true,h.eqv k,hs.eqv ks]
  simp
end
mutual
inductive KLt:PyData→PyData→Prop
 | int {i j:Int}:i<j→KLt (.int i) (.int j)
 | mix {i:Int} {ds:List PyData}:KLt (.int i) (.tuple ds)
 | tup {ds es:List PyData}:KLs ds es→KLt (.tuple ds) (.tuple es)
inductive KLs:List PyData→List PyData→Prop
 | nil {e:PyData} {es:List PyData}:KLs [] (e::es)
 | here {d e:PyData} {ds es:List PyData}:KLt d e→KLs (d::ds) (e::es)
 | there {d:PyData} {ds es:List PyData}:KLs ds es→KLs (d::ds) (d::es)
end
mutual
theorem KLt.irr:∀ {d e:PyData},KLt d e→d=e→False
 | _,_,.int h,e=>by cases e;omega
 | _,_,.tup h,e=>by cases e;exact h.irr rfl
theorem KLs.irr:∀ {ds es:List PyData},KLs ds es→ds=es→False
 | _,_,.here h,e=>by injection e with e1 e2;exact h.irr e1
 | _,_,.there h,e=>by injection e with e1 e2;exact h.irr e2
end
mutual
theorem KLt.trans:∀ {a b c:PyData},KLt a b→KLt b c→KLt a c
 | _,_,_,.int h,.int k => .int (by omega)
 | _,_,_,.int h,.mix => .mix
 | _,_,_,.mix,.tup _ => .mix
 | _,_,_,.tup h,.tup k => .tup (h.trans k)
theorem KLs.trans:∀ {a b c:List PyData},KLs a b→KLs b c→KLs a c
 | _,_,_,.nil,.here _ => .nil
 | _,_,_,.nil,.there _ => .nil
 | _,_,_,.here h,.here k => .here (h.trans k)
 | _,_,_,.here h,.there _ => .here h
 | _,_,_,.there _,.here k => .here k
 | _,_,_,.there h,.there k => .there (h.trans k)
end
mutual
theorem KD.tri:∀ {d e:PyData},KD d→KD e→KLt d e∨d=e∨KLt e d
 | _,_,.int i,.int j=>by
  rcases Int.lt_trichotomy i j with h | h | h
  ·exact .inl (.int h)
  ·exact .inr (.inl (by rw [h]))
  ·exact .inr (.inr (.int h))
 | _,_,.int i,.tup _ => .inl .mix
 | _,_,.tup _,.int i => .inr (.inr .mix)
 | _,_,.tup h,.tup k=>by
  rcases h.tri k with h | h | h
  ·exact .inl (.tup h)
  ·exact .inr (.inl (by rw [h]))
  ·exact .inr (.inr (.tup h))
theorem KDs.tri:∀ {ds es:List PyData},KDs ds→KDs es→KLs ds es∨ds=es∨KLs es ds
 | _,_,.nil,.nil => .inr (.inl rfl)
 | _,_,.nil,.cons _ _ => .inl .nil
 | _,_,.cons _ _,.nil => .inr (.inr .nil)
 | _,_,.cons (d:=d) h hs,.cons (d:=e) k ks=>by
  rcases h.tri k with h | h | h
  ·exact .inl (.here h)
  ·subst h
   rcases hs.tri ks with h | h | h
   ·exact .inl (.there h)
   ·exact .inr (.inl (by rw [h]))
   ·exact .inr (.inr (.there h))
  ·exact .inr (.inr (.here h))
end
mutual
theorem LtR.order:∀ {d e:PyData} {b:Bool},LtR d e b→KD d→KD e→(b=true↔KLt d e)
 | _,_,_,.int i j,_,_=>by
  rw [decide_eq_true_eq]
  exact ⟨.int,fun h=>by cases h;assumption⟩
 | _,_,_,.tup h,.tup k,.tup l=>by
  rw [h.order k l]
  exact ⟨.tup,fun h=>by cases h;assumption⟩
theorem LtA.order:∀ {ds es:List PyData} {b:Bool},LtA ds es b→KDs ds→KDs es→(b=true↔KLs ds es)
 | _,_,_,.nn,_,_=>⟨(fun h=>by cases h),(fun h=>by cases h)⟩
 | _,_,_,.nc,_,_=>⟨fun _ => .nil,fun _=>rfl⟩
 | _,_,_,.cn,_,_=>⟨(fun h=>by cases h),(fun h=>by cases h)⟩
 | _,_,_,.eq he h,.cons k ks,.cons l ls=>by
  have e:=(k.eqv l).mp he
  subst e
  rw [h.order ks ls]
  refine ⟨.there,fun h=>?_⟩
  cases h with
  | here h=>exact (h.irr rfl).elim
  | there h=>exact h
 | _,_,_,.ne he h,.cons k ks,.cons l ls=>by
  have e:_≠_:=fun z=>Bool.eq_false_iff.mp he ((k.eqv l).mpr z)
  rw [h.order k l]
  refine ⟨.here,fun h=>?_⟩
  cases h with
  | here h=>exact h
  | there h=>exact (e rfl).elim
end
mutual
inductive Sim:PyData→PyData→Prop
 | int (i j:Int):Sim (.int i) (.int j)
 | tup {ds es:List PyData}:Sims ds es→Sim (.tuple ds) (.tuple es)
inductive Sims:List PyData→List PyData→Prop
 | nil {es:List PyData}:Sims [] es
 | end_ {ds:List PyData}:Sims ds []
 | cons {d e:PyData} {ds es:List PyData}:Sim d e→(d=e→Sims ds es)→Sims (d::ds) (e::es)
end
theorem V0 {d e:PyData} (hd:KD d) (he:KD e):(PyData.eqv d e=true∧d=e)∨(PyData.eqv d e=false∧d≠e):=by
 cases h:PyData.eqv d e with
 | true=>exact .inl ⟨rfl,(hd.eqv he).mp h⟩
 | false=>exact .inr ⟨rfl,fun z=>by rw [(hd.eqv he).mpr z] at h;cases h⟩
mutual
theorem Sim.lt:∀ {d e:PyData},Sim d e→KD d→KD e→∃ b,LtR d e b
 | _,_,.int i j,_,_=>⟨_,.int i j⟩
 | _,_,.tup h,.tup k,.tup l=>by
  obtain ⟨b,hb⟩:=h.lt k l
  exact ⟨b,.tup hb⟩
theorem Sims.lt:∀ {ds es:List PyData},Sims ds es→KDs ds→KDs es→∃ b,LtA ds es b
 | _,[],.nil,_,_=>⟨_,.nn⟩
 | _,_::_,.nil,_,_=>⟨_,.nc⟩
 | [],_,.end_,_,_=>⟨_,.nn⟩
 | _::_,_,.end_,_,_=>⟨_,.cn⟩
 | _,_,.cons h hs,.cons k ks,.cons l ls=>by
  rcases V0 k l with ⟨a,c⟩ | ⟨a,c⟩
  ·obtain ⟨b,hb⟩:=(hs c).lt ks ls
   exact ⟨b,.eq a hb⟩
  ·obtain ⟨b,hb⟩:=h.lt k l
   exact ⟨b,.ne a hb⟩
end
theorem Sim.answer {d e:PyData} (h:Sim d e) (hd:KD d) (he:KD e):∃ b,LtR d e b∧(b=true↔KLt d e):=by
 obtain ⟨b,hb⟩:=h.lt hd he
 exact ⟨b,hb,hb.order hd he⟩
end L2
namespace L2
open PySem
section
variable {src:List (Option Nat)} {te:TE} {σ:St} {H:Hp} {Q:VK}
end
end L2
namespace L2
open PySem
mutual
inductive VL (H:Hp):V→PyData→List Addr→Prop
 | int (i:Int):VL H (.int i) (.int i) []
 | str (x:Str) (h:PyData.strOk x=true):VL H (.str x) (.str x) []
 | lst {a:Addr} {vs:List V} {ds:List PyData} {L:List Addr}:H a=some (.lst vs)→vs.length≤10000→VLs H vs ds L→VL H (.ref a) (.list ds) (a::L)
 | tup {a:Addr} {vs:List V} {ds:List PyData} {L:List Addr}:H a=some (.tup vs)→vs.length≤10000→VLs H vs ds L→VL H (.ref a) (.tuple ds) L
inductive VLs (H:Hp):List V→List PyData→List Addr→Prop
 | nil:VLs H [] [] []
 | cons {v:V} {d:PyData} {L:List Addr} {vs:List V} {ds:List PyData} {L':List Addr}:VL H v d L→VLs H vs ds L'→VLs H (v::vs) (d::ds) (L++L')
end
def Tps (H H':Hp):Prop:=∀ a vs,H a=some (.tup vs)→H' a=some (.tup vs)
theorem Yc.tps {H H':Hp} (s:Yc H H'):Tps H H':=fun a vs h=>s a _ h
theorem Tps.trans {H H' H'':Hp} (s:Tps H H') (t:Tps H' H''):Tps H H'':=fun a vs h=>t a vs (s a vs h)
theorem Tps.upd_lst {H:Hp} {p:Addr} {xs ys:List V} (h:H p=some (.lst xs)):Tps H (upd H p (.lst ys)):=fun a vs ha=>by
 rw [Yl (Um ha h (by intro z;cases z))];exact ha
mutual
theorem VL.keepL {H H':Hp} (t:Tps H H'):∀ {v:V} {d:PyData} {L:List Addr},VL H v d L→(∀ a∈L,∀ vs,H a=some (.lst vs)→H' a=some (.lst vs))→VL H' v d L
 | _,_,_,.int i,_ => .int i
 | _,_,_,.str x h,_ => .str x h
 | _,_,_,.lst h hn hs,e => .lst (e _ (.head _) _ h) hn (hs.keepL t fun a ha=>e a (.tail _ ha))
 | _,_,_,.tup h hn hs,e => .tup (t _ _ h) hn (hs.keepL t e)
theorem VLs.keepL {H H':Hp} (t:Tps H H'):∀ {vs:List V} {ds:List PyData} {L:List Addr},VLs H vs ds L→(∀ a∈L,∀ vs,H a=some (.lst vs)→H' a=some (.lst vs))→VLs H' vs ds L
 | _,_,_,.nil,_ => .nil
 | _,_,_,.cons h hs,e => .cons (h.keepL t fun a ha=>e a (List.mem_append_left _ ha)) (hs.keepL t fun a ha=>e a (List.mem_append_right _ ha))
end
theorem VL.keep {H H':Hp} {v:V} {d:PyData} {L:List Addr} (h:VL H v d L) (s:Yc H H'):VL H' v d L:=h.keepL s.tps fun a _ vs e=>s _ _ e
theorem VLs.keep {H H':Hp} {vs:List V} {ds:List PyData} {L:List Addr} (h:VLs H vs ds L) (s:Yc H H'):VLs H' vs ds L:=h.keepL s.tps fun a _ vs e=>s _ _ e
mutual
theorem VL.mem {H:Hp}:∀ {v:V} {d:PyData} {L:List Addr},VL H v d L→∀ a∈L,∃ vs,H a=some (.lst vs)∧vs.length≤10000
 | _,_,_,.lst (a:=b) h hn hs,a,ha=>by
  rcases List.mem_cons.mp ha with e | ha
  ·subst e;exact ⟨_,h,hn⟩
  ·exact hs.mem a ha
 | _,_,_,.tup h hn hs,a,ha=>hs.mem a ha
theorem VLs.mem {H:Hp}:∀ {vs:List V} {ds:List PyData} {L:List Addr},VLs H vs ds L→∀ a∈L,∃ vs,H a=some (.lst vs)∧vs.length≤10000
 | _,_,_,.cons h hs,a,ha=>by
  rcases List.mem_append.mp ha with ha | ha
  ·exact h.mem a ha
  ·exact hs.mem a ha
end
mutual
theorem VL.den {K:PySem.W.Frag} {H:Hp}:∀ {v:V} {d:PyData} {L:List Addr},VL H v d L→Den K H v d
 | _,_,_,.int i => .int i
 | _,_,_,.str x h => .str x h
 | _,_,_,.lst h _ hs => .lst (SqL.of h) hs.den
 | _,_,_,.tup h _ hs => .tup (SqT.of h) hs.den
theorem VLs.den {K:PySem.W.Frag} {H:Hp}:∀ {vs:List V} {ds:List PyData} {L:List Addr},VLs H vs ds L→Dens K H vs ds
 | _,_,_,.nil => .nil
 | _,_,_,.cons h hs => .cons h.den hs.den
end
theorem VLs.length {H:Hp}:∀ {vs:List V} {ds:List PyData} {L:List Addr},VLs H vs ds L→vs.length=ds.length
 | _,_,_,.nil=>rfl
 | _,_,_,.cons _ hs=>congrArg (·+1) hs.length
theorem VLs.append {H:Hp} {vs':List V} {ds':List PyData} {L':List Addr}:∀ {vs:List V} {ds:List PyData} {L:List Addr},VLs H vs ds L→VLs H vs' ds' L'→VLs H (vs++vs') (ds++ds') (L++L')
 | _,_,_,.nil,h=>h
 | _,_,_,.cons a b,h=>by rw [List.append_assoc];exact .cons a (b.append h)
theorem VL.one {H:Hp} {v:V} {d:PyData} {L:List Addr} (h:VL H v d L):VLs H [v] [d] L:=by
 have:=VLs.cons h .nil
 rwa [List.append_nil] at this
theorem VLs.take {H:Hp}:∀ {vs:List V} {ds:List PyData} {L:List Addr} (n:Nat),VLs H vs ds L→∃ L',VLs H (vs.take n) (ds.take n) L'∧∀ a∈L',a∈L
 | _,_,_,0,_=>by simp;exact ⟨[],.nil,fun a h=>by cases h⟩
 | _,_,_,n+1,.nil=>by simp;exact ⟨[],.nil,fun a h=>by cases h⟩
 | _,_,_,n+1,.cons a b=>by
  obtain ⟨L',h1,h2⟩:=b.take n
  exact ⟨_,.cons a h1,fun x hx=>by
   rcases List.mem_append.mp hx with h | h
   ·exact List.mem_append_left _ h
   ·exact List.mem_append_right _ (h2 x h)⟩
structure Own (H0 H:Hp) (v:V) (d:PyData) (L:List Addr):Prop where
 vl:VL H v d L
 nd:L.Nodup
 new:∀ a∈L,H0 a=none
structure Owns (H0 H:Hp) (vs:List V) (ds:List PyData) (L:List Addr):Prop where
 vl:VLs H vs ds L
 nd:L.Nodup
 new:∀ a∈L,H0 a=none
theorem Owns.ext {H0 H1 H2:Hp} {vs:List V} {ds:List PyData} {L L':List Addr} {ys:List V} {es:List PyData} {D:Addr} {zs zs':List V} (h:Owns H0 H1 vs ds L) (hD:∀ a∈L,a≠D) (s0:Yc H0 H1) (s:Yc H1 H2) (o:Owns H1 H2 ys es L') (h1:H1 D=some (.lst zs)):Owns H0 (upd H2 D (.lst zs')) (vs++ys) (ds++es) (L++L')∧∀ a∈L++L',a≠D:=by
 have hD':∀ a∈L',a≠D:=fun a ha e=>by have:=o.new a ha;rw [e,h1] at this;cases this
 have t:Tps H2 (upd H2 D (.lst zs')) := .upd_lst (s _ _ h1)
 refine ⟨⟨((h.vl.keep s).keepL t fun a ha vs e=>by rw [Yl (hD a ha)];exact e).append (o.vl.keepL t fun a ha vs e=>by rw [Yl (hD' a ha)];exact e),?_,fun a ha=>?_⟩,fun a ha=>?_⟩
 ·refine List.nodup_append.mpr ⟨h.nd,o.nd,fun a ha b hb e=>?_⟩
  subst e
  obtain ⟨vs,e1,_⟩:=h.vl.mem a ha
  rw [o.new a hb] at e1
  cases e1
 ·rcases List.mem_append.mp ha with ha | ha
  ·exact h.new a ha
  ·exact s0.free (o.new a ha)
 ·rcases List.mem_append.mp ha with ha | ha
  ·exact hD a ha
  ·exact hD' a ha
theorem Own.inv {H0 H:Hp} {D:Addr} {ds:List PyData} {L:List Addr} (h:Own H0 H (.ref D) (.list ds) L):∃ ys L1,L=D::L1∧H D=some (.lst ys)∧ys.length≤10000∧Owns H0 H ys ds L1∧D∉L1∧H0 D=none:=by
 obtain ⟨vl,nd,new⟩:=h
 cases vl with
 | lst h1 h2 h3 =>
  have:=List.nodup_cons.mp nd
  exact ⟨_,_,rfl,h1,h2,⟨h3,this.2,fun a ha=>new a (.tail _ ha)⟩,this.1,new _ (.head _)⟩
section
variable {src:List (Option Nat)} {te:TE} {σ:St} {H:Hp} {Q:VK}
def sel (p:Nat→Bool) (ds:List PyData) (n:Nat):List PyData:=((List.range n).filter p).filterMap (ds[·]?)
end
end L2
namespace L2
open PySem PySem.Spec PyProof.Rows
section
variable {X:Cx} {pos:Pos}
end
end L2
namespace L2
open PySem
section
variable {src:List (Option Nat)} {te:TE} {σ:St} {H:Hp} {Q:VK}
end
end L2
namespace L2
open PySem PySem.Spec PyProof.Rows
section
variable {g:Gx} {k:Nat} {x qual m:Str} {st:Stmt} {N ps:List Str} {sp:Sp} {C:Addr}
end
section
variable {g:Gx} {X:Cx} {k j:Nat} {x m:Str} {ps:List Str} {sp:Sp} {E:XK} {C:Addr} {e o:Expr} {es:List Expr} {t:TA} {ta:TE} {p pos apos:Pos}
end
section
variable {g:Gx} {X:Cx} {k jj j:Nat} {f c n:Str} {ps:List Str} {sp:Sp} {e:Expr} {es:List Expr} {t:TA} {ts:TS} {b₀:Stmt} {suite:List Stmt} {cv:Value} {fp cp hpos apos cpos pos:Pos}
end
end L2
namespace L2
open PySem PySem.Spec PyProof.Rows
def Ycs (l:List Str) (v:Str):List Str:=if l.any (·==v) then l else l++[v]
def met (val:Nat→Str) (i:Nat):List Str:=((List.range i).map val).foldl Ycs []
section
variable {prog:Program} {w:World} {A:Around} {R:Result→Shared→Prop} {I:Addr} {fp wr:List Addr} {G:Array GenState→Array GenState→Prop} {n:Nat} {P:Nat→Value→Prop} {St:Nat→Shared→Prop}
end
end L2
namespace L2
open PySem PySem.Spec PyProof.Rows
def sg (x:Str) (i:Nat):Str:=⟨#[x.cps.getD i 0]⟩
section
variable {prog:Program} {w:World} {A:Around} {E:Value→Shared→Prop} {s:Shared}
end
def SetO (a:Addr) (n:Nat):HO := .ext fun h=>∃ (o:Obj) (es:Array (Int×Value)) (ep:Nat) (t:SetTable),h.get? a=some o∧o.ExactSet∧o.data = .set es ep t∧t.fits es.size=true∧es.size=n∧n<scanBound
section
variable {X:Cx}
end
end L2
namespace L2
open PySem PySem.Spec PyProof.Rows
section
variable {X:Cx}
end
end L2
namespace L2
open PySem PySem.Spec PyProof.Rows
section
variable {X:Cx}
end
end L2
namespace L2
open PySem PySem.Spec PyProof.Rows
section
variable {X:Cx}
end
end L2
namespace L2
open PySem PySem.Spec PyProof.Rows
section
variable {X:Cx} {e lo st:Expr} {te tl ts:TE} {pos p2:Pos}
end
section
variable {g:Gx} {X:Cx} {k j:Nat} {x m:Str} {ps:List Str} {sp:Sp} {e:Expr} {es:List Expr} {t:TA} {p pos apos:Pos}
end
end L2
namespace L2
open PySem PySem.Spec PyProof.Rows
section
variable {X:Cx}
end
section
variable {K:PySem.W.Frag} {h:Heap} {mg:Str→Option Value} {P:Program} {w:World} {base:Heap} {f B:Addr} {x qual m:Str} {st:Stmt} {ps N:List Str} {oc kV dc pm cd ct:Value} {od an:Option Addr} {sl:Array (Option Value)} {g:Gx} {k:Nat} {sp:Sp}
end
end L2
namespace L2
end L2
namespace L2
open PySem PySem.Spec PyProof.Rows
section
variable {g:TG} {tb:TS} {D:Ends} {σ:St} {H:Hp}
end
def V0s (H:Hp) (us:List V) (ds:List PyData):Prop:=us.length=ds.length∧∀ (i:Nat) u d,us[i]?=some u→ds[i]?=some d→VL H u d []
theorem V0s.keep {H H':Hp} {us:List V} {ds:List PyData} (h:V0s H us ds) (t:Tps H H'):V0s H' us ds:=⟨h.1,fun i u d h1 h2=>(h.2 i u d h1 h2).keepL t fun a ha=>absurd ha (by simp)⟩
theorem V0s.nil {H:Hp}:V0s H [] []:=⟨rfl,fun i u d h=>by simp at h⟩
theorem V0s.one {H:Hp} {u:V} {d:PyData} (h:VL H u d []):V0s H [u] [d]:=⟨rfl,fun i x y h1 h2=>by
 cases i with
 | zero =>
  have e1:u=x:=by simpa using h1
  have e2:d=y:=by simpa using h2
  subst e1 e2
  exact h
 | succ i=>simp at h1⟩
theorem V0s.append {H:Hp} {us us':List V} {ds ds':List PyData} (h:V0s H us ds) (h':V0s H us' ds'):V0s H (us++us') (ds++ds'):=by
 refine ⟨by rw [List.length_append,List.length_append,h.1,h'.1],fun i u d h1 h2=>?_⟩
 by_cases hi:i<us.length
 ·rw [List.getElem?_append_left hi] at h1
  rw [List.getElem?_append_left (by rw [← h.1];exact hi)] at h2
  exact h.2 i u d h1 h2
 ·rw [List.getElem?_append_right (by omega)] at h1
  rw [List.getElem?_append_right (by rw [← h.1];omega),← h.1] at h2
  exact h'.2 _ u d h1 h2
theorem V0s.take {H:Hp} {us:List V} {ds:List PyData} (h:V0s H us ds) (n:Nat):V0s H (us.take n) (ds.take n):=by
 refine ⟨by rw [List.length_take,List.length_take,h.1],fun i u d h1 h2=>?_⟩
 rw [List.getElem?_take] at h1 h2
 split at h1
 ·rw [if_pos (by assumption)] at h2;exact h.2 i u d h1 h2
 ·cases h1
theorem V0s.of {H:Hp}:∀ {us:List V} {ds:List PyData} {L:List Addr},VLs H us ds L→L=[]→V0s H us ds
 | _,_,_,.nil,_ => .nil
 | _,_,_,.cons h hs,e=>by
  obtain ⟨e1,e2⟩:=List.append_eq_nil_iff.mp e
  subst e1
  have:=(V0s.of hs e2)
  exact V0s.append (.one h) this
end L2
namespace L2
open PySem
end L2
namespace L2
open PySem
end L2
namespace L2
open PySem PySem.Spec PyProof.Rows
section
variable {X:Cx} {elts:List Expr} {kk:Nat} {tpos:Pos}
end
section
variable {tb:TS} {D:Ends} {σ:St} {H:Hp}
end
end L2
namespace L2
open PySem
end L2
namespace L2
open PySem PySem.Spec PyProof.Rows
abbrev FnO (f:Addr) (fd:FuncData):HO := .ext fun h=>h.get? f=some { cls := .type "function",data := .func fd }
abbrev CdO (c:Addr) (q:Str):HO := .ext fun h=>h.CodeRec (.ref c) q
abbrev YbY (c:Addr) (v:V):HO := .ext fun h=>∃ u,Ys v u∧h.IsCell c (some u)
section
variable {P:Program} {w:World} {H H':Hp} {h h':Heap}
end
def off (H:Hp) (cs:List Addr):Hp:=fun b=>if b∈cs then none else H b
def on (H' H:Hp) (cs:List Addr):Hp:=fun b=>if b∈cs then H b else H' b
section
variable {H H':Hp} {cs:List Addr} {b:Addr} {o:HO}
theorem YcW (h:b∈cs):off H cs b=none:=if_pos h
theorem WY (h:b∉cs):off H cs b=H b:=if_neg h
end
abbrev Xs:=List (Str×Addr×V)
def Xs.In (l:Xs) (H:Hp):Prop:=∀ p∈l,H p.2.1=some (YbY p.2.1 p.2.2)
theorem Xs.In.keep {l:Xs} {H H':Hp} (h:l.In H) (s:Yc H H'):l.In H':=fun p hp=>s _ _ (h p hp)
section
variable {l:Xs} {H:Hp}
end
section
variable {P:Program} {w:World} {K:PySem.W.Frag} {mg:Str→Option Value} {base:Heap} {N ps:List Str} {qual name:Str} {scope:Scope} {f c:Addr} {A:Around} {outer:List Env} {s:Shared} {H:Hp} {us:List Value} {vs:List V} {l:Xs} {cd:Value}
end
def ClIn (H:Hp) (f c:Addr) (fd:FuncData) (qual:Str) (l:Xs):Prop:=H f=some (FnO f fd)∧H c=some (CdO c qual)∧l.In H
theorem ClIn.keep {H H':Hp} {f c:Addr} {fd:FuncData} {qual:Str} {l:Xs} (h:ClIn H f c fd qual l) (s:Yc H H'):ClIn H' f c fd qual l:=⟨s _ _ h.1,s _ _ h.2.1,h.2.2.keep s⟩
end L2
namespace L2
open PySem PySem.Spec PyProof.Rows
section
variable {X:Cx} {pins:List (Addr×Obj)} {σ:St} {H:Hp} {s:Shared}
end
section
variable {X:Cx} {c P:Addr} {name qual:Str} {params:Arguments} {body:List Stmt} {eb:Expr} {scope:Scope} {clos:List (Str×Addr)} {pos:Pos} {ln:Nat}
end
section
variable {X:Cx} {st:Stmt} {YW:List Stmt} {t:TS} {u:(St→V→Hp→Prop)→St→Hp→Prop} {e:Expr} {te:TE} {pos:Pos}
end
end L2
namespace L2
open PySem PySem.Spec PyProof.Rows
section
variable {X:Cx} {g:Gx} {k j i:Nat} {x:Str} {p pos:Pos} {e:Expr} {es:List Expr} {t:TA}
end
end L2
namespace HT
open PySem PySem.Spec PyProof.Rows
variable {prog:Program} {w:World} {A:Around} {E:Value→Shared→Prop} {s:Shared}
end HT
namespace L2
open PySem PySem.Spec PyProof.Rows
end L2
namespace L2
open PySem PySem.Spec PyProof.Rows
section
variable {tb:TS} {D:Ends} {σ:St} {H:Hp}
end
section
variable {src:List (Option Nat)} {te:TE} {tt:TT} {σ:St} {H:Hp} {Q:VK}
end
end L2
namespace L2
open PySem PySem.Spec PyProof.Rows
end L2
namespace L2
open PySem PySem.Spec PyProof.Rows
section
variable {g:Gx} {x qual:Str} {st:Stmt} {N ps:List Str} {dvs:List V} {sp:Sp} {j k:Nat}
variable {X:Cx} {p pos:Pos} {e:Expr} {es:List Expr} {t:TA}
end
section
variable {X:Cx}
end
section
variable {src:List (Option Nat)} {te:TE} {σ:St} {H:Hp} {Q:VK}
end
end L2
namespace L2
open PySem PySem.Spec PyProof.Rows
mutual
inductive RK (h:Heap):Value→PyData→Prop
 | int (i:Int) (t:Tok):RK h (.int i t) (.int i)
 | str (x:Str) (t:Tok) (hx:PyData.strOk x=true):RK h (.str x t) (.str x)
 | tup {a:Addr} {o:Obj} {vs:Array Value} {n:Nat} {ds:List PyData}:h.get? a=some o→o.cls = .type "tuple"→o.data = .seq vs n→RKs h vs.toList ds→RK h (.ref a) (.tuple ds)
inductive RKs (h:Heap):List Value→List PyData→Prop
 | nil:RKs h [] []
 | cons {v:Value} {d:PyData} {vs:List Value} {ds:List PyData}:RK h v d→RKs h vs ds→RKs h (v::vs) (d::ds)
end
mutual
inductive KO:PyData→Prop
 | int (i:Int):KO (.int i)
 | str (x:Str):KO (.str x)
 | tup {ds:List PyData}:KOs ds→KO (.tuple ds)
inductive KOs:List PyData→Prop
 | nil:KOs []
 | cons {d:PyData} {ds:List PyData}:KO d→KOs ds→KOs (d::ds)
end
mutual
theorem RK.ko {h:Heap}:∀ {v:Value} {d:PyData},RK h v d→KO d
 | _,_,.int i t => .int i
 | _,_,.str x t _ => .str x
 | _,_,.tup _ _ _ hs => .tup hs.ko
theorem RKs.ko {h:Heap}:∀ {vs:List Value} {ds:List PyData},RKs h vs ds→KOs ds
 | _,_,.nil => .nil
 | _,_,.cons a b => .cons a.ko b.ko
end
mutual
theorem RK.reads {h:Heap}:∀ {v:Value} {d:PyData},RK h v d→(∃ as,Reads h v d as)∧d.canLay0=true
 | _,_,.int i t=>⟨⟨_,.int i t⟩,rfl⟩
 | _,_,.str x t hx=>⟨⟨_,.str x t⟩,by simpa [PyData.canLay0] using hx⟩
 | _,_,.tup h1 h2 h3 hs=>by
  obtain ⟨⟨as,r⟩,l⟩:=hs.reads
  exact ⟨⟨_,.tuple h1 h2 h3 r⟩,by rw [PyData.canLay0];exact l⟩
theorem RKs.reads {h:Heap}:∀ {vs:List Value} {ds:List PyData},RKs h vs ds→(∃ as,ReadsAll h vs ds as)∧PyData.canLayAll0 ds=true
 | _,_,.nil=>⟨⟨_,.nil⟩,rfl⟩
 | _,_,.cons a b=>by
  obtain ⟨⟨as,r⟩,l⟩:=a.reads
  obtain ⟨⟨bs,r'⟩,l'⟩:=b.reads
  exact ⟨⟨_,.cons r r'⟩,by rw [PyData.canLayAll0,l,l'];rfl⟩
end
theorem RK.of {h:Heap} {d:PyData} {v:Value} {as:List Addr} (k:KO d) (r:Reads h v d as) (l:d.canLay0=true):RK h v d:=by
 induction k using KO.rec (motive_2:=fun ds _=>∀ {vs:List Value} {as:List Addr},ReadsAll h vs ds as→PyData.canLayAll0 ds=true→RKs h vs ds) generalizing v as with
 | int i=>cases r with | int _ t=>exact .int i t
 | str x=>cases r with | str _ t=>exact .str x t (by simpa [PyData.canLay0] using l)
 | tup _ ih=>cases r with | tuple h1 h2 h3 hs=>exact .tup h1 h2 h3 (ih hs (by rw [PyData.canLay0] at l;exact l))
 | nil=>rename_i r l;cases r;exact .nil
 | cons _ _ ih ihs =>
  rename_i r l
  rw [PyData.canLayAll0,Bool.and_eq_true] at l
  cases r with | cons r rs=>exact .cons (ih r l.1) (ihs rs l.2)
theorem RK.inj {h:Heap} {d:PyData} {v:Value} {e:PyData} (a:RK h v d) (b:RK h v e):d=e:=by
 obtain ⟨⟨_,r⟩,l⟩:=a.reads
 obtain ⟨⟨_,r'⟩,_⟩:=b.reads
 exact (r.unique _ _ r').1
mutual
theorem RK.keeps {h h':Heap} {x:Addr} {o:Obj} {es:Array DictEntry} {ep:Nat} (ho:h.get? x=some o) (hd:o.data = .dict es ep) (hs:Heap.SameBut x h h'):∀ {v:Value} {d:PyData},RK h v d→RK h' v d
 | _,_,.int i t => .int i t
 | _,_,.str y t hy => .str y t hy
 | _,_,.tup (a:=a) h1 h2 h3 ks=>by
  have hne:a≠x:=by
   rintro rfl
   rw [ho] at h1
   cases h1
   rw [hd] at h3
   exact nomatch h3
  exact .tup ((hs.2 a hne).trans h1) h2 h3 (RKs.keeps ho hd hs ks)
theorem RKs.keeps {h h':Heap} {x:Addr} {o:Obj} {es:Array DictEntry} {ep:Nat} (ho:h.get? x=some o) (hd:o.data = .dict es ep) (hs:Heap.SameBut x h h'):∀ {vs:List Value} {ds:List PyData},RKs h vs ds→RKs h' vs ds
 | _,_,.nil => .nil
 | _,_,.cons a b => .cons (RK.keeps ho hd hs a) (RKs.keeps ho hd hs b)
end
noncomputable instance decPy:DecidableEq PyData:=fun a b=>Classical.propDecidable (a=b)
mutual
theorem KO.eqv:∀ {d e:PyData},KO d→KO e→d.eqv e=decide (d=e)
 | .int a,.int b,_,_=>by
  by_cases h:a=b
  ·subst h;simp [PyData.eqv]
  ·simp [PyData.eqv,h]
 | .str a,.str b,_,_=>by
  by_cases h:a=b
  ·subst h;simp [PyData.eqv]
  ·simp [PyData.eqv,h]
 | .int a,.str b,_,_=>by simp [PyData.eqv]
 | .str a,.int b,_,_=>by simp [PyData.eqv]
 | .int a,.tuple b,_,_=>by simp [PyData.eqv]
 | .str a,.tuple b,_,_=>by simp [PyData.eqv]
 | .tuple a,.int b,_,_=>by simp [PyData.eqv]
 | .tuple a,.str b,_,_=>by simp [PyData.eqv]
 | .tuple a,.tuple b,.tup x,.tup y=>by
  rw [PyData.eqv,KOs.eqv x y]
  by_cases h:a=b
  ·subst h;simp
  ·simp [h]
theorem KOs.eqv:∀ {ds es:List PyData},KOs ds→KOs es→PyData.eqvAll ds es=decide (ds=es)
 | [],[],_,_=>by simp [PyData.eqvAll]
 | [],_::_,_,_=>by simp [PyData.eqvAll]
 | _::_,[],_,_=>by simp [PyData.eqvAll]
 | d::ds,e::es,.cons x xs,.cons y ys=>by
  rw [PyData.eqvAll,KO.eqv x y,KOs.eqv xs ys]
  by_cases h:d=e
  ·subst h
   by_cases h2:ds=es
   ·subst h2;simp
   ·simp [h2]
  ·simp [h]
end
section
variable {P:Program} {w:World}
mutual
def kh (P:Program) (w:World):PyData→Int
 | .int i=>(Xl P w).hash (.inl i)
 | .str x=>(Xl P w).hash (.inr x)
 | .tuple ds=>reduceHash (Builtin.Tuple.tupleHashOf (khs P w ds))
 | _=>0
def khs (P:Program) (w:World):List PyData→List Int
 | []=>[]
 | d::ds=>kh P w d::khs P w ds
end
mutual
def kdr:PyData→Nat
 | .int _=>1
 | .str _=>1
 | .tuple ds=>XH ds+1
 | _=>0
def XH:List PyData→Nat
 | []=>0
 | d::ds=>kdr d+XH ds
end
theorem Yct (a b:List PyData):khs P w (a++b)=khs P w a++khs P w b:=by
 induction a with
 | nil=>simp [khs]
 | cons x a ih=>simp [khs,ih]
theorem Ybx (a b:List PyData):XH (a++b)=XH a+XH b:=by
 induction a with
 | nil=>simp [XH]
 | cons x a ih=>simp [XH,ih,Nat.add_assoc]
theorem Yby (a b:List PyData):PyData.depthAll (a++b)=max (PyData.depthAll a) (PyData.depthAll b):=by
 induction a with
 | nil=>simp [PyData.depthAll]
 | cons x a ih=>simp [PyData.depthAll,ih,Nat.max_assoc]
theorem Vq {s:Shared} {a:Addr} {o:Obj} (h1:s.heap.get? a=some o) (h2:o.cls = .type "tuple"):s.TypeIs (.ref a) "tuple":=⟨o,h1,h2⟩
theorem QI:∀ (n:Nat) {A:Around} {E:Value→Shared→Prop} {s:Shared} {v:Value} {d:PyData} {Q:Int→Shared→Prop},RK s.heap v d→d.depth≤n→A.units+n<cLine→Q (kh P w d) { s with toks:=s.toks+kdr d }→wpAny (model P w) A (pyHash v) Q E s
 | n,A,E,s,_,_,Q,.int i t,_,_,h=>(Xl P w).pyHash (YbS (k := .inl i) (show Ys (.int i) (.int i t) from ⟨t,rfl⟩)) (by simpa [kh,kdr] using h)
 | n,A,E,s,_,_,Q,.str x t _,_,_,h=>(Xl P w).pyHash (YbS (k := .inr x) (show Ys (.str x) (.str x t) from ⟨t,rfl⟩)) (by simpa [kh,kdr] using h)
 | 0,A,E,s,_,_,Q,.tup _ _ _ _,hd,_,h=>by simp [PyData.depth] at hd
 | n+1,A,E,s,_,_,Q,.tup (a:=a) (ds:=ds) h1 h2 h3 ks,hd,hu,h=>by
  have hT:=Vq h1 h2
  unfold pyHash
  first | unfold pyHashByItsType | skip
  first | refine wpAny_bind (wpAny_cRoomFor_or (.inr (by omega)) ?_) | skip
  refine wpAny_bind (wpAny_specialOf hT F.slot_tuple_hash.lookup ?_)
  show wpAny _ _ (if (some (Value.builtin "tuple.__hash__")==some Value.none)=true then _ else _) Q E s
  rw [if_neg (by rw [beq_builtin_none];exact Bool.false_ne_true)]
  refine wpAny_bind (wpAny_specialOf hT F.slot_tuple_hash.lookup ?_)
  refine wpAny_bind (wpAny_callSpecialIfBoundUnlessNone?_slot hT F.slot_tuple_hash (wpAny_call_entry F.slot_tuple_hash hT F.entry_tuple_hash ?_ (F.args_tuple_hash_1 _)))
  show wpAny _ _ (Builtin.Tuple.tupleItemsOf (.ref a) >>= _) _ _ s
  refine wpAny_bind (wpAny_tupleItemsOf h1 h3 ?_)
  refine wpAny_bind ?_
  rw [← Array.forIn_toList]
  have hdd:PyData.depthAll ds≤n:=by simp only [PyData.depth] at hd;omega
  refine wpAny_forIn_list _ (fun YW (b:Array Int) s'=>∃ done left,ds=done++left∧RKs s.heap YW left∧b.toList=khs P w done∧s'={ s with toks:=s.toks+XH done }) _ ?_ ?_ _ _ ⟨[],ds,rfl,ks,by simp [khs],by simp [XH]⟩
  ·rintro x YW b s' ⟨done,left,e,hl,hb,rfl⟩
   cases hl with
   | @cons _ d _ ds' hk hl' =>
    have hdk:d.depth≤n:=by
     rw [e,Yby] at hdd
     simp only [PyData.depthAll] at hdd
     omega
    have hin:A.in1.units+n<cLine:=by
     have:A.in1.units=A.units+1:=rfl
     omega
    refine wpAny_bind (QI n (s:={ s with toks:=s.toks+XH done }) hk hdk hin ?_)
    have fin:∃ done' left',ds=done'++left'∧RKs s.heap YW left'∧(b.push (kh P w d)).toList=khs P w done'∧({ s with toks:=s.toks+XH done+kdr d }:Shared)={ s with toks:=s.toks+XH done' } :=
     ⟨done++[d],ds',by rw [e];simp,hl',by rw [Yct,Array.toList_push,hb];simp [khs],by rw [Ybx];simp [XH,Nat.add_assoc]⟩
    first
     | exact wpAny_pure fin
     | exact wpAny_bind (wpAny_pure (wpAny_pure fin))
  ·rintro b s' ⟨done,left,e,hl,hb,rfl⟩
   cases hl
   rw [List.append_nil] at e
   subst e
   show wpAny _ _ (retInt (Builtin.Tuple.tupleHashOf b.toList)) _ _ _
   rw [hb]
   refine wpAny_ret_mkInt ?_
   simp only [kh,kdr] at h
   unfold reduceHash at h
   show wpAny _ _ (if (decide (-(2:Int)^63≤Builtin.Tuple.tupleHashOf (khs P w ds))&&decide (Builtin.Tuple.tupleHashOf (khs P w ds)<2^63))=true then _ else _) Q E _
   by_cases hr:(decide (-(2:Int)^63≤Builtin.Tuple.tupleHashOf (khs P w ds))&&decide (Builtin.Tuple.tupleHashOf (khs P w ds)<2^63))=true
   ·rw [if_pos hr]
    rw [if_pos hr] at h
    exact wpAny_pure (by simpa [Nat.add_assoc] using h)
   ·rw [if_neg hr]
    rw [if_neg hr] at h
    exact wpAny_bind (wpAny_rule (wpAny_pure (by simpa [Nat.add_assoc] using h)))
theorem UR:∀ (n:Nat) {A:Around} {E:Value→Shared→Prop} {s:Shared} {v:Value} {d:PyData} {Q:Bool→Shared→Prop},RK s.heap v d→d.depth≤n→Q true s→wpAny (model P w) A (eqIsQuiet n v) Q E s
 | n,A,E,s,_,_,Q,.int i t,_,h=>by rw [eqIsQuiet_byValue _ (by rfl)];exact wpAny_pure h
 | n,A,E,s,_,_,Q,.str x t _,_,h=>by rw [eqIsQuiet_byValue _ (by rfl)];exact wpAny_pure h
 | 0,A,E,s,_,_,Q,.tup _ _ _ _,hd,h=>by simp [PyData.depth] at hd
 | n+1,A,E,s,_,_,Q,.tup (a:=a) (ds:=ds) h1 h2 h3 ks,hd,h=>by
  have hT:=Vq h1 h2
  have hdd:PyData.depthAll ds≤n:=by simp only [PyData.depth] at hd;omega
  unfold eqIsQuiet
  refine wpAny_bind (wpAny_specialOf hT F.slot_tuple_eq.lookup ?_)
  refine wpAny_bind (wpAny_isInstance hT isSubtype_tuple_tuple ?_)
  simp only [Bool.not_true,Bool.false_eq_true,if_false]
  refine wpAny_bind (wpAny_seqItems h1 h3 ?_)
  refine wpAny_bind ?_
  rw [Option.getD_some,← Array.forIn_toList]
  refine wpAny_forIn_list _ (fun YW r s'=>r.1=none∧s'=s∧∃ left,RKs s.heap YW left∧PyData.depthAll left≤n) _ ?_ ?_ _ _ ⟨rfl,rfl,ds,ks,hdd⟩
  ·rintro v YW r s' ⟨hr,rfl,left,hl,hdl⟩
   cases hl with
   | @cons _ d _ ds' hk hl' =>
    simp only [PyData.depthAll] at hdl
    refine wpAny_bind (UR n hk (by omega) ?_)
    simp only [Bool.not_true,Bool.false_eq_true,if_false]
    exact wpAny_pure ⟨rfl,rfl,ds',hl',by omega⟩
  ·rintro ⟨r1,r2⟩ s' ⟨hr,rfl,_⟩
   simp only at hr
   subst hr
   exact wpAny_pure h
noncomputable def deepKind (P:Program) (w:World):HeapKind P w PyData where
 is:=fun h d a=>RK h (.ref a) d∧d.depth≤8
 hash:=kh P w
 draws:=kdr
 room:=fun A=>A.units+8<cLine
 inj:=fun hx hy=>hx.1.inj hy.1
 keeps:=fun x ho hd hs=>⟨x.1.keeps ho hd hs,x.2⟩
 pyHash:=fun hu hk h=>QI 8 hk.1 hk.2 hu h
 eqBool:=fun {A E s x y a b Q} hu hx hy h=>by
  obtain ⟨⟨as,r1⟩,l1⟩:=hx.1.reads
  obtain ⟨⟨bs,r2⟩,l2⟩:=hy.1.reads
  have hm:min x.depth y.depth≤8:=Nat.le_trans (Nat.min_le_left _ _) hx.2
  exact SeqAt.eqAt_reads x y A s _ _ _ _ r1 r2 l1 l2 (by omega) P w E Q (by rw [KO.eqv hx.1.ko hy.1.ko];exact h)
 quiet:=fun hk h=>UR 8 hk.1 hk.2 h
end
abbrev Dx:=List (PyData×Addr×Addr)
def dconv (x:PyData×Addr×Addr):PyData×Addr×Value:=(x.1,x.2.1,.ref x.2.2)
noncomputable def DDi (P:Program) (w:World) (a:Addr) (xs:Dx):HO := .ext fun h=>(a==sysModules)=false∧∃ o es ep,h.get? a=some o∧o.ExactDict∧o.data = .dict es ep∧es.toList=(xs.map dconv).map (entryOfKey (deepKind P w))
structure DK (K:PySem.W.Frag) (H:Hp) (b:Addr) (d:PyData):Prop where
 den:Den K H (.ref b) d
 ko:KO d
 dp:d.depth≤8
theorem DK.keep {K:PySem.W.Frag} {H H':Hp} {b:Addr} {d:PyData} (h:DK K H b d) (s:Yc H H'):DK K H' b d:=⟨h.den.keep s,h.ko,h.dp⟩
noncomputable def lookD (xs:Dx) (d:PyData):Option Addr:=(xs.find? fun x=>decide (x.1=d)).map (·.2.2)
structure DictD (P:Program) (w:World) (K:PySem.W.Frag) (H:Hp) (a:Addr) (xs:Dx):Prop where
 at_:H a=some (DDi P w a xs)
 nd:(xs.map (·.1)).Nodup
 len:xs.length≤1000
 keys:∀ x∈xs,DK K H x.2.1 x.1
section
variable {X:Cx} {pins:List (Addr×Obj)} {σ:St} {H:Hp} {s:Shared} {a b:Addr} {d:PyData} {xs:Dx} {u r:Value} {A:Around} {E:Value→Shared→Prop}
end
section
variable {X:Cx} {o i e value:Expr} {pos pos' tpos:Pos} {td ty tv:TE} {k:Nat}
end
def WC (H H':Hp):Prop:=∀ b xs,Rd H b (.tup xs)→Rd H' b (.tup xs)
theorem WC.sq {K:PySem.W.Frag} {H H':Hp} (t:WC H H') {b:Addr} {xs:List V} (h:SqT K H b xs):SqT K H' b xs:=by
 rcases h with h | h
 ·exact .inl (t _ _ h)
 ·exact .inr h
theorem WC.trans {H H1 H2:Hp} (a:WC H H1) (b:WC H1 H2):WC H H2:=fun c xs e=>b c xs (a c xs e)
theorem Ybz {K:PySem.W.Frag} {H H':Hp} (t:WC H H') {d:PyData} {v:V} (k:KO d) (r:Den K H v d):Den K H' v d:=by
 induction k using KO.rec (motive_2:=fun ds _=>∀ {vs:List V},Dens K H vs ds→Dens K H' vs ds) generalizing v with
 | int i=>cases r with | int _=>exact .int i
 | str x=>cases r with | str _ h=>exact .str x h
 | tup _ ih=>cases r with | tup h hs=>exact .tup (t.sq h) (ih hs)
 | nil=>rename_i r;cases r;exact .nil
 | cons _ _ ih ihs=>rename_i r;cases r with | cons a b=>exact .cons (ih a) (ihs b)
theorem DK.tupk {K:PySem.W.Frag} {H H':Hp} {b:Addr} {d:PyData} (h:DK K H b d) (t:WC H H'):DK K H' b d:=⟨Ybz t h.ko h.den,h.ko,h.dp⟩
theorem DictD.keep {P:Program} {w:World} {K:PySem.W.Frag} {H H':Hp} {a:Addr} {xs:Dx} (h:DictD P w K H a xs) (t:WC H H') (e:H' a=some (DDi P w a xs)):DictD P w K H' a xs:=⟨e,h.nd,h.len,fun x hx=>(h.keys x hx).tupk t⟩
section
variable {X:Cx} {k:Nat}
end
section
variable {X:Cx} {e:Expr} {f:Str} {pos:Pos} {ta:TE}
end
end L2
namespace L2
open PySem PySem.Spec PyProof.Rows
end L2
namespace L2
open PySem PySem.Spec PyProof.Rows
end L2
namespace L2
open PySem PySem.Spec PyProof.Rows
section
variable {M:Model} {A:Around} {E:Value→Shared→Prop} {s:Shared}
end
section
variable {X:Cx}
end
section
variable {X:Cx}
end
end L2
namespace L2
open PySem PySem.Spec PyProof.Rows
section
variable {M:Model} {A:Around} {E:Value→Shared→Prop} {s:Shared} {B:Heap} {env:Env} {outer l:List Env} {e L:Addr} {cls a0:Value} {Q:Unit→Shared→Prop}
end
section
variable {X:Cx} {pins:List (Addr×Obj)} {σ:St} {H H':Hp} {s s1 s':Shared} {B:Heap} {e C:Addr} {cls a0:Value} {M:Model} {A:Around} {Q:Unit→Shared→Prop} {EE:Value→Shared→Prop}
end
section
variable {prog:Program} {w:World} {A:Around} {R:Result→Shared→Prop} {s:Shared}
end
section
variable {X:Cx}
end
end L2
namespace L2
open PySem PySem.Spec PyProof.Rows
section
variable {prog:Program} {w:World} {A:Around} {E:Value→Shared→Prop} {s:Shared}
end
section
variable {X:Cx}
end
end L2
namespace L2
open PySem PySem.Spec PyProof.Rows
open Sem (wp)
section
variable {prog:Program} {w:World} {A:Around} {R:Result→Shared→Prop} {I:Addr} {fp wr:List Addr} {n:Nat} {P:Nat→Value→Prop} {St:Nat→Heap→Prop}
end
section
variable {prog:Program} {w:World} {A:Around} {E:Value→Shared→Prop} {s:Shared} {l:Addr} {xs:Array (Int×Tok)}
end
section
variable {X:Cx}
end
section
variable {X:Cx}
end
end L2
namespace L2
open PySem PySem.Spec PyProof.Rows PySem.Builtin.Str
section
variable {X:Cx}
end
end L2
namespace L2
open PySem PySem.Spec PyProof.Rows
section
variable {X:Cx}
end
end L2
namespace PySem.W
open PySem PyProof.Rows
open Builtin Builtin.ObjectAttr
section
variable {prog:Program} {w:World} {A:Around} {E:Value→Shared→Prop} {hh:Heap} {g:Array GenState} {d:Drawn} {t:Nat} {os:OsState} {K:Frag} {x C D:Addr} {ox:Obj} {mA:Str→Option Value} {f:Str} {v:Value}
end
section
variable {prog:Program} {w:World} {A:Around} {E:Value→Shared→Prop} {s:Shared} {K:Frag} {x C C' D:Addr} {ox:Obj} {od:Option Obj} {mA:Str→Option Value} {name:Str} {v:Value} {R:Result→Shared→Prop}
end
section
variable {prog:Program} {w:World} {A:Around} {E:Value→Shared→Prop} {s:Shared} {K:Frag} {x C C' D:Addr} {ox:Obj} {od:Option Obj} {mA:Str→Option Value} {name:Str} {v:Value} {vs:Array Value} {Q:Unit→Shared→Prop}
end
end PySem.W
namespace PySem.W
open PySem PyProof.Rows
def excOwn (K:Frag) (C:Addr) (tl:List Value) (nw:String) (f:Addr):Bool:=match K.lookup C with
 | some ⟨.type "type",_,.cls cd,sl⟩=>(match cd.mro,sl.toList with
  | .ref c::bm,[_,_,_,_,some (.builtin n),_]=>(c==C&&n==nw)&&((!cd.hasDel&&tailIn K tl bm)&&(nsOkIn K cd.ns&&nsIn K cd.ns "__init__"==some (some (.ref f))))
  | _,_=>false)
 | _=>false
abbrev excFs (a0:Value):Array Value:=#[a0,.none,.none,.none,.bool false,.none]
section
variable {prog:Program} {w:World} {A:Around} {E:Value→Shared→Prop} {h:Heap} {g:Array GenState} {d:Drawn} {t:Nat} {os:OsState}
variable {nm q:Str} {C N:Addr} {bs bm bmB:List Value} {hdct:Bool} {sn:List Str} {sub:List Value} {ab:Bool} {col:Option Bool} {dd:Option Addr} {k0 k1 k2 k3 k5:Option Value} {B newId initId:String}
end
section
variable {M:Model} {A:Around} {E:Value→Shared→Prop} {env:Env}
variable {nm q:Str} {C N:Addr} {bs bm bmB:List Value} {hdct:Bool} {sn:List Str} {sub:List Value} {ab:Bool} {col:Option Bool} {dd:Option Addr} {k0 k1 k2 k3 k5:Option Value} {B newId initId:String}
end
section
variable {prog:Program} {w:World} {A:Around} {E:Value→Shared→Prop} {s:Shared} {env:Env}
variable {nm q:Str} {C N:Addr} {bs bm bmB:List Value} {hdct:Bool} {sn:List Str} {sub:List Value} {ab:Bool} {col:Option Bool} {dd:Option Addr} {k0 k1 k2 k3 k5:Option Value} {B newId initId:String}
end
end PySem.W
namespace L2
open PySem PySem.Spec PyProof.Rows
open PySem.W (excFs)
def del (H:Hp) (a:Addr):Hp:=fun b=>if b=a then none else H b
section
variable {P:Program} {w:World} {H:Hp} {h:Heap} {a t0:Addr} {cls:Value} {dc:Option Addr} {sl:Array (Option Value)}
end
section
variable {X:Cx} {pins:List (Addr×Obj)} {σ:St} {H:Hp} {s:Shared} {e:Addr} {cls:Value} {M:Model} {A:Around} {Q:Unit→Shared→Prop} {EE:Value→Shared→Prop} {dc:Option Addr}
end
section
variable {g:Gx} {N:List Str} {qual:Str} {st:Stmt} {f:Addr} {cdv:Value} {A:Around} {outer:List Env} {s:Shared} {H:Hp} {E:XK}
end
structure MkX (K:PySem.W.Frag) (C f:Addr):Prop where
 own:PySem.W.excOwn K C YaR "ValueError.__new__" f=true
 fn:PySem.W.isFn K (.ref f)=true
section
variable {X:Cx} {pins:List (Addr×Obj)} {σ:St} {H:Hp} {s:Shared} {C f:Addr} {k:Nat} {fd:FuncData} {ps:List Str} {sp:Sp} {ds:List Value} {dvs:List V} {E:XK} {CX:CXT}
end
section
variable {P:Program} {w:World} {H:Hp} {h:Heap} {a:Addr} {fs:List (Str×V)} {mA:Str→Option Value}
end
section
variable {X:Cx} {pins:List (Addr×Obj)} {σ:St} {H:Hp} {s:Shared} {C C' a d:Addr} {f:Str} {y:V} {u:Value} {Q:Unit→Shared→Prop} {A:Around} {E:Value→Shared→Prop} {fs:List (Str×V)}
end
def Gx.RawX (g:Gx) (x:Str) (C:Addr) (qual:Str) (st:Stmt) (ps:List Str):Prop:=∃ f fd,Fun g.K "__init__" qual st f fd∧XN g.K fd ps []∧MkX g.K C f∧g.mg x=some (.ref C)
theorem Gx.RawX.own {g:Gx} {x qual:Str} {C:Addr} {st:Stmt} {ps:List Str} (R:g.RawX x C qual st ps):∃ f,PySem.W.excOwn g.K C YaR "ValueError.__new__" f=true:=by
 obtain ⟨f,_,_,_,M,_⟩:=R
 exact ⟨f,M.own⟩
section
variable {g:Gx} {X:Cx} {k j:Nat} {x m f:Str} {ps:List Str} {sp:Sp} {e o value:Expr} {es:List Expr} {t:TA} {ta tv:TE} {p pos apos pos' np cpos:Pos} {C C' B:Addr} {E:XK} {fs:List Str}
end
end L2
namespace L2
open PySem PySem.Spec PyProof.Rows
section
variable {X:Cx} {k:Nat}
end
end L2
namespace L2
open PySem PySem.Spec PyProof.Rows
structure Lent (H Hz:Hp) (h:Heap) (cs:List Addr):Prop where
 one:∀ b∈cs,∃ o u,Hz b=some (.frz o u)∧h.get? b=some o∧H b=none
 oth:∀ b,b∉cs→Hz b=H b
section
variable {P:Program} {w:World} {H Hz H':Hp} {h h' B:Heap} {cs fs:List Addr}
theorem Lent.out (L:Lent H Hz h cs) {b:Addr} {o:HO} (e:H b=some o):b∉cs:=fun z=>by
 obtain ⟨_,_,_,_,n⟩:=L.one b z
 rw [n] at e
 cases e
theorem Lent.get (L:Lent H Hz h cs) {b:Addr} {o:HO} (e:H b=some o):Hz b=some o:=by rw [L.oth b (L.out e)];exact e
theorem Lent.un (L:Lent H Hz h cs) (u:Un fs [] Hz H' h h') (hok:HOk P w H' h') (nf:∀ b∈cs,b∉fs):Un fs [] H (off H' cs) h h':=by
 have z:∀ {b:Addr} {o:HO},H b=some o→b∉cs:=fun e=>L.out e
 refine ⟨fun b o e n hf hx=>?_,fun b o e n hf hx=>?_,fun b o e n hx=>?_,u.there,fun b xs e=>?_,fun b o x e=>?_,fun b ps e=>?_⟩
 ·by_cases hb:b∈cs
  ·obtain ⟨o1,u1,y1,y2,_⟩:=L.one b hb
   rw [e] at y2
   cases y2
   exact (hok b _ (u.frzs b _ _ y1)).1
  ·exact u.keep b o e ((L.oth b hb).trans n) hf hx
 ·exact u.slot b o e ((L.oth b fun hb=>nf b hb hf).trans n) hf hx
 ·by_cases hb:b∈cs
  ·exact YcW hb
  ·rw [WY hb]
   exact u.free b o e ((L.oth b hb).trans n) hx
 ·rw [WY (z e)]
  exact u.tups b xs (L.get e)
 ·rw [WY (z e)]
  exact u.frzs b o x (L.get e)
 ·rw [WY (z e)]
  exact u.tbls b ps (L.get e)
end
section
variable {X:Cx} {pins:List (Addr×Obj)} {σ:St} {H:Hp} {s:Shared}
end
section
variable {X:Cx} {CX:CXT} {k:Nat} {f:Addr} {fd:FuncData} {ps:List Str} {sp:Sp} {E:XK} {pins:List (Addr×Obj)} {σ:St} {H:Hp} {s:Shared} {Q:VK} {us:List Value} {vs:List V} {l:Xs}
end
def Xs.Z (l:Xs) (H:Hp):Prop:=∀ p∈l,∃ o,H p.2.1=some (.frz o (YbY p.2.1 p.2.2))
theorem Xs.Z.keep {l:Xs} {H H':Hp} (h:l.Z H) (s:Yc H H'):l.Z H':=fun p hp=>by
 obtain ⟨o,z⟩:=h p hp
 exact ⟨o,s _ _ z⟩
def ClZ (H:Hp) (f c:Addr) (fd:FuncData) (qual:Str) (l:Xs):Prop:=H f=some (FnO f fd)∧H c=some (CdO c qual)∧l.Z H
theorem ClZ.keep {H H':Hp} {f c:Addr} {fd:FuncData} {qual:Str} {l:Xs} (h:ClZ H f c fd qual l) (s:Yc H H'):ClZ H' f c fd qual l:=⟨s _ _ h.1,s _ _ h.2.1,h.2.2.keep s⟩
section
variable {P:Program} {w:World} {K:PySem.W.Frag} {mg:Str→Option Value} {base:Heap} {N ps:List Str} {qual:Str} {scope:Scope} {f c:Addr} {A:Around} {outer:List Env} {s:Shared} {H:Hp} {l:Xs} {cd:Value}
end
end L2
namespace L2
open PySem
mutual
inductive DL (H:Hp):V→PyData→List Addr→Prop
 | non:DL H .non .none []
 | bl (b:Bool):DL H (.bl b) (.bool b) []
 | int (i:Int):DL H (.int i) (.int i) []
 | str (x:Str) (h:PyData.strOk x=true):DL H (.str x) (.str x) []
 | lst {a:Addr} {vs:List V} {ds:List PyData} {L:List Addr}:H a=some (.lst vs)→vs.length≤10000→DLs H vs ds L→DL H (.ref a) (.list ds) (a::L)
 | tup {a:Addr} {vs:List V} {ds:List PyData} {L:List Addr}:H a=some (.tup vs)→vs.length≤10000→DLs H vs ds L→DL H (.ref a) (.tuple ds) L
inductive DLs (H:Hp):List V→List PyData→List Addr→Prop
 | nil:DLs H [] [] []
 | cons {v:V} {d:PyData} {L:List Addr} {vs:List V} {ds:List PyData} {L':List Addr}:DL H v d L→DLs H vs ds L'→DLs H (v::vs) (d::ds) (L++L')
end
mutual
theorem DL.keepL {H H':Hp} (t:Tps H H'):∀ {v:V} {d:PyData} {L:List Addr},DL H v d L→(∀ a∈L,∀ vs,H a=some (.lst vs)→H' a=some (.lst vs))→DL H' v d L
 | _,_,_,.non,_ => .non
 | _,_,_,.bl b,_ => .bl b
 | _,_,_,.int i,_ => .int i
 | _,_,_,.str x h,_ => .str x h
 | _,_,_,.lst h hn hs,e => .lst (e _ (.head _) _ h) hn (hs.keepL t fun a ha=>e a (.tail _ ha))
 | _,_,_,.tup h hn hs,e => .tup (t _ _ h) hn (hs.keepL t e)
theorem DLs.keepL {H H':Hp} (t:Tps H H'):∀ {vs:List V} {ds:List PyData} {L:List Addr},DLs H vs ds L→(∀ a∈L,∀ vs,H a=some (.lst vs)→H' a=some (.lst vs))→DLs H' vs ds L
 | _,_,_,.nil,_ => .nil
 | _,_,_,.cons h hs,e => .cons (h.keepL t fun a ha=>e a (List.mem_append_left _ ha)) (hs.keepL t fun a ha=>e a (List.mem_append_right _ ha))
end
theorem DL.keep {H H':Hp} {v:V} {d:PyData} {L:List Addr} (h:DL H v d L) (s:Yc H H'):DL H' v d L:=h.keepL s.tps fun a _ vs e=>s _ _ e
theorem DLs.keep {H H':Hp} {vs:List V} {ds:List PyData} {L:List Addr} (h:DLs H vs ds L) (s:Yc H H'):DLs H' vs ds L:=h.keepL s.tps fun a _ vs e=>s _ _ e
mutual
theorem DL.mem {H:Hp}:∀ {v:V} {d:PyData} {L:List Addr},DL H v d L→∀ a∈L,∃ vs,H a=some (.lst vs)∧vs.length≤10000
 | _,_,_,.lst (a:=b) h hn hs,a,ha=>by
  rcases List.mem_cons.mp ha with e | ha
  ·subst e;exact ⟨_,h,hn⟩
  ·exact hs.mem a ha
 | _,_,_,.tup h hn hs,a,ha=>hs.mem a ha
theorem DLs.mem {H:Hp}:∀ {vs:List V} {ds:List PyData} {L:List Addr},DLs H vs ds L→∀ a∈L,∃ vs,H a=some (.lst vs)∧vs.length≤10000
 | _,_,_,.cons h hs,a,ha=>by
  rcases List.mem_append.mp ha with ha | ha
  ·exact h.mem a ha
  ·exact hs.mem a ha
end
mutual
theorem DL.den {K:PySem.W.Frag} {H:Hp}:∀ {v:V} {d:PyData} {L:List Addr},DL H v d L→Den K H v d
 | _,_,_,.non => .non
 | _,_,_,.bl b => .bl b
 | _,_,_,.int i => .int i
 | _,_,_,.str x h => .str x h
 | _,_,_,.lst h _ hs => .lst (SqL.of h) hs.den
 | _,_,_,.tup h _ hs => .tup (SqT.of h) hs.den
theorem DLs.den {K:PySem.W.Frag} {H:Hp}:∀ {vs:List V} {ds:List PyData} {L:List Addr},DLs H vs ds L→Dens K H vs ds
 | _,_,_,.nil => .nil
 | _,_,_,.cons h hs => .cons h.den hs.den
end
theorem DLs.length {H:Hp}:∀ {vs:List V} {ds:List PyData} {L:List Addr},DLs H vs ds L→vs.length=ds.length
 | _,_,_,.nil=>rfl
 | _,_,_,.cons _ hs=>congrArg (·+1) hs.length
theorem DLs.append {H:Hp} {vs':List V} {ds':List PyData} {L':List Addr}:∀ {vs:List V} {ds:List PyData} {L:List Addr},DLs H vs ds L→DLs H vs' ds' L'→DLs H (vs++vs') (ds++ds') (L++L')
 | _,_,_,.nil,h=>h
 | _,_,_,.cons a b,h=>by rw [List.append_assoc];exact .cons a (b.append h)
theorem DL.one {H:Hp} {v:V} {d:PyData} {L:List Addr} (h:DL H v d L):DLs H [v] [d] L:=by
 have:=DLs.cons h .nil
 rwa [List.append_nil] at this
theorem DLs.take {H:Hp}:∀ {vs:List V} {ds:List PyData} {L:List Addr} (n:Nat),DLs H vs ds L→∃ L',DLs H (vs.take n) (ds.take n) L'∧∀ a∈L',a∈L
 | _,_,_,0,_=>by simp;exact ⟨[],.nil,fun a h=>by cases h⟩
 | _,_,_,n+1,.nil=>by simp;exact ⟨[],.nil,fun a h=>by cases h⟩
 | _,_,_,n+1,.cons a b=>by
  obtain ⟨L',h1,h2⟩:=b.take n
  exact ⟨_,.cons a h1,fun x hx=>by
   rcases List.mem_append.mp hx with h | h
   ·exact List.mem_append_left _ h
   ·exact List.mem_append_right _ (h2 x h)⟩
structure OwD (H0 H:Hp) (v:V) (d:PyData) (L:List Addr):Prop where
 vl:DL H v d L
 nd:L.Nodup
 new:∀ a∈L,H0 a=none
structure OwDs (H0 H:Hp) (vs:List V) (ds:List PyData) (L:List Addr):Prop where
 vl:DLs H vs ds L
 nd:L.Nodup
 new:∀ a∈L,H0 a=none
theorem OwDs.ext {H0 H1 H2:Hp} {vs:List V} {ds:List PyData} {L L':List Addr} {ys:List V} {es:List PyData} {D:Addr} {zs zs':List V} (h:OwDs H0 H1 vs ds L) (hD:∀ a∈L,a≠D) (s0:Yc H0 H1) (s:Yc H1 H2) (o:OwDs H1 H2 ys es L') (h1:H1 D=some (.lst zs)):OwDs H0 (upd H2 D (.lst zs')) (vs++ys) (ds++es) (L++L')∧∀ a∈L++L',a≠D:=by
 have hD':∀ a∈L',a≠D:=fun a ha e=>by have:=o.new a ha;rw [e,h1] at this;cases this
 have t:Tps H2 (upd H2 D (.lst zs')) := .upd_lst (s _ _ h1)
 refine ⟨⟨((h.vl.keep s).keepL t fun a ha vs e=>by rw [Yl (hD a ha)];exact e).append (o.vl.keepL t fun a ha vs e=>by rw [Yl (hD' a ha)];exact e),?_,fun a ha=>?_⟩,fun a ha=>?_⟩
 ·refine List.nodup_append.mpr ⟨h.nd,o.nd,fun a ha b hb e=>?_⟩
  subst e
  obtain ⟨vs,e1,_⟩:=h.vl.mem a ha
  rw [o.new a hb] at e1
  cases e1
 ·rcases List.mem_append.mp ha with ha | ha
  ·exact h.new a ha
  ·exact s0.free (o.new a ha)
 ·rcases List.mem_append.mp ha with ha | ha
  ·exact hD a ha
  ·exact hD' a ha
theorem OwD.inv {H0 H:Hp} {D:Addr} {ds:List PyData} {L:List Addr} (h:OwD H0 H (.ref D) (.list ds) L):∃ ys L1,L=D::L1∧H D=some (.lst ys)∧ys.length≤10000∧OwDs H0 H ys ds L1∧D∉L1∧H0 D=none:=by
 obtain ⟨vl,nd,new⟩:=h
 cases vl with
 | lst h1 h2 h3 =>
  have:=List.nodup_cons.mp nd
  exact ⟨_,_,rfl,h1,h2,⟨h3,this.2,fun a ha=>new a (.tail _ ha)⟩,this.1,new _ (.head _)⟩
section
variable {src:List (Option Nat)} {te:TE} {σ:St} {H:Hp} {Q:VK}
end
def Kt (H H':Hp):Prop:=∀ a o,(∀ ps,o ≠ .tbl ps)→H a=some o→H' a=some o
theorem Kt.trans {H H1 H2:Hp} (a:Kt H H1) (b:Kt H1 H2):Kt H H2:=fun c o n e=>b c o n (a c o n e)
theorem YbZ {H H':Hp} (s:Yc H H'):Kt H H':=fun c o _ e=>s _ _ e
theorem Kt.lst {H H':Hp} (h:Kt H H') {a:Addr} {xs:List V} (e:H a=some (.lst xs)):H' a=some (.lst xs):=h a _ (by intro ps z;cases z) e
theorem Kt.tup {H H':Hp} (h:Kt H H') {a:Addr} {xs:List V} (e:H a=some (.tup xs)):H' a=some (.tup xs):=h a _ (by intro ps z;cases z) e
theorem DL.kt {H H':Hp} {v:V} {d:PyData} {L:List Addr} (h:DL H v d L) (s:Kt H H'):DL H' v d L:=h.keepL (fun a vs e=>s.tup e) fun a _ vs e=>s.lst e
theorem DLs.kt {H H':Hp} {v:List V} {d:List PyData} {L:List Addr} (h:DLs H v d L) (s:Kt H H'):DLs H' v d L:=h.keepL (fun a vs e=>s.tup e) fun a _ vs e=>s.lst e
def DV (H:Hp) (v:V) (d:PyData):Prop:=∃ L,DL H v d L
def DVs (H:Hp) (vs:List V) (ds:List PyData):Prop:=∃ L,DLs H vs ds L
theorem DV.kt {H H':Hp} {v:V} {d:PyData} (h:DV H v d) (s:Kt H H'):DV H' v d:=by obtain ⟨L,h⟩:=h;exact ⟨L,h.kt s⟩
theorem DV.keep {H H':Hp} {v:V} {d:PyData} (h:DV H v d) (s:Yc H H'):DV H' v d:=h.kt (YbZ s)
theorem DVs.kt {H H':Hp} {v:List V} {d:List PyData} (h:DVs H v d) (s:Kt H H'):DVs H' v d:=by obtain ⟨L,h⟩:=h;exact ⟨L,h.kt s⟩
theorem DVs.keep {H H':Hp} {v:List V} {d:List PyData} (h:DVs H v d) (s:Yc H H'):DVs H' v d:=h.kt (YbZ s)
theorem DVs.nil {H:Hp}:DVs H [] []:=⟨[],.nil⟩
theorem DVs.cons {H:Hp} {v:V} {d:PyData} {vs:List V} {ds:List PyData} (h:DV H v d) (hs:DVs H vs ds):DVs H (v::vs) (d::ds):=by
 obtain ⟨L,h⟩:=h;obtain ⟨L',hs⟩:=hs;exact ⟨_,.cons h hs⟩
theorem DVs.inv {H:Hp} {v:V} {d:PyData} {vs:List V} {ds:List PyData} (h:DVs H (v::vs) (d::ds)):DV H v d∧DVs H vs ds:=by
 obtain ⟨L,h⟩:=h
 cases h with
 | cons a b=>exact ⟨⟨_,a⟩,⟨_,b⟩⟩
theorem DVs.length {H:Hp} {vs:List V} {ds:List PyData} (h:DVs H vs ds):vs.length=ds.length:=by obtain ⟨L,h⟩:=h;exact h.length
theorem DVs.append {H:Hp} {vs vs':List V} {ds ds':List PyData} (h:DVs H vs ds) (h':DVs H vs' ds'):DVs H (vs++vs') (ds++ds'):=by
 obtain ⟨L,h⟩:=h;obtain ⟨L',h'⟩:=h';exact ⟨_,h.append h'⟩
theorem DVs.reverse {H:Hp}:∀ {vs:List V} {ds:List PyData},DVs H vs ds→DVs H vs.reverse ds.reverse
 | [],[],_ => .nil
 | [],_::_,h=>absurd h.length (by simp)
 | _::_,[],h=>absurd h.length (by simp)
 | v::vs,d::ds,h=>by
  rw [List.reverse_cons,List.reverse_cons]
  exact h.inv.2.reverse.append (.cons h.inv.1 .nil)
theorem DV.lst {H:Hp} {a:Addr} {vs:List V} {ds:List PyData} (h:H a=some (.lst vs)) (hn:vs.length≤10000) (hs:DVs H vs ds):DV H (.ref a) (.list ds):=by obtain ⟨L,hs⟩:=hs;exact ⟨_,.lst h hn hs⟩
theorem DV.tup {H:Hp} {a:Addr} {vs:List V} {ds:List PyData} (h:H a=some (.tup vs)) (hn:vs.length≤10000) (hs:DVs H vs ds):DV H (.ref a) (.tuple ds):=by obtain ⟨L,hs⟩:=hs;exact ⟨_,.tup h hn hs⟩
theorem DV.den {K:PySem.W.Frag} {H:Hp} {v:V} {d:PyData} (h:DV H v d):Den K H v d:=by obtain ⟨L,h⟩:=h;exact h.den
end L2
namespace PySem
section
variable {prog:Program} {w:World} {A:Around} {E:Value→Shared→Prop} {s:Shared} {l:Addr} {xs:Array (Int×Tok)}
end
end PySem
namespace HT
open PySem PySem.Spec PyProof.Rows
variable {prog:Program} {w:World} {A:Around} {E:Value→Shared→Prop} {s:Shared}
end HT
namespace L2
open PySem PySem.Spec PyProof.Rows
def revS (z:Str):Str:=⟨z.cps.toList.reverse.toArray⟩
section
variable {X:Cx} {e st:Expr} {te ts:TE} {pos p2:Pos} {K:PySem.W.Frag}
end
end L2
namespace L2
open PySem
noncomputable def sm (a b:PyData):Bool:=@decide (a=b) (Classical.propDecidable _)
inductive Tm where
 | num (i:Int) | here | part (t:Tm) (k:Int) | count (t:Tm) | sum (t:Tm) | not (t:Tm) | turned (t:Tm)
 | same (a b:Tm) | both (a b:Tm) | when (a b c:Tm) | each (a b:Tm) | joined (a b:Tm) | plus (a b:Tm) | times (a b:Tm) | less (a b:Tm)
abbrev Say:=Except Str PyData
def VG:PyData→Option (List PyData)
 | .list xs=>some xs
 | .tuple xs=>some xs
 | _=>none
def Wr:List PyData→Option Int
 | []=>some 0
 | .int i::r=>(Wr r).map (i+·)
 | _::_=>none
def take (mk:Str) (s:Say) (f:PyData→Option α):Except Str α:=match s with
 | .error m => .error m
 | .ok d=>match f d with
  | some a => .ok a
  | none => .error mk
def WZ:PyData→Option Int
 | .int i=>some i
 | _=>none
def WP:PyData→Option Bool
 | .bool b=>some b
 | _=>none
def lenOf:PyData→Option Nat
 | .list xs=>some xs.length
 | .tuple xs=>some xs.length
 | .str x=>some x.length
 | _=>none
def YcX:PyData→Option PyData
 | .list xs=>some (.list xs.reverse)
 | .tuple xs=>some (.tuple xs.reverse)
 | .str x=>some (.str (revS x))
 | _=>none
def YaX (mk:Str) (f:PyData→Say):List PyData→Say
 | [] => .ok (.bool true)
 | x::xs=>match take mk (f x) WP with
  | .error m => .error m
  | .ok true=>YaX mk f xs
  | .ok false => .ok (.bool false)
noncomputable def tell:Tm→PyData→Say
 | .num i,_ => .ok (.int i)
 | .here,d => .ok d
 | .part t k,d=>take "part" (tell t d) fun x=>(VG x).bind fun xs=>if 0≤k then xs[k.toNat]? else none
 | .count t,d=>(take "count" (tell t d) lenOf).map fun (n:Nat)=>PyData.int (n:Int)
 | .sum t,d=>(take "sum" (tell t d) fun x=>(VG x).bind Wr).map .int
 | .not t,d=>(take "not" (tell t d) WP).map fun b => .bool (!b)
 | .turned t,d=>take "turned" (tell t d) YcX
 | .same a b,d=>match tell a d with
  | .error m => .error m
  | .ok x=>(tell b d).map fun y => .bool (sm x y)
 | .both a b,d=>match take "both" (tell a d) WP with
  | .error m => .error m
  | .ok false => .ok (.bool false)
  | .ok true=>(take "both" (tell b d) WP).map .bool
 | .when a b c,d=>match take "when" (tell a d) WP with
  | .error m => .error m
  | .ok true=>tell b d
  | .ok false=>tell c d
 | .each a b,d=>match take "each" (tell a d) VG with
  | .error m => .error m
  | .ok xs=>YaX "each" (fun x=>tell b x) xs
 | .joined a b,d=>match tell a d with
  | .error m => .error m
  | .ok (.list xs)=>take "joined" (tell b d) fun y=>match y with
   | .list ys=>some (.list (xs++ys))
   | _=>none
  | .ok (.str x)=>take "joined" (tell b d) fun y=>match y with
   | .str z=>some (.str (x++z))
   | _=>none
  | .ok _ => .error "joined"
 | .plus a b,d=>match take "plus" (tell a d) WZ with
  | .error m => .error m
  | .ok i=>(take "plus" (tell b d) WZ).map fun j => .int (i+j)
 | .times a b,d=>match take "times" (tell a d) WZ with
  | .error m => .error m
  | .ok i=>(take "times" (tell b d) WZ).map fun j => .int (i*j)
 | .less a b,d=>match take "less" (tell a d) WZ with
  | .error m => .error m
  | .ok i=>(take "less" (tell b d) WZ).map fun j => .bool (decide (i<j))
def Yy (H:Hp):Tm→V→Prop
 | .num i,v=>∃ a,v = .ref a∧H a=some (.tup [.str "num",.int i])
 | .here,v=>∃ a r,v = .ref a∧H a=some (.tup [.str "here",r])
 | .part t k,v=>∃ a p u,v = .ref a∧H a=some (.tup [.str "part",.ref p])∧H p=some (.tup [u,.int k])∧Yy H t u
 | .count t,v=>∃ a u,v = .ref a∧H a=some (.tup [.str "count",u])∧Yy H t u
 | .sum t,v=>∃ a u,v = .ref a∧H a=some (.tup [.str "sum",u])∧Yy H t u
 | .not t,v=>∃ a u,v = .ref a∧H a=some (.tup [.str "not",u])∧Yy H t u
 | .turned t,v=>∃ a u,v = .ref a∧H a=some (.tup [.str "turned",u])∧Yy H t u
 | .same x y,v=>∃ a p u w,v = .ref a∧H a=some (.tup [.str "same",.ref p])∧H p=some (.tup [u,w])∧Yy H x u∧Yy H y w
 | .both x y,v=>∃ a p u w,v = .ref a∧H a=some (.tup [.str "both",.ref p])∧H p=some (.tup [u,w])∧Yy H x u∧Yy H y w
 | .when x y z,v=>∃ a p u w q,v = .ref a∧H a=some (.tup [.str "when",.ref p])∧H p=some (.tup [u,w,q])∧Yy H x u∧Yy H y w∧Yy H z q
 | .each x y,v=>∃ a p u w,v = .ref a∧H a=some (.tup [.str "each",.ref p])∧H p=some (.tup [u,w])∧Yy H x u∧Yy H y w
 | .joined x y,v=>∃ a p u w,v = .ref a∧H a=some (.tup [.str "joined",.ref p])∧H p=some (.tup [u,w])∧Yy H x u∧Yy H y w
 | .plus x y,v=>∃ a p u w,v = .ref a∧H a=some (.tup [.str "plus",.ref p])∧H p=some (.tup [u,w])∧Yy H x u∧Yy H y w
 | .times x y,v=>∃ a p u w,v = .ref a∧H a=some (.tup [.str "times",.ref p])∧H p=some (.tup [u,w])∧Yy H x u∧Yy H y w
 | .less x y,v=>∃ a p u w,v = .ref a∧H a=some (.tup [.str "less",.ref p])∧H p=some (.tup [u,w])∧Yy H x u∧Yy H y w
theorem Yy.tps {H H':Hp} (h:Tps H H'):∀ {t:Tm} {v:V},Yy H t v→Yy H' t v
 | .num i,v,⟨a,e,z⟩=>⟨a,e,h _ _ z⟩
 | .here,v,⟨a,r,e,z⟩=>⟨a,r,e,h _ _ z⟩
 | .part t k,v,⟨a,p,u,e,z,y,x⟩=>⟨a,p,u,e,h _ _ z,h _ _ y,Yy.tps h x⟩
 | .count t,v,⟨a,u,e,z,x⟩=>⟨a,u,e,h _ _ z,Yy.tps h x⟩
 | .sum t,v,⟨a,u,e,z,x⟩=>⟨a,u,e,h _ _ z,Yy.tps h x⟩
 | .not t,v,⟨a,u,e,z,x⟩=>⟨a,u,e,h _ _ z,Yy.tps h x⟩
 | .turned t,v,⟨a,u,e,z,x⟩=>⟨a,u,e,h _ _ z,Yy.tps h x⟩
 | .same _ _,v,⟨a,p,u,w,e,z,y,x1,x2⟩=>⟨a,p,u,w,e,h _ _ z,h _ _ y,Yy.tps h x1,Yy.tps h x2⟩
 | .both _ _,v,⟨a,p,u,w,e,z,y,x1,x2⟩=>⟨a,p,u,w,e,h _ _ z,h _ _ y,Yy.tps h x1,Yy.tps h x2⟩
 | .when _ _ _,v,⟨a,p,u,w,q,e,z,y,x1,x2,x3⟩=>⟨a,p,u,w,q,e,h _ _ z,h _ _ y,Yy.tps h x1,Yy.tps h x2,Yy.tps h x3⟩
 | .each _ _,v,⟨a,p,u,w,e,z,y,x1,x2⟩=>⟨a,p,u,w,e,h _ _ z,h _ _ y,Yy.tps h x1,Yy.tps h x2⟩
 | .joined _ _,v,⟨a,p,u,w,e,z,y,x1,x2⟩=>⟨a,p,u,w,e,h _ _ z,h _ _ y,Yy.tps h x1,Yy.tps h x2⟩
 | .plus _ _,v,⟨a,p,u,w,e,z,y,x1,x2⟩=>⟨a,p,u,w,e,h _ _ z,h _ _ y,Yy.tps h x1,Yy.tps h x2⟩
 | .times _ _,v,⟨a,p,u,w,e,z,y,x1,x2⟩=>⟨a,p,u,w,e,h _ _ z,h _ _ y,Yy.tps h x1,Yy.tps h x2⟩
 | .less _ _,v,⟨a,p,u,w,e,z,y,x1,x2⟩=>⟨a,p,u,w,e,h _ _ z,h _ _ y,Yy.tps h x1,Yy.tps h x2⟩
theorem Yy.keep {H H':Hp} (h:Kt H H') {t:Tm} {v:V} (x:Yy H t v):Yy H' t v:=x.tps fun a vs e=>h.tup e
structure IB (n:Nat) (i:Int):Prop where
 h:i.natAbs<2^(200*2^n)
theorem ib_up (n:Nat):200*2^(n+1)=200*2^n+200*2^n:=by rw [Nat.pow_succ];omega
mutual
def hb:PyData→Prop
 | .list xs=>xs.length≤64∧hbs xs
 | .tuple xs=>xs.length≤64∧hbs xs
 | .str x=>x.length≤64
 | .int i=>IB 0 i
 | .none=>True
 | .bool _=>True
 | .dict _=>False
def hbs:List PyData→Prop
 | []=>True
 | d::ds=>hb d∧hbs ds
end
theorem YaY:∀ {xs:List PyData} {s:Int},hbs xs→Wr xs=some s→s.natAbs≤xs.length*2^200
 | [],s,_,e=>by cases e;simp
 | .int i::xs,s,h,e=>by
  simp only [Wr,Option.map_eq_some_iff] at e
  obtain ⟨z,e1,rfl⟩:=e
  have h1:=YaY h.2 e1
  have h2:=(show IB 0 i from h.1).h
  have h3:=Int.natAbs_add_le i z
  rw [Nat.pow_zero,Nat.mul_one] at h2
  rw [List.length_cons,Nat.add_mul,Nat.one_mul]
  omega
 | .none::_,_,_,e=>by cases e
 | .bool _::_,_,_,e=>by cases e
 | .str _::_,_,_,e=>by cases e
 | .list _::_,_,_,e=>by cases e
 | .tuple _::_,_,_,e=>by cases e
 | .dict _::_,_,_,e=>by cases e
theorem IB.sum {n:Nat} {xs:List PyData} {s:Int} (h:hbs xs) (hl:xs.length≤64*2^n) (e:Wr xs=some s):IB (n+1) s:=by
 refine ⟨Nat.lt_of_le_of_lt (YaY h e) ?_⟩
 refine Nat.lt_of_le_of_lt (Nat.mul_le_mul_right _ hl) ?_
 have e1:64*2^n*2^200=2^(6+n+200):=by rw [Nat.pow_add,Nat.pow_add]
 rw [e1]
 refine Nat.pow_lt_pow_right (by decide) ?_
 have:=Nat.lt_two_pow_self (n:=n)
 rw [ib_up]
 omega
def Tm.ok:Tm→Prop
 | .num i=>IB 0 i
 | .here=>True
 | .part t k=>0≤k∧t.ok
 | .count t=>t.ok
 | .sum t=>t.ok
 | .not t=>t.ok
 | .turned t=>t.ok
 | .same a b=>a.ok∧b.ok
 | .both a b=>a.ok∧b.ok
 | .when a b c=>a.ok∧b.ok∧c.ok
 | .each a b=>a.ok∧b.ok
 | .joined a b=>a.ok∧b.ok
 | .plus a b=>a.ok∧b.ok
 | .times a b=>a.ok∧b.ok
 | .less a b=>a.ok∧b.ok
end L2
namespace L2
open PySem PySem.Spec PyProof.Rows
section
variable {X:Cx} {k:Nat}
end
def sb:Nat→Nat
 | 0=>60
 | n+1=>4*sb n+11
end L2
namespace L2
open PySem PySem.Spec PyProof.Rows
section
variable {M:Model} {A:Around} {E:Value→Shared→Prop} {s:Shared} {Q:Value→Shared→Prop}
end
section
variable {X:Cx}
end
section
variable {g:Gx} {X:Cx} {k j:Nat} {f c:Str} {ps:List Str} {sp:Sp} {e:Expr} {es:List Expr} {t:TA} {ts:TS} {b₀:Stmt} {suite:List Stmt} {cv:Value} {kk:Nat} {fp cp hpos apos cpos bpos mpos pos:Pos}
end
end L2
set_option maxHeartbeats 4000000
namespace PySem.W
open PySem PySem.Calls PyProof.Rows
def KasT.Ok {α:Type} (f:Nat→Nat→Bool) (n:Nat) (Q:α→Prop):KasT α→Prop
 | .ret a=>Q a
 | .ask i j k=>i<n∧j<n∧(k (f i j)).Ok f n Q
theorem KasT.ok_bind {α β:Type} {f:Nat→Nat→Bool} {n:Nat} {g:α→KasT β} {Q:β→Prop}:∀ {t:KasT α},t.Ok f n (fun a=>(g a).Ok f n Q)→(t.bind g).Ok f n Q
 | .ret _,h=>h
 | .ask _ _ k,h=>⟨h.1,h.2.1,KasT.ok_bind (t:=k _) h.2.2⟩
theorem KasT.Ok.mono {α:Type} {f:Nat→Nat→Bool} {n:Nat} {Q Q':α→Prop} (hq:∀ a,Q a→Q' a):∀ {t:KasT α},t.Ok f n Q→t.Ok f n Q'
 | .ret _,h=>hq _ h
 | .ask _ _ k,h=>⟨h.1,h.2.1,KasT.Ok.mono hq (t:=k _) h.2.2⟩
theorem KasT.Ok.wp {α:Type} {f:Nat→Nat→Bool} {n:Nat} {Q:α→Prop} {Q':α→Shared→Prop} {cmp:Nat→Nat→(Bool→Shared→Prop)→Shared→Prop} {s:Shared} (hc:∀ i j C,i<n→j<n→C (f i j) s→cmp i j C s) (hq:∀ a,Q a→Q' a s):∀ {t:KasT α},t.Ok f n Q→t.kasWp cmp Q' s
 | .ret _,h=>hq _ h
 | .ask _ _ k,h=>hc _ _ _ h.1 h.2.1 (KasT.Ok.wp hc hq (t:=k _) h.2.2)
section sort
variable {f:Nat→Nat→Bool} {n:Nat}
def KPm (n:Nat) (p:Array Nat):Prop:=p.Perm (List.toArray (List.range n))
theorem KPm.size {p:Array Nat} (h:KPm n p):p.size=n:=by
 have:=h.size_eq
 simpa using this
theorem KPm.lt {p:Array Nat} (h:KPm n p) (h0:0<n) (i:Nat):p.getD i 0<n:=by
 by_cases c:i<p.size
 ·have hm:p[i]∈p:=Array.getElem_mem c
  have:=(h.mem_iff).mp hm
  simp [Array.getD,c]
  simpa using this
 ·simp [Array.getD,c];exact h0
theorem KPm.rev {p:Array Nat} (h:KPm n p) (i j:Nat):KPm n (kas_rev p i j):=(mirror_perm _ _ _ _).trans h
theorem KPm.bub {p:Array Nat} (h:KPm n p) (i j:Nat):KPm n (bubble p i j):=(bubble_perm _ _ _).trans h
theorem Ws {p q:Array Nat} {i j:Nat} (h:p[i]?=q[j]?):p.getD i 0=q.getD j 0:=by
 rw [Array.getD_eq_getD_getElem?,Array.getD_eq_getD_getElem?,h]
theorem Y9 {p:Array Nat} {i j:Nat} (hj:j≤p.size) (k:Nat):(kas_rev p i j).getD k 0=if i≤k∧k<j then p.getD (i+j - 1 - k) 0 else p.getD k 0:=by
 have:=getElem?_mirror_all (i:=i) hj k
 by_cases c:i≤k∧k<j
 ·rw [if_pos c] at this ⊢;exact Ws this
 ·rw [if_neg c] at this ⊢;exact Ws this
theorem YaZ {p:Array Nat} {k l:Nat} (hk:k<p.size) (hl:l≤k) (i:Nat):(bubble p k (k - l)).getD i 0=if i=l then p.getD k 0 else if l<i∧i≤k then p.getD (i - 1) 0 else p.getD i 0:=by
 have:=getElem?_bubble hk (k - l) (by omega) i
 rw [show k - (k - l)=l from by omega] at this
 by_cases c:i=l
 ·rw [if_pos c] at this ⊢;exact Ws this
 ·rw [if_neg c] at this ⊢
  by_cases c2:l<i∧i≤k
  ·rw [if_pos c2] at this ⊢;exact Ws this
  ·rw [if_neg c2] at this ⊢;exact Ws this
def XF (f:Nat→Nat→Bool) (p:Array Nat) (m:Nat):Prop:=∀ i j,i≤j→j<m→f (p.getD j 0) (p.getD i 0)=false
def XI (f:Nat→Nat→Bool) (p:Array Nat) (m:Nat):Prop:=∀ i j,i≤j→j<m→f (p.getD i 0) (p.getD j 0)=false
def KEq (f:Nat→Nat→Bool) (p:Array Nat) (m q:Nat):Prop:=∀ i,m - (q+1)≤i→i<m→f (p.getD (m - 1) 0) (p.getD i 0)=false
structure KOrd (f:Nat→Nat→Bool) (n:Nat):Prop where
 asy:∀ i j,i<n→j<n→f i j=true→f j i=false
 tr:∀ i j k,i<n→j<n→k<n→f j i=false→f k j=false→f k i=false
theorem KOrd.irr (h:KOrd f n) {i:Nat} (hi:i<n):f i i=false:=by
 cases e:f i i with
 | false=>rfl
 | true=>rw [h.asy i i hi hi e] at e;cases e
variable (O:KOrd f n) (h0:0<n)
include O h0
theorem XF.snoc {p:Array Nat} (hp:KPm n p) {a:Nat} (h1:1≤a) (hs:XF f p a) (hc:f (p.getD a 0) (p.getD (a - 1) 0)=false):XF f p (a+1):=by
 intro i j hij hj
 have L:=hp.lt h0
 by_cases c:j<a
 ·exact hs i j hij c
 ·have:j=a:=by omega
  subst this
  by_cases c2:i=j
  ·subst c2;exact O.irr (L _)
  ·exact O.tr _ _ _ (L _) (L _) (L _) (hs i (j - 1) (by omega) (by omega)) hc
theorem XI.snoc {p:Array Nat} (hp:KPm n p) {a:Nat} (h1:1≤a) (hs:XI f p a) (hc:f (p.getD (a - 1) 0) (p.getD a 0)=false):XI f p (a+1):=by
 intro i j hij hj
 have L:=hp.lt h0
 by_cases c:j<a
 ·exact hs i j hij c
 ·have:j=a:=by omega
  subst this
  by_cases c2:i=j
  ·subst c2;exact O.irr (L _)
  ·exact O.tr _ _ _ (L _) (L _) (L _) hc (hs i (j - 1) (by omega) (by omega))
theorem US {p:Array Nat} (hp:KPm n p):∀ (k a:Nat),1≤a→XF f p a→(kas_asc p k a).Ok f n fun m=>a≤m∧m≤a+k∧XF f p m∧(m<a+k→f (p.getD m 0) (p.getD (m - 1) 0)=true)
 | 0,a,h1,hs=>⟨Nat.le_refl _,Nat.le_refl _,hs,fun h=>absurd h (by omega)⟩
 | k+1,a,h1,hs=>by
  refine ⟨hp.lt h0 _,hp.lt h0 _,?_⟩
  dsimp only
  by_cases c:f (p.getD a 0) (p.getD (a - 1) 0)=true
  ·rw [if_pos c]
   exact ⟨Nat.le_refl _,by omega,hs,fun _=>c⟩
  ·rw [if_neg c]
   refine (US hp k (a+1) (by omega) (hs.snoc O h0 hp h1 (Bool.eq_false_iff.mpr c))).mono fun m h=>⟨by omega,by omega,h.2.2.1,fun h'=>h.2.2.2 (by omega)⟩
theorem XI.turn {p:Array Nat} (hp:KPm n p) {a q:Nat} (ha:a≤n) (hq:q+1≤a) (hs:XI f p a) (he:KEq f p a q):XI f (kas_rev p (a - (q+1)) a) a∧KEq f (kas_rev p (a - (q+1)) a) a q:=by
 have L:=hp.lt h0
 have hz:a≤p.size:=by rw [hp.size];exact ha
 have eq:∀ i j,a - (q+1)≤i→i<a→a - (q+1)≤j→j<a→f (p.getD i 0) (p.getD j 0)=false:=fun i j h1 h2 h3 h4 =>
  O.tr _ _ _ (L _) (L _) (L _) (he j h3 h4) (hs i (a - 1) (by omega) (by omega))
 refine ⟨fun i j hij hj=>?_,fun i h1 h2=>?_⟩
 ·rw [Y9 hz,Y9 hz]
  by_cases c1:a - (q+1)≤i∧i<a
  ·rw [if_pos c1,if_pos ⟨by omega,hj⟩]
   exact eq _ _ (by omega) (by omega) (by omega) (by omega)
  ·rw [if_neg c1]
   by_cases c2:a - (q+1)≤j∧j<a
   ·rw [if_pos c2]
    exact hs _ _ (by omega) (by omega)
   ·rw [if_neg c2]
    exact hs _ _ hij hj
 ·rw [Y9 hz,Y9 hz,if_pos ⟨by omega,by omega⟩,if_pos ⟨h1,h2⟩]
  exact eq _ _ (by omega) (by omega) (by omega) (by omega)
def Yb0 (f:Nat→Nat→Bool) (n:Nat) (a:Nat) (r:Array Nat×Nat×Nat):Prop:=KPm n r.1∧XI f r.1 r.2.1∧a≤r.2.1∧r.2.1≤n∧r.2.2+1≤r.2.1∧KEq f r.1 r.2.1 r.2.2
theorem VH:∀ (k:Nat) (p:Array Nat) (a q:Nat),KPm n p→a+k≤n→q+1≤a→XI f p a→KEq f p a q→(kas_desc k p a q).Ok f n (Yb0 f n a)
 | 0,p,a,q,hp,ha,hq,hs,he=>⟨hp,hs,Nat.le_refl _,ha,hq,he⟩
 | k+1,p,a,q,hp,ha,hq,hs,he=>by
  have L:=hp.lt h0
  refine ⟨L _,L _,?_⟩
  dsimp only
  by_cases c:f (p.getD a 0) (p.getD (a - 1) 0)=true
  ·rw [if_pos c]
   have key:∀ p':Array Nat,KPm n p'→XI f p' a→p'.getD a 0=p.getD a 0→f (p.getD (a - 1) 0) (p'.getD (a - 1) 0)=false∧f (p'.getD (a - 1) 0) (p.getD (a - 1) 0)=false→(kas_desc k p' (a+1) 0).Ok f n (Yb0 f n a):=fun p' hp' hs' e1 e2=>by
    have L':=hp'.lt h0
    have hx:f (p'.getD (a - 1) 0) (p'.getD a 0)=false:=by
     rw [e1]
     exact O.tr _ _ _ (L _) (L _) (L' _) (O.asy _ _ (L _) (L _) c) e2.2
    refine (VH k p' (a+1) 0 hp' (by omega) (by omega) (hs'.snoc O h0 hp' (by omega) hx) fun i h1 h2=>?_).mono fun r h=>⟨h.1,h.2.1,by have:=h.2.2.1;omega,h.2.2.2⟩
    have:i=a:=by omega
    subst this
    exact O.irr (L' _)
   by_cases cq:q>0
   ·rw [if_pos cq]
    obtain ⟨t1,t2⟩:=hs.turn O h0 hp (by omega) hq he
    have hz:a≤p.size:=by rw [hp.size];omega
    refine key _ (hp.rev _ _) t1 (by rw [Y9 hz,if_neg (by omega)]) ?_
    rw [Y9 hz,if_pos ⟨by omega,by omega⟩]
    exact ⟨he _ (by omega) (by omega),hs _ _ (by omega) (by omega)⟩
   ·rw [if_neg cq]
    exact key p hp hs rfl ⟨O.irr (L _),O.irr (L _)⟩
  ·rw [if_neg c]
   refine ⟨L _,L _,?_⟩
   dsimp only
   have c':=Bool.eq_false_iff.mpr c
   by_cases d:f (p.getD (a - 1) 0) (p.getD a 0)=true
   ·rw [if_pos d]
    exact ⟨hp,hs,Nat.le_refl _,by show a≤n;omega,hq,he⟩
   ·rw [if_neg d]
    refine (VH k p (a+1) (q+1) hp (by omega) (by omega) (hs.snoc O h0 hp (by omega) (Bool.eq_false_iff.mpr d)) fun i h1 h2=>?_).mono fun r h=>⟨h.1,h.2.1,by have:=h.2.2.1;omega,h.2.2.2⟩
    show f (p.getD a 0) _=false
    by_cases ci:i=a
    ·subst ci;exact O.irr (L _)
    ·exact O.tr _ _ _ (L _) (L _) (L _) (he i (by omega) (by omega)) c'
def KRun (f:Nat→Nat→Bool) (n:Nat) (r:Nat×Array Nat):Prop:=KPm n r.2∧XF f r.2 r.1∧1≤r.1∧r.1≤n
theorem UT {p:Array Nat} {a:Nat} (hp:KPm n p) (h1:1≤a) (ha:a≤n) (hs:XI f p a):(kas_tail3 a n p).Ok f n (KRun f n):=by
 have hz:a≤p.size:=by rw [hp.size];exact ha
 refine KasT.ok_bind ((US O h0 (hp.rev 0 a) _ a h1 fun i j hij hj=>?_).mono fun m h=>⟨hp.rev 0 a,h.2.2.1,by show 1≤m;omega,by show m≤n;omega⟩)
 rw [Y9 hz,Y9 hz,if_pos ⟨by omega,hj⟩,if_pos ⟨by omega,by omega⟩]
 exact hs _ _ (by omega) (by omega)
theorem W5 {p:Array Nat} {a:Nat} (hp:KPm n p) (ha:a+1≤n) (hs:XI f p (a+1)):(kas_descPart a n p).Ok f n (KRun f n):=by
 refine KasT.ok_bind ((VH O h0 (n - (a+1)) p (a+1) 0 hp (by omega) (by omega) hs fun i h1 h2=>?_).mono fun r h=>?_)
 ·have:i=a:=by omega
  subst this
  exact O.irr (hp.lt h0 _)
 ·obtain ⟨r1,r2,r3,r4,r5,r6⟩:=h
  by_cases c:r.2.2>0
  ·rw [if_pos c]
   exact UT O h0 (r1.rev _ _) (by omega) r4 (r2.turn O h0 r1 r4 r5 r6).1
  ·rw [if_neg c]
   exact UT O h0 r1 (by omega) r4 r2
theorem YbA {p:Array Nat} (hp:KPm n p):(kas_count n p).Ok f n (KRun f n):=by
 have L:=hp.lt h0
 refine KasT.ok_bind ((US O h0 hp (n - 1) 1 (Nat.le_refl _) fun i j h1 h2=>?_).mono fun m h=>?_)
 ·have:i=j:=by omega
  subst this
  exact O.irr (L _)
 obtain ⟨m1,m2,m3,m4⟩:=h
 by_cases c:(m==n)=true
 ·rw [if_pos c]
  exact ⟨hp,m3,m1,by show m≤n;omega⟩
 rw [if_neg c]
 have cm:m≠n:=by simpa using c
 have m5:=m4 (by omega)
 have hz:m≤p.size:=by rw [hp.size];omega
 by_cases c1:m>1
 ·rw [if_pos c1]
  refine ⟨L _,L _,?_⟩
  dsimp only
  by_cases c2:f (p.getD 0 0) (p.getD (m - 1) 0)=true
  ·rw [if_pos c2]
   exact ⟨hp,m3,m1,by show m≤n;omega⟩
  ·rw [if_neg c2]
   have c2':=Bool.eq_false_iff.mpr c2
   have eq:∀ i j,i<m→j<m→f (p.getD i 0) (p.getD j 0)=false:=fun i j h1 h2 =>
    O.tr _ _ _ (L _) (L _) (L _) (m3 j (m - 1) (by omega) (by omega)) (O.tr _ _ _ (L _) (L _) (L _) c2' (m3 0 i (by omega) h1))
   refine W5 O h0 (hp.rev _ _) (by omega) (XI.snoc O h0 (hp.rev _ _) m1 (fun i j hij hj=>?_) ?_)
   ·rw [Y9 hz,Y9 hz,if_pos ⟨by omega,by omega⟩,if_pos ⟨by omega,hj⟩]
    exact eq _ _ (by omega) (by omega)
   ·rw [Y9 hz,Y9 hz,if_pos ⟨by omega,by omega⟩,if_neg (by omega)]
    exact O.tr _ _ _ (L _) (L _) (L _) (O.asy _ _ (L _) (L _) m5) (eq _ _ (by omega) (by omega))
 ·rw [if_neg c1]
  have:m=1:=by omega
  subst this
  refine W5 O h0 hp (by omega) (XI.snoc O h0 hp (Nat.le_refl _) (fun i j hij hj=>?_) (O.asy _ _ (L _) (L _) m5))
  have:i=j:=by omega
  subst this
  exact O.irr (L _)
theorem Va {p:Array Nat} {k:Nat} (hp:KPm n p) (hs:XF f p k):∀ (u l r:Nat),r - l≤u→l≤r→r≤k→(∀ i,i<l→f (p.getD k 0) (p.getD i 0)=false)→(∀ i,r≤i→i<k→f (p.getD i 0) (p.getD k 0)=false) →
  (kas_place p k u l r).Ok f n fun l=>l≤k∧(∀ i,i<l→f (p.getD k 0) (p.getD i 0)=false)∧∀ i,l≤i→i<k→f (p.getD i 0) (p.getD k 0)=false
 | 0,l,r,hu,hl,hr,h1,h2=>⟨by omega,h1,fun i hi=>h2 i (by omega)⟩
 | u+1,l,r,hu,hl,hr,h1,h2=>by
  have L:=hp.lt h0
  show KasT.Ok f n _ (if l≥r then _ else _)
  by_cases c:l≥r
  ·rw [if_pos c]
   exact ⟨by omega,h1,fun i hi=>h2 i (by omega)⟩
  ·rw [if_neg c]
   refine ⟨L _,L _,?_⟩
   dsimp only
   by_cases d:f (p.getD k 0) (p.getD ((l+r) / 2) 0)=true
   ·rw [if_pos d]
    exact Va hp hs u l _ (by omega) (by omega) (by omega) h1 fun i hi hk=>O.tr _ _ _ (L _) (L _) (L _) (O.asy _ _ (L _) (L _) d) (hs _ i hi hk)
   ·rw [if_neg d]
    exact Va hp hs u _ r (by omega) (by omega) hr (fun i hi=>O.tr _ _ _ (L _) (L _) (L _) (hs i ((l+r) / 2) (by omega) (by omega)) (Bool.eq_false_iff.mpr d)) h2
theorem Ya0:∀ (u:Nat) (p:Array Nat) (k:Nat),KPm n p→1≤k→k+u=n→XF f p k→(kas_bin u p k).Ok f n fun p'=>KPm n p'∧XF f p' n
 | 0,p,k,hp,h1,hk,hs=>by
  have:k=n:=by omega
  subst this
  exact ⟨hp,hs⟩
 | u+1,p,k,hp,h1,hk,hs=>by
  refine KasT.ok_bind ((Va O h0 hp hs k 0 k (by omega) (by omega) (Nat.le_refl _) (fun i hi=>absurd hi (by omega)) fun i h1 h2=>absurd h1 (by omega)).mono fun l h=>?_)
  obtain ⟨l1,l2,l3⟩:=h
  refine Ya0 u _ (k+1) (hp.bub _ _) (by omega) (by omega) fun i j hij hj=>?_
  have hz:k<p.size:=by rw [hp.size];omega
  rw [YaZ hz l1,YaZ hz l1]
  have hx:=hp.lt h0 k
  generalize p.getD k 0=x at l2 l3 hx ⊢
  repeat' split
  all_goals first
   | exact O.irr hx
   | exact l2 _ (by omega)
   | exact l3 _ (by omega) (by omega)
   | exact hs _ _ (by omega) (by omega)
   | (exfalso;omega)
theorem Ycu:(kas_sort n).Ok f n fun p=>KPm n p∧XF f p n:=by
 refine KasT.ok_bind ((YbA O h0 (p:=List.toArray (List.range n)) (Array.Perm.refl _)).mono fun r h=>?_)
 obtain ⟨r1,r2,r3,r4⟩:=h
 by_cases c:r.1<n
 ·rw [if_pos c,show max r.1 1=r.1 from by omega]
  exact Ya0 O h0 _ _ _ r1 r3 (by omega) r2
 ·rw [if_neg c]
  have:r.1=n:=by omega
  exact ⟨r1,this▸r2⟩
end sort
end PySem.W
set_option maxHeartbeats 4000000
namespace L2
open PySem PySem.Spec PyProof.Rows PySem.W
section
variable {prog:Program} {w:World} {A:Around} {E:Value→Shared→Prop} {s:Shared} {f:Nat→Nat→Bool} {κ:SortKind} {vs:List Value}
theorem Yah {a:Addr} {n:Nat} {P:PySem.Fin→Shared→Prop} (ho:s.heap.get? a=some (seqObj "list" vs.toArray n)) (h64:vs.length<64) (O:KOrd f vs.length)
  (hk:2≤vs.length→∀ h':Heap,(∀ b o,b≠a→s.heap.get? b=some o→h'.get? b=some o)→∀ Q:SortKind→Shared→Prop,Q κ { s with heap:=h' }→wpAny (model prog w) A (keyKind' vs.toArray) Q (fun _ _=>False) { s with heap:=h' })
  (hc:∀ h':Heap,(∀ b o,b≠a→s.heap.get? b=some o→h'.get? b=some o)→∀ i j (C:Bool→Shared→Prop),i<vs.length→j<vs.length→C (f i j) { s with heap:=h' }→kas_ask prog w A κ vs i j C { s with heap:=h' })
  (h:∀ p:Array Nat,KPm vs.length p→XF f p vs.length→P (.done (.ret .none)) { s with heap:=sortedHeap s.heap a vs (List.toArray (p.toList.map fun i=>vs.getD i Value.none)) }) :
  wpAny (model prog w) A (Builtin.«list.sort» ⟨[.ref a],[]⟩) P E s:=by
 rw [list_sort_plain]
 have ha:a<s.heap.objs.size:=Heap.lt_size ho
 refine wpAny_bind (listItems_at ho rfl ?_)
 refine wpAny_bind (listUpdate_at ho rfl ?_ (by rw [List.size_toArray,sizeLine_eq];omega) (Nat.zero_le _))
 obtain ⟨e1,ho1⟩:∃ e1,(s.heap.update a (Obj.mapSeq fun _=>#[])).get? a=some (seqObj "list" #[] e1):=⟨_,get?_update_seq ho (fun _=>#[])⟩
 refine wpAny_bind (seqEpoch_at ho1 rfl ?_)
 refine wpAny_bind (wpAny_newTuple ?_ (by show vs.length≤_;rw [sizeLine_eq];omega))
 refine wpAny_bind (wpAny_newList ?_ (Nat.zero_le _))
 refine wpAny_holding ?_
 have ho6:(((s.heap.update a (Obj.mapSeq fun _=>#[])).push (seqObj "tuple" vs.toArray 0)).push (seqObj "list" #[] 0)).get? a=some (seqObj "list" #[] e1):=by
  rw [Heap.get?_push_ne _ _ _ (by rw [size_push',Heap.size_update];exact Nat.ne_of_lt (Nat.lt_succ_of_lt ha)),Heap.get?_push_ne _ _ _ (by rw [Heap.size_update];exact Nat.ne_of_lt ha)]
  exact ho1
 show wpAny (model prog w) A _ P E { s with heap:=((s.heap.update a (Obj.mapSeq fun _=>#[])).push (seqObj "tuple" vs.toArray 0)).push (seqObj "list" #[] 0) }
 dsimp only
 have hsz:vs.toArray.size=vs.length:=by simp
 have kp:∀ b o,b≠a→s.heap.get? b=some o→(((s.heap.update a (Obj.mapSeq fun _=>#[])).push (seqObj "tuple" vs.toArray 0)).push (seqObj "list" #[] 0)).get? b=some o:=fun b o hb e=>by
  have hlt:b<s.heap.objs.size:=Heap.lt_size e
  rw [Heap.get?_push_ne _ _ _ (by rw [size_push',Heap.size_update];exact Nat.ne_of_lt (Nat.lt_succ_of_lt hlt)),Heap.get?_push_ne _ _ _ (by rw [Heap.size_update];exact Nat.ne_of_lt hlt),Heap.get?_update_ne _ _ _ _ hb]
  exact e
 have fin:=h
 by_cases h2:vs.toArray.size<2
 ·rw [if_pos h2,if_pos h2]
  refine wpAny_bind (wpAny_pure ?_)
  rw [StateT.run_pure]
  refine wpAny_bind (wpAny_pure ?_)
  dsimp only
  refine wpAny_bind (seqEpoch_at ho6 rfl ?_)
  refine wpAny_bind (listUpdate_at ho6 rfl ?_ (Nat.zero_le _) (by rw [Array.size_map];show (pairsOf vs).size≤_;rw [pairsOf_size,sizeLine_eq];omega))
  simp only [bne_self_eq_false,Bool.false_eq_true,if_false]
  refine wpAny_pure ?_
  have e:(Array.map (fun x=>x.2) (arrOf (SortSt.mk' general' (vs.toArray.zip vs.toArray) #[] 7 none)))=List.toArray ((List.toArray (List.range vs.length)).toList.map fun i=>vs.getD i Value.none):=by
   have e0:arrOf (SortSt.mk' general' (vs.toArray.zip vs.toArray) #[] 7 none)=(List.toArray (List.range vs.length)).map (kas_item (vs.toArray.zip vs.toArray)):=by
    have e:=kas_range (vs.toArray.zip vs.toArray)
    rw [show (vs.toArray.zip vs.toArray).size=vs.length by simp] at e
    exact e.symm
   exact kat_snds rfl e0
  rw [e]
  refine fin _ (Array.Perm.refl _) fun i j h1 h3=>?_
  have:i=j:=by omega
  subst this
  exact O.irr (KPm.lt (Array.Perm.refl _) (by omega) _)
 ·rw [if_neg h2,if_neg h2]
  have h2':2≤vs.length:=by omega
  refine wpAny_bind (wpAny_mono (hk h2' _ kp (fun κ' s'=>κ'=κ∧s'=_) ⟨rfl,rfl⟩) (fun κ' s0 hk=>?_) fun _ _ x=>x.elim)
  obtain ⟨rfl,rfl⟩:=hk
  refine wpAny_bind (wpAny_mono (kat_run (Q:=fun st' s'=>∃ p:Array Nat,KPm vs.length p∧XF f p vs.length∧arrOf st'=p.map (kas_item (vs.toArray.zip vs.toArray))∧failedOf st'=none∧s'=_) (G:=fun p s'=>KPm vs.length p∧XF f p vs.length∧s'=_)
   rfl h2' h64 (fun p' st' s' a1 a2 a3 a4=>⟨p',a4.1,a4.2.1,a2,a3,a4.2.2⟩) ((Ycu O (by omega)).wp (hc _ kp) fun p hp=>⟨hp.1,hp.2,rfl⟩)) ?_ fun _ _ e=>e)
  rintro ⟨⟨⟩,st'⟩ s' ⟨p,hp,hs,har,hf,rfl⟩
  dsimp only
  have hout:=kat_snds rfl har
  have hsz2:(List.toArray (p.toList.map fun i=>vs.getD i Value.none)).size=vs.length:=by rw [List.size_toArray,List.length_map,Array.length_toList,hp.size]
  rw [hout]
  refine wpAny_bind (seqEpoch_at ho6 rfl ?_)
  refine wpAny_bind (listUpdate_at ho6 rfl ?_ (Nat.zero_le _) (Nat.le_trans (Nat.le_of_eq hsz2) (by rw [sizeLine_eq];omega)))
  rw [hf]
  simp only [bne_self_eq_false,Bool.false_eq_true,if_false]
  exact wpAny_pure (fin p hp hs)
theorem Ycv {l:Addr} {Q:Value→Shared→Prop} (hl:s.heap.IsList l vs.toArray) (h64:vs.length<64) (O:KOrd f vs.length)
  (hk:2≤vs.length→∀ h':Heap,(∀ b o,s.heap.get? b=some o→h'.get? b=some o)→∀ Q:SortKind→Shared→Prop,Q κ { s with heap:=h' }→wpAny (model prog w) A.in1.in1 (keyKind' vs.toArray) Q (fun _ _=>False) { s with heap:=h' })
  (hc:∀ h':Heap,(∀ b o,s.heap.get? b=some o→h'.get? b=some o)→∀ i j (C:Bool→Shared→Prop),i<vs.length→j<vs.length→C (f i j) { s with heap:=h' }→kas_ask prog w A.in1.in1 κ vs i j C { s with heap:=h' })
  (h:∀ p:Array Nat,KPm vs.length p→XF f p vs.length→Q (.ref (s.heap.objs.size+1)) { s with heap:=sortedAll s.heap vs (List.toArray (p.toList.map fun i=>vs.getD i Value.none)) }) :
  wpAny (model prog w) A (call (.builtin "sorted") [.ref l]) Q E s:=by
 refine Calls.call_function_entry kind_sorted plain_sorted entry_sorted (args_sorted1 _) ?_
 unfold Builtin.«sorted»
 refine wpAny_bind (m:=checkCount "sorted" 1 1 _) (wpAny_pure ?_)
 refine wpAny_bind (collect_list hl ?_ (by rw [sizeLine_eq];omega))
 refine wpAny_bind (wpAny_newList ?_ (by rw [sizeLine_eq];omega))
 have hsz:((s.heap.push (seqObj "list" #[] 0)).update s.heap.objs.size (Obj.mapSeq (·++vs.toArray))).objs.size=s.heap.objs.size+1:=by
  rw [Heap.size_update,size_push']
 have hoL:(((s.heap.push (seqObj "list" #[] 0)).update s.heap.objs.size (Obj.mapSeq (·++vs.toArray))).push (seqObj "list" vs.toArray 0)).get? (s.heap.objs.size+1)=some (seqObj "list" vs.toArray 0):=by
  rw [← hsz];exact Heap.get?_push_size _ rfl
 have keep:∀ b o,s.heap.get? b=some o→(((s.heap.push (seqObj "list" #[] 0)).update s.heap.objs.size (Obj.mapSeq (·++vs.toArray))).push (seqObj "list" vs.toArray 0)).get? b=some o:=fun b o q=>by
  have hlt:b<s.heap.objs.size:=Heap.lt_size q
  rw [Heap.get?_push_ne _ _ _ (by rw [hsz];exact Nat.ne_of_lt (Nat.lt_succ_of_lt hlt)),Heap.get?_update_ne _ _ _ _ (Nat.ne_of_lt hlt),Heap.get?_push_ne _ _ _ (Nat.ne_of_lt hlt)]
  exact q
 show wpAny _ _ _ _ _ { s with heap:=((s.heap.push (seqObj "list" #[] 0)).update s.heap.objs.size (Obj.mapSeq (·++vs.toArray))).push (seqObj "list" vs.toArray 0) }
 rw [hsz]
 have kk:∀ h':Heap,(∀ b o,b≠s.heap.objs.size+1→(((s.heap.push (seqObj "list" #[] 0)).update s.heap.objs.size (Obj.mapSeq (·++vs.toArray))).push (seqObj "list" vs.toArray 0)).get? b=some o→h'.get? b=some o)→∀ b o,s.heap.get? b=some o→h'.get? b=some o:=fun h' k b o e =>
  k b o (Nat.ne_of_lt (Nat.lt_succ_of_lt (Heap.lt_size e))) (keep b o e)
 refine wpAny_bind (wpAny_holding (wpAny_call_entry slot_list_sort ⟨_,hoL,rfl⟩ entry_list_sort ?body (args_list_sort _)))
 case body =>
  exact Yah (s:={ s with heap:=((s.heap.push (seqObj "list" #[] 0)).update s.heap.objs.size (Obj.mapSeq (·++vs.toArray))).push (seqObj "list" vs.toArray 0) }) hoL h64 O
   (fun h2 h' k=>hk h2 h' (kk h' k)) (fun h' k=>hc h' (kk h' k)) fun p hp hs=>⟨_,rfl,wpAny_pure ⟨_,rfl,h p hp hs⟩⟩
end
def PrAt (K:PySem.W.Frag) (H:Hp) (y:V) (p:Int×Int):Prop:=∃ a,y = .ref a∧SqT K H a [.int p.1,.int p.2]
def YC (K:PySem.W.Frag) (H:Hp) (ys:List V) (ps:List (Int×Int)):Prop:=ys.length=ps.length∧∀ (i:Nat) y p,ys[i]?=some y→ps[i]?=some p→PrAt K H y p
def pLe (p q:Int×Int):Prop:=p.1<q.1∨p.1=q.1∧p.2≤q.2
def pLt (p q:Int×Int):Bool:=decide (p.1<q.1∨p.1=q.1∧p.2<q.2)
theorem YcY {p q:Int×Int} (h:pLt q p=false):pLe p q:=by
 have h:=of_decide_eq_false h
 unfold pLe
 omega
theorem Ycw (ps:List (Int×Int)) (n:Nat):KOrd (fun i j=>pLt (ps.getD i (0,0)) (ps.getD j (0,0))) n:=by
 refine ⟨fun i j _ _ h=>?_,fun i j k _ _ _ h1 h2=>?_⟩
 ·have h:=of_decide_eq_true h
  exact decide_eq_false (by omega)
 ·have h1:=of_decide_eq_false h1
  have h2:=of_decide_eq_false h2
  exact decide_eq_false (by omega)
theorem Vr {h:Heap}:∀ {vs:List Value},(∀ v∈vs,∃ a o xs n x t,v = .ref a∧h.get? a=some o∧o.cls = .type "tuple"∧o.data = .seq xs n∧xs[0]?=some (.int x t))→∃ fs,KatTups h vs fs∧fs.length=vs.length∧∀ v∈fs,∃ x t,v=Value.int x t
 | [],_=>⟨[],.nil,rfl,fun v hv=>by cases hv⟩
 | v::vs,hv=>by
  obtain ⟨fs,h1,h2,h3⟩:=Vr (vs:=vs) fun v h=>hv v (.tail _ h)
  obtain ⟨a,o,xs,n,x,t,rfl,e1,e2,e3,e4⟩:=hv v (.head _)
  refine ⟨.int x t::fs,.cons e1 e2 e3 e4 h1,congrArg (·+1) h2,fun v hv=>?_⟩
  rcases List.mem_cons.mp hv with rfl | hv
  ·exact ⟨x,t,rfl⟩
  ·exact h3 v hv
theorem V1 {ys:List V} {its:List Value} (r:Yn ys its):∀ {is:List Nat},(∀ i∈is,i<ys.length)→Yn (is.map fun i=>ys.getD i .non) (is.map fun i=>its.getD i Value.none)
 | [],_ => .nil
 | i::is,h=>by
  refine .cons ?_ (V1 r fun i hi=>h i (.tail _ hi))
  have hi:=h i (.head _)
  obtain ⟨u,e,rv⟩:=r.get (List.getElem?_eq_getElem hi)
  show Ys (ys.getD i .non) (its.getD i Value.none)
  rw [List.getD_eq_getElem?_getD,List.getD_eq_getElem?_getD,e,List.getElem?_eq_getElem hi]
  exact rv
section
variable {X:Cx}
theorem WQ {K:PySem.W.Frag} (hK:X.K=K:=by rfl):Xn X (.builtin "sorted") (fun xs H Q=>∃ (l:Addr) (ys:List V) (ps:List (Int×Int)),xs=[.ref l]∧SqL K H l ys∧ys.length<64∧YC K H ys ps ∧
  ∀ l' ys' ps',H l'=none→ps'.Perm ps→ps'.Pairwise pLe→YC K H ys' ps'→Q (.ref l') (upd H l' (.lst ys'))):=by
 subst hK
 intro pins s σ H xs us Q I r h
 obtain ⟨l,ys,ps,rfl,hS,h64,⟨hlp,hps⟩,q⟩:=h
 obtain ⟨u,rfl,ru⟩:=XA r
 obtain rfl:u=Value.ref l:=ru
 obtain ⟨its,r',pl,hz⟩:=I.list hS
 have hlen:=r'.length
 have at':∀ i,i<its.length→∃ a o xs n x t y t',its.getD i Value.none = .ref a∧s.heap.get? a=some o∧o.cls = .type "tuple"∧o.data = .seq xs n∧xs=#[.int x t,.int y t']∧ps.getD i (0,0)=(x,y):=fun i hi=>by
  obtain ⟨u,e,rv⟩:=r'.get (List.getElem?_eq_getElem (show i<ys.length by omega))
  have ep:ps[i]?=some (ps[i]'(by omega)):=List.getElem?_eq_getElem _
  obtain ⟨a,ea,ht⟩:=hps i _ _ (List.getElem?_eq_getElem (show i<ys.length by omega)) ep
  rw [ea] at rv
  obtain rfl:u=Value.ref a:=rv
  obtain ⟨its2,r2,⟨o,e1,e2,n,e3⟩,_⟩:=I.tuple ht
  obtain ⟨u1,u2,rfl,⟨t,rfl⟩,⟨t',rfl⟩⟩:=Q2 r2
  refine ⟨a,o,_,n,_,t,_,t',?_,e1,e2,e3,rfl,?_⟩
  ·rw [List.getD_eq_getElem?_getD,e];rfl
  ·rw [List.getD_eq_getElem?_getD,ep];rfl
 refine Ycv (κ:=tuples' (Value.type "int" != Value.type "tuple")) (f:=fun i j=>pLt (ps.getD i (0,0)) (ps.getD j (0,0))) pl.isList (by omega) (Ycw ps _) (fun h2 h' k Q' hq=>?_) (fun h' k i j C hi hj hC=>?_) fun p hp hs=>?_
 ·obtain ⟨fs,f1,f2,f3⟩:=Vr (h:=h') (vs:=its) fun v hv=>by
   obtain ⟨i,hi,rfl⟩:=List.getElem_of_mem hv
   obtain ⟨a,o,xs,n,x,t,y,t',e0,e1,e2,e3,rfl,_⟩:=at' i hi
   refine ⟨a,o,_,n,x,t,?_,k _ _ e1,e2,e3,rfl⟩
   rw [List.getD_eq_getElem?_getD,List.getElem?_eq_getElem hi] at e0
   exact e0
  exact kat_kind (T:=Value.type "int") f1 (by omega) (fun v hv=>by obtain ⟨x,t,rfl⟩:=f3 v hv;exact Looks.of_pure rfl) (by decide) hq
 ·obtain ⟨a,o,xs,n,x,t,y,t',e0,e1,e2,e3,rfl,e4⟩:=at' i hi
  obtain ⟨a2,o2,xs2,n2,x2,t2,y2,t2',g0,g1,g2,g3,rfl,g4⟩:=at' j hj
  show wpAny (model X.prog X.w) _ (keyLt' (tuples' true) (its.getD i Value.none) (its.getD j Value.none)) C _ _
  rw [e0,g0]
  rw [e4,g4] at hC
  refine kat_lt (k _ _ e1) e3 (k _ _ g1) g3 ?_
  show KatLex _ _ _ true (decide (2<2)) C [(.int x t,.int x2 t2),(.int y t',.int y2 t2')] 0 _
  refine kat_cons (wpAny_eqBool_int (kat_go (fun c=>kat_yes (kat_cons (wpAny_eqBool_int (kat_go (fun c2=>kat_yes (kat_nil ?_)) fun c2=>kat_no (kat_one _ _ (PyProof.Rows.lt_int ?_)))))) fun c=>kat_no (oneLt_int ?_)))
  ·have c:=eq_of_beq c;have c2:=eq_of_beq c2
   rw [show pLt (x,y) (x2,y2)=false from decide_eq_false (by dsimp only;omega)] at hC
   exact hC
  ·have c:=eq_of_beq c;have c2:=beq_eq_false_iff_ne.mp c2
   rw [show pLt (x,y) (x2,y2)=decide (y<y2) from decide_eq_decide.mpr (by dsimp only;omega)] at hC
   exact hC
  ·have c:=beq_eq_false_iff_ne.mp c
   rw [show pLt (x,y) (x2,y2)=decide (x<x2) from decide_eq_decide.mpr (by dsimp only;omega)] at hC
   exact hC
 ·obtain ⟨e,he⟩:=sortedAll_at s.heap its (List.toArray (p.toList.map fun i=>its.getD i Value.none))
  have pt:p.toList.Perm (List.range its.length):=by
   have:=Array.perm_iff_toList_perm.mp hp
   simpa using this
  have hin:∀ i∈p.toList,i<ys.length:=fun i hi=>by
   have:=List.mem_range.mp (pt.mem_iff.mp hi)
   omega
  have hr:=V1 r' hin
  have hpl:p.toList.length=its.length:=by rw [pt.length_eq,List.length_range]
  refine ⟨.ref (s.heap.objs.size+1),_,I.laid (t':=s.toks) (o := .lst (p.toList.map fun i=>ys.getD i .non)) (fun b o e=>sortedAll_old e) (Nat.le_succ _) (show YN X.prog X.w _ _ _ (.lst _) from ⟨by rw [List.length_map,hpl];omega,_,e,hr,he⟩),rfl,q _ _ (p.toList.map fun i=>ps.getD i (0,0)) (I.hok.fresh (Nat.le_succ _)) ?_ ?_ ?_⟩
  ·refine (pt.map _).trans ?_
   have:(List.range its.length).map (fun i=>ps.getD i (0,0))=ps:=by
    refine List.ext_getElem (by simp;omega) fun i h1 h2=>?_
    simp [List.getD_eq_getElem?_getD,List.getElem?_eq_getElem h2]
   rw [this]
  ·rw [List.pairwise_map]
   refine List.pairwise_iff_getElem.mpr fun i j hi hj hij=>YcY ?_
   have:=hs i j (by omega) (by rw [← hpl];exact hj)
   have g:∀ m (hm:m<p.toList.length),p.getD m 0=p.toList[m]:=fun m hm=>by
    have:m<p.size:=by simpa using hm
    simp [Array.getD,this]
   rw [g i hi,g j hj] at this
   exact this
  ·refine ⟨by simp,fun i y p' h1 h2=>?_⟩
   rw [List.getElem?_map] at h1 h2
   cases e:p.toList[i]? with
   | none=>rw [e] at h1;cases h1
   | some m =>
    rw [e] at h1 h2
    have hm:=hin m (List.mem_of_getElem? e)
    have h1:ys.getD m .non=y:=Option.some.inj h1
    have h2:ps.getD m (0,0)=p':=Option.some.inj h2
    rw [List.getD_eq_getElem?_getD,List.getElem?_eq_getElem hm] at h1
    rw [List.getD_eq_getElem?_getD,List.getElem?_eq_getElem (show m<ps.length by omega)] at h2
    exact hps m y p' (by rw [List.getElem?_eq_getElem hm];exact congrArg some h1) (by rw [List.getElem?_eq_getElem (show m<ps.length by omega)];exact congrArg some h2)
end
end L2
set_option maxHeartbeats 4000000
namespace L2
open PySem PySem.Spec PyProof.Rows
mutual
theorem LeR.order:∀ {d e:PyData} {b:Bool},LeR d e b→KD d→KD e→(b=true↔¬ KLt e d)
 | _,_,_,.int i j,_,_=>by
  rw [decide_eq_true_eq]
  exact ⟨fun h z=>by cases z;omega,fun h=>by rcases Int.lt_or_le j i with c | c;exact (h (.int c)).elim;exact c⟩
 | _,_,_,.tup h,.tup k,.tup l=>by
  rw [h.order k l]
  exact ⟨fun h z=>by cases z with | tup z=>exact h z,fun h z=>h (.tup z)⟩
theorem LeA.order:∀ {ds es:List PyData} {b:Bool},LeA ds es b→KDs ds→KDs es→(b=true↔¬ KLs es ds)
 | _,_,_,.nn,_,_=>⟨(fun _ h=>by cases h),(fun _=>rfl)⟩
 | _,_,_,.nc,_,_=>⟨(fun _ h=>by cases h),fun _=>rfl⟩
 | _,_,_,.cn,_,_=>⟨(fun h=>by cases h),(fun h=>(h .nil).elim)⟩
 | _,_,_,.eq he h,.cons k ks,.cons l ls=>by
  have e:=(k.eqv l).mp he
  subst e
  rw [h.order ks ls]
  refine ⟨fun h z=>?_,fun h z=>h (.there z)⟩
  cases z with
  | here z=>exact z.irr rfl
  | there z=>exact h z
 | _,_,_,.ne he h,.cons k ks,.cons l ls=>by
  have e:_≠_:=fun z=>Bool.eq_false_iff.mp he ((k.eqv l).mpr z)
  rw [h.order k l]
  refine ⟨fun h z=>?_,fun h z=>h (.here z)⟩
  cases z with
  | here z=>exact h z
  | there z=>exact e rfl
end
mutual
theorem Sim.le:∀ {d e:PyData},Sim d e→KD d→KD e→∃ b,LeR d e b
 | _,_,.int i j,_,_=>⟨_,.int i j⟩
 | _,_,.tup h,.tup k,.tup l=>by
  obtain ⟨b,hb⟩:=h.le k l
  exact ⟨b,.tup hb⟩
theorem Sims.le:∀ {ds es:List PyData},Sims ds es→KDs ds→KDs es→∃ b,LeA ds es b
 | _,[],.nil,_,_=>⟨_,.nn⟩
 | _,_::_,.nil,_,_=>⟨_,.nc⟩
 | [],_,.end_,_,_=>⟨_,.nn⟩
 | _::_,_,.end_,_,_=>⟨_,.cn⟩
 | _,_,.cons h hs,.cons k ks,.cons l ls=>by
  rcases V0 k l with ⟨a,c⟩ | ⟨a,c⟩
  ·obtain ⟨b,hb⟩:=(hs c).le ks ls
   exact ⟨b,.eq a hb⟩
  ·obtain ⟨b,hb⟩:=h.le k l
   exact ⟨b,.ne a hb⟩
end
theorem Sim.answerLe {d e:PyData} (h:Sim d e) (hd:KD d) (he:KD e):∃ b,LeR d e b∧(b=true↔¬ KLt e d):=by
 obtain ⟨b,hb⟩:=h.le hd he
 exact ⟨b,hb,hb.order hd he⟩
section
variable {X:Cx}
theorem Ya1 (hu:X.A.units+64<cLine):OpR X (compareOp .NotIn) (fun x y H Q=>∃ (p:Addr) (ys:List V) (ps:List (Int×Int)) (a:Addr) (q:Int×Int),x = .ref a∧y = .ref p∧SqT X.K H a [.int q.1,.int q.2]∧SqL X.K H p ys∧YC X.K H ys ps∧Q (.bl (!decide (q∈ps))) H):=by
 intro pins s σ H x y v u Q I rx ry h
 obtain ⟨p,ys,ps,a,qq,rfl,rfl,ht,hS,⟨hlp,hps⟩,q⟩:=h
 obtain rfl:v=Value.ref a:=rx
 obtain rfl:u=Value.ref p:=ry
 obtain ⟨its,r',pl,hz⟩:=I.list hS
 have hlen:=r'.length
 have dq:Den X.K H (.ref a) (.tuple [.int qq.1,.int qq.2]) := .tup ht (.cons (.int _) (.cons (.int _) .nil))
 obtain ⟨bs,rb⟩:=dq.reads I (show Ys (.ref a) (.ref a) from rfl)
 have at':∀ i,i<its.length→∃ a o n x t y t',its[i]?=some (.ref a)∧s.heap.get? a=some o∧o.data = .seq #[.int x t,.int y t'] n∧ps[i]?=some (x,y)∧Den X.K H (.ref a) (.tuple [.int x,.int y]):=fun i hi=>by
  obtain ⟨u,e,rv⟩:=r'.get (List.getElem?_eq_getElem (show i<ys.length by omega))
  have ep:ps[i]?=some (ps[i]'(by omega)):=List.getElem?_eq_getElem _
  obtain ⟨a,ea,ht⟩:=hps i _ _ (List.getElem?_eq_getElem (show i<ys.length by omega)) ep
  rw [ea] at rv
  obtain rfl:u=Value.ref a:=rv
  obtain ⟨its2,r2,⟨o,e1,e2,n,e3⟩,_⟩:=I.tuple ht
  obtain ⟨u1,u2,rfl,⟨t,rfl⟩,⟨t',rfl⟩⟩:=Q2 r2
  exact ⟨a,o,n,_,t,_,t',e,e1,e3,ep,.tup ht (.cons (.int _) (.cons (.int _) .nil))⟩
 have hg:∃ g:Value→Bool,∀ (i:Nat) u p',its[i]?=some u→ps[i]?=some p'→g u=decide (p'=qq):=by
  classical
  refine ⟨fun u=>decide (∃ a o n t t',u = .ref a∧s.heap.get? a=some o∧o.data = .seq #[.int qq.1 t,.int qq.2 t'] n),fun i u p' e1 e2=>?_⟩
  obtain ⟨a,o,n,x,t,y,t',g1,g2,g3,g4,_⟩:=at' i (List.getElem?_eq_some_iff.mp e1).1
  rw [g1] at e1
  rw [g4] at e2
  cases e1
  cases e2
  refine decide_eq_decide.mpr ⟨fun ⟨a',o',n',t2,t2',h1,h2,h3⟩=>?_,fun h=>?_⟩
  ·cases h1
   rw [g2] at h2
   cases h2
   rw [g3] at h3
   injection h3 with h3
   simp only [Array.mk.injEq,List.cons.injEq,Value.int.injEq] at h3
   rw [h3.1.1,h3.2.1.1]
  ·subst h
   exact ⟨a,o,n,t,t',rfl,g2,g3⟩
 obtain ⟨g,hg⟩:=hg
 refine SeqAt.notIn_listAt g pl.isList (fun w hw=>?_) ⟨.bl _,H,I,rfl,?_⟩
 ·have hw:w∈its:=by simpa using hw
  obtain ⟨i,hi,rfl⟩:=List.getElem_of_mem hw
  obtain ⟨a',o,n,x,t,y,t',g1,g2,g3,g4,g5⟩:=at' i hi
  have e:its[i] = .ref a':=by rw [List.getElem?_eq_getElem hi] at g1;exact Option.some.inj g1
  rw [hg i its[i] (x,y) (List.getElem?_eq_getElem hi) g4]
  obtain ⟨as,ra⟩:=g5.reads I (show Ys (.ref a') (.ref a') from rfl)
  rw [e]
  have:=SeqAt.eqAt_reads _ _ X.A.in1 s _ _ _ _ ra rb g5.lay dq.lay (by simp only [PyData.depth,PyData.depthAll];have:X.A.in1.units=X.A.units+1:=rfl;omega)
  rw [show PyData.eqv (.tuple [.int x,.int y]) (.tuple [.int qq.1,.int qq.2])=decide ((x,y)=qq) from ?_] at this
  ·exact this
  ·obtain ⟨q1,q2⟩:=qq
   simp only [PyData.eqv,PyData.eqvAll,Bool.and_true]
   rw [Bool.eq_iff_iff]
   simp
 ·have:its.toArray.any g=decide (qq∈ps):=by
   rw [Bool.eq_iff_iff,decide_eq_true_eq]
   simp only [List.any_toArray,List.any_eq_true]
   constructor
   ·rintro ⟨u,hu,gu⟩
    obtain ⟨i,hi,rfl⟩:=List.getElem_of_mem hu
    obtain ⟨a',o,n,x,t,y,t',g1,g2,g3,g4,g5⟩:=at' i hi
    rw [hg i its[i] (x,y) (List.getElem?_eq_getElem hi) g4] at gu
    rw [← of_decide_eq_true gu]
    exact List.mem_of_getElem? g4
   ·intro hm
    obtain ⟨i,hi,e⟩:=List.getElem_of_mem hm
    have hi':i<its.length:=by omega
    refine ⟨its[i],List.getElem_mem _,?_⟩
    rw [hg i its[i] qq (List.getElem?_eq_getElem hi') (by rw [List.getElem?_eq_getElem hi,e])]
    exact decide_eq_true rfl
  rw [this]
  exact q
end
section
variable {src:List (Option Nat)} {te:TE} {σ:St} {Q:VK}
theorem Ycx {K:PySem.W.Frag} {G1 G2:Hp→List V→Prop} {xs ys:List V} {H1:Hp} {D:Addr} (zs:List V) (g1:∀ H',Yc H1 H'→G1 H' xs) (g2:∀ H',Yc H1 H'→G2 H' ys) (hD:H1 D=none) (hl:zs.length=min xs.length ys.length) (hlen:xs.length≤100000)
  (step:∀ (i:Nat) x y z H',xs[i]?=some x→ys[i]?=some y→zs[i]?=some z→Yc H1 H'→∀ R:VK,(∀ H'',Yc H' H''→R z H'')→te (some x::some y::Yz src σ) H' R)
  (fin:∀ H',Yc H1 H'→H' D=some (.lst zs)→Q (.ref D) H'):LC (none::none::src) (Itz G1 G2) (XY K 2 (YS (Yv 0) (YS (Yv 1) XX))) Xt te σ H1 Q D:=by
 have h6:100000<sizeLine:=by decide
 refine YaM (J:=Itz G1 G2) (n:=min xs.length ys.length) (P:=fun H'=>Yc H1 H') (fun i H' sm hi=>⟨xs,ys,xs[i]'(by omega),ys[i]'(by omega),g1 _ sm,g2 _ sm,List.getElem?_eq_getElem _,List.getElem?_eq_getElem (by omega)⟩) (fun H' sm=>⟨xs,ys,g1 _ sm,g2 _ sm,by omega⟩)
  (fun i ws σ' H'=>ws=zs.take i∧(∃ o o',σ'=o::o'::Yz src σ)∧Yc H1 H'∧H' D=some (.lst ws)) ⟨by simp,⟨none,none,rfl⟩,.upd_new hD _,Yd⟩ (fun i ws σ' H' p=>⟨p.2.2.1,p.2.2.2⟩) (W3 K 0 1) ?_ ?_
 ·rintro i ws σ' H' hi ⟨rfl,⟨o,o',rfl⟩,sm,hd⟩ x H3 ⟨T,rfl,hT,heq⟩
  have hx:xs[i]?=some (xs[i]'(by omega)):=List.getElem?_eq_getElem _
  have hy:ys[i]?=some (ys[i]'(by omega)):=List.getElem?_eq_getElem _
  have hz:zs[i]?=some (zs[i]'(by omega)):=List.getElem?_eq_getElem _
  have e3:=heq xs ys _ _ (g1 _ sm) (g2 _ sm) hx hy
  subst e3
  have s3:Yc H' (upd H' T (.tup [xs[i]'(by omega),ys[i]'(by omega)])) := .upd_new hT _
  refine ⟨T,_,rfl,SqT.of Yd,rfl,_,_,rfl,_,_,rfl,rfl,?_⟩
  show te (some (xs[i]'(by omega))::some (ys[i]'(by omega))::Yz src σ) _ _
  refine step i _ _ _ _ hx hy hz (sm.trans s3) _ fun H'' s2=>⟨s2 _ _ (s3 _ _ hd),?_,(YZ hz).symm,⟨_,_,rfl⟩,.upd_over hD ((sm.trans s3).trans s2) _,Yd⟩
  rw [List.length_take];omega
 ·rintro ws σ' H' ⟨rfl,_,sm,hd⟩
  rw [← hl,List.take_length] at hd
  exact fin H' sm hd
theorem V2 {K:PySem.W.Frag} {H:Hp} {ta:TA} {xs ys:List V} (zs:List V) (ha:∀ R:List V→Hp→Prop,(∀ a b H1,Yc H H1→SqL K H1 a xs→SqL K H1 b ys→R [.ref a,.ref b] H1)→ta σ H R) (hl:zs.length=min xs.length ys.length) (hlen:xs.length≤100000)
  (step:∀ (i:Nat) x y z H',xs[i]?=some x→ys[i]?=some y→zs[i]?=some z→Yc H H'→∀ R:VK,(∀ H'',Yc H' H''→R z H'')→te (some x::some y::Yz src σ) H' R)
  (fin:∀ D H',H D=none→Yc H H'→H' D=some (.lst zs)→Q (.ref D) H'):tLC (none::none::src) (Q7 K ta) (XY K 2 (YS (Yv 0) (YS (Yv 1) XX))) Xt te σ H Q :=
 ha _ fun a b H1 s1 h1 h2=>⟨a,b,xs,ys,rfl,h1,h2,fun D hD=>Ycx zs (fun H' sm=>sm.seq h1) (fun H' sm=>sm.seq h2) hD hl hlen (fun i x y z H' e1 e2 e3 sm=>step i x y z H' e1 e2 e3 (s1.trans sm)) fun H' sm=>fin D H' (s1.free hD) (s1.trans sm)⟩
end
end L2
set_option maxHeartbeats 8000000
namespace KW
open PySem L2
def top (i:Nat):Stmt:=PySem.Challenge.pw_countgen_k25_lists_in_order_compared.main.body.getD i (.Pass ⟨0,0,0,0⟩)
abbrev Z06:Stmt:=top 6
theorem Z0N:FnScope ["book","name","pair"] ["book","name"] (Yi Z06):=⟨rfl,rfl,rfl,by decide +kernel,rfl,by decide +kernel,by decide +kernel⟩
abbrev Za:Stmt:=top 8
theorem Z0x:FnScope ["thing"] ["thing"] (Yi Za):=⟨rfl,rfl,rfl,by decide +kernel,rfl,by decide +kernel,by decide +kernel⟩
abbrev Zp:Stmt:=top 9
theorem Zj:FnScope ["branches","mark","place","branch"] ["branches","mark"] (Yi Zp):=⟨rfl,rfl,rfl,by decide +kernel,rfl,by decide +kernel,by decide +kernel⟩
abbrev Z07:Stmt:=top 10
theorem Qj:FnScope ["branches","value"] ["branches","value"] (Yi Z07):=⟨rfl,rfl,rfl,by decide +kernel,rfl,by decide +kernel,by decide +kernel⟩
abbrev Z08:Stmt:=top 11
theorem Z0O:FnScope ["shape","value","kind"] ["shape","value"] (Yi Z08):=⟨rfl,rfl,rfl,by decide +kernel,rfl,by decide +kernel,by decide +kernel⟩
abbrev Zk:Stmt:=top 12
theorem ZH:FnScope ["book","shape","value","kind"] ["book","shape","value"] (Yi Zk):=⟨rfl,rfl,rfl,by decide +kernel,rfl,by decide +kernel,by decide +kernel⟩
abbrev Zq:Stmt:=top 13
theorem Z12:FnScope ["keys"] ["keys"] (Yi Zq):=⟨rfl,rfl,rfl,by decide +kernel,rfl,by decide +kernel,by decide +kernel⟩
abbrev ZI:Stmt:=top 14
theorem Ui:FnScope ["keys"] ["keys"] (Yi ZI):=⟨rfl,rfl,rfl,by decide +kernel,rfl,by decide +kernel,by decide +kernel⟩
abbrev ZJ:Stmt:=top 15
theorem Uj:FnScope ["keys"] ["keys"] (Yi ZJ):=⟨rfl,rfl,rfl,by decide +kernel,rfl,by decide +kernel,by decide +kernel⟩
abbrev ZQ:Stmt:=top 16
theorem UU:FnScope ["keys"] ["keys"] (Yi ZQ):=⟨rfl,rfl,rfl,by decide +kernel,rfl,by decide +kernel,by decide +kernel⟩
abbrev Ze:Stmt:=top 17
theorem Zb:FnScope ["keys","groups","key"] ["keys"] (Yi Ze):=⟨rfl,rfl,rfl,by decide +kernel,rfl,by decide +kernel,by decide +kernel⟩
abbrev ZR:Stmt:=top 18
theorem ZK:FnScope ["size","keys","told","group"] ["size","keys"] (Yi ZR):=⟨rfl,rfl,rfl,by decide +kernel,rfl,by decide +kernel,by decide +kernel⟩
abbrev Z09:Stmt:=top 19
theorem Zw:FnScope ["shape","keys","kind","size","rises"] ["shape","keys"] (Yi Z09):=⟨rfl,rfl,rfl,by decide +kernel,rfl,by decide +kernel,by decide +kernel⟩
abbrev Z0a:Stmt:=top 20
theorem Z0P:FnScope ["shape","value","keys","kind"] ["shape","value","keys"] (Yi Z0a):=⟨rfl,rfl,rfl,by decide +kernel,rfl,by decide +kernel,by decide +kernel⟩
abbrev Z0y:Stmt:=top 21
theorem Zl:FnScope ["book","shape","value","keys","part","thing","key"] ["book","shape","value"] (Yi Z0y):=⟨rfl,rfl,rfl,by decide +kernel,rfl,by decide +kernel,by decide +kernel⟩
abbrev Zf:Stmt:=top 23
theorem ZD:FnScope ["book","shape","value","key"] ["book","shape","value"] (Yi Zf):=⟨rfl,rfl,rfl,by decide +kernel,rfl,by decide +kernel,by decide +kernel⟩
abbrev Z0b:Stmt:=top 24
theorem ZS:FnScope ["book","shape","one","other","first","second"] ["book","shape","one","other"] (Yi Z0b):=⟨rfl,rfl,rfl,by decide +kernel,rfl,by decide +kernel,by decide +kernel⟩
abbrev ZT:Stmt:=top 26
theorem UV:FnScope ["_law_found"] ["_law_found"] (Yi ZT):=⟨rfl,rfl,rfl,by decide +kernel,rfl,by decide +kernel,by decide +kernel⟩
abbrev Zz:Stmt:=top 27
theorem Z17:FnScope ["_law_script","_law_k"] ["_law_script","_law_k"] (Yi Zz):=⟨rfl,rfl,rfl,by decide +kernel,rfl,by decide +kernel,by decide +kernel⟩
abbrev Z0c:Stmt:=top 28
theorem Zx:FnScope ["_law_script","_law_cell","_law_low","_law_signs"] ["_law_script"] (Yi Z0c):=⟨rfl,rfl,rfl,by decide +kernel,rfl,by decide +kernel,by decide +kernel⟩
abbrev Z0d:Stmt:=top 29
theorem Qk:FnScope ["_law_part_here","_law_size","_law_cell"] ["_law_part_here","_law_size","_law_cell"] (Yi Z0d):=⟨rfl,rfl,rfl,by decide +kernel,rfl,by decide +kernel,by decide +kernel⟩
abbrev ZU:Stmt:=top 30
theorem Z3:FnScope ["_law_part_here","_law_spot_here","_law_size","_law_place","_law_found","_law_k"] ["_law_part_here","_law_spot_here"] (Yi ZU):=⟨rfl,rfl,rfl,by decide +kernel,rfl,by decide +kernel,by decide +kernel⟩
abbrev ZV:Stmt:=top 31
theorem Z2:FnScope ["_law_part_here","_law_script","_law_one","_law_other","_law_cell","_law_spot_here","_law_more","_law_k"] ["_law_part_here","_law_script"] (Yi ZV):=⟨rfl,rfl,rfl,by decide +kernel,rfl,by decide +kernel,by decide +kernel⟩
abbrev Z0e:Stmt:=top 32
theorem ZW:FnScope ["_law_spots_here","_law_found","_law_spot_here"] ["_law_spots_here"] (Yi Z0e):=⟨rfl,rfl,rfl,by decide +kernel,rfl,by decide +kernel,by decide +kernel⟩
abbrev Z0z:Stmt:=top 33
theorem Z4:FnScope ["_law_one","_law_other","_law_near","_law_far","_law_size","_law_here","_law_there","_law_x","_law_y"] ["_law_one","_law_other"] (Yi Z0z):=⟨rfl,rfl,rfl,by decide +kernel,rfl,by decide +kernel,by decide +kernel⟩
abbrev ZX:Stmt:=top 34
theorem ZL:FnScope ["_law_shape","_law_one","_law_other","_law_due_here","_law_handed","_law_found"] ["_law_shape","_law_one","_law_other","_law_due_here"] (Yi ZX):=⟨rfl,rfl,rfl,by decide +kernel,rfl,by decide +kernel,by decide +kernel⟩
abbrev Us:Stmt:=top 35
theorem Xj:FnScope ["_law_script","_law_part_here","_law_one","_law_other","_law_shape","_law_due_here","_law_near","_law_far"] ["_law_script"] (Yi Us):=⟨rfl,rfl,rfl,by decide +kernel,rfl,by decide +kernel,by decide +kernel⟩
variable {g:Gx}
local macro_rules | `(tactic| walk_at "gn")=>`(tactic| simp only [Yv,List.set_cons_zero,List.set_cons_succ])
local macro_rules | `(tactic| walk_at "rd")=>`(tactic| simp (config:={ failIfUnchanged:=false,maxSteps:=10000000 }) only [L2.XO,YcO,nox_K,List.map_cons,List.map_nil,List.length_cons,List.length_nil,List.cons_append,List.nil_append,List.replicate_succ,List.replicate_zero,Nat.zero_add,Nat.reduceAdd,Nat.reduceSub,Nat.sub_self,Xf,tIfS,YbP,tOp,tC,tVar,rI0,rI,rU,tUn,tRet,tRetN,YbM,YbL,YcI,tCont,QW,Yv,XX,YS,YbQ,tNil,tCB,Q3,tTry,YcU,YcT,sFld,tFld,tMake,tMeth,Ends.gone,Ybv,tB,tAnd,tOr,tNot,YbJ,tOrV,YbK,tIf,Yaz,QA,YbR,tSl,Yaq,tAug,rIxL,rIxT,rSlL,tLst,tTup,XY,tRev,tLZ,YbW,YcQ,YbU,YbV,rIn,tBM,tBM0,QB,Ybk,rEq,rNe,Ycg,Ych,rCat,rSetL,gSub,ipI,Yz,List.getD_cons_zero,List.getD_cons_succ,decide_true,not_true_eq_false,not_false_eq_true,
 exists_eq_left',exists_eq_left,exists_eq',exists_eq,exists_and_left,and_assoc,Option.some.injEq,V.int.injEq,V.bl.injEq,V.ref.injEq,V.str.injEq,List.getElem?_cons_zero,List.getElem?_cons_succ,List.set_cons_zero,List.set_cons_succ,List.cons.injEq,and_true,true_and,List.append_nil,decide_eq_true_eq,Bool.not_eq_true',decide_eq_false_iff_not,Bool.not_not,Bool.not_true,Bool.not_false,Bool.true_eq_false,Bool.false_eq_true,if_true,if_false,ite_true,ite_false])
theorem cm {i j:Int} {m n:Nat} (h1:i.natAbs<2^m) (h2:j.natAbs<2^n) (h:m+n≤100000000:=by decide):Ur i j:=⟨m,n,h1,h2,h⟩
theorem cpow {i j:Int} (h:0≤j∧j≤1000000∧i.natAbs<2^64:=by decide):CPow i j:=h
theorem few {n:Nat} (h:n≤100000):n≤sizeLine:=Nat.le_trans h (by decide)
def Z0A:Sp:=fun vs H Q _=>∃ i:Int,vs=[.int i]∧Q (.bl true) H
def Z9 (K:PySem.W.Frag):Sp:=fun vs H Q _=>∃ (a:Addr) (ns:List Int) (k:Nat),vs=[.ref a,.int k]∧SqL K H a (ns.map V.int)∧ns.length≤63∧Q (.int (ns.getD k 0)) H
theorem Ycy {ns:List Int} {k:Nat} (h:k<ns.length):atI (ns.map V.int) (k:Int)=some (.int (ns.getD k 0)):=X5 (by rw [List.getElem?_map,List.getElem?_eq_getElem h];simp [h])
theorem UW  (R:g.Raw "_law_whole" "_law_whole" ZT ["_law_found"]) (b_bool:g.mg "bool"=none) (b_int:g.mg "int"=none) (Z0:g.mg "isinstance"=none):g.Fn (1) "_law_whole" ["_law_found"] (Z0A):=by
 refine R.fn UV (fun vs H Q E h=>by obtain ⟨i,rfl,q⟩:=h;rfl) fun f_ cdv A outer s H vs Q E hr h=>?_
 obtain ⟨i,rfl,q⟩:=h
 refine ⟨_,(@Yg _ _ _ (@Yh _ _ _ _ (@Xy _ _ _ _ _ _ _ (@YB _ _ _ _ _ _ _ _ _ _ Z0 YR (@Ya _ _ _ _ _ (pv 0) (@Ya _ _ _ _ _ (@XR _ _ _ _ ("int") b_int (by decide +kernel) (by rfl) (by rfl) (by decide) (by decide)) Yb (by rfl)) (by rfl)) (by decide +kernel) (by rfl) (by rfl) (by decide) (by decide) (by rfl) (by rfl)) (@XU _ _ _ _ _ (@Yap _ _ _ _ (@YB _ _ _ _ _ _ _ _ _ _ Z0 YR (@Ya _ _ _ _ _ (pv 0) (@Ya _ _ _ _ _ (@XR _ _ _ _ ("bool") b_bool (by decide +kernel) (by rfl) (by rfl) (by decide) (by decide)) Yb (by rfl)) (by rfl)) (by decide +kernel) (by rfl) (by rfl) (by decide) (by decide) (by rfl) (by rfl))))))),?_⟩
 walk_at "rd"
 exact ⟨_,rfl,_,.int _,true,rfl,Wi ⟨_,rfl,_,.int _,false,rfl,q⟩⟩
theorem Z18  (R:g.Raw "_law_cell_at" "_law_cell_at" Zz ["_law_script","_law_k"]) (b_len:g.mg "len"=none):g.Fn (1) "_law_cell_at" ["_law_script","_law_k"] (Z9 g.K):=by
 refine R.fn Z17 (fun vs H Q E h=>by obtain ⟨a,ns,k,rfl,hS,hl,q⟩:=h;rfl) fun f_ cdv A outer s H vs Q E hr h=>?_
 obtain ⟨a,ns,k,rfl,hS,hl,q⟩:=h
 refine ⟨_,(@Yf _ _ _ _ _ (@YD _ _ _ _ _ _ _ _ (@Yo _ _ _ _ _ _ _ _ Vh (pv 1) (@YB _ _ _ _ _ _ _ _ _ _ b_len Yu (@Ya _ _ _ _ _ (pv 0) Yb (by rfl)) (by decide +kernel) (by rfl) (by rfl) (by decide) (by decide) (by rfl) (by rfl)) (Yj _)) (@Yg _ _ _ (@Yh _ _ _ _ (@Yk _ _ _ _ _ _ _ YO (pv 0) (pv 1) (fun _ _=>rfl)))) Yq) (@Yg _ _ _ (@Yh _ _ _ _ Ye))),?_⟩
 walk_at "rd"
 refine ⟨_,.inl hS,?_⟩
 refine Y7 (fun c=>?_) (fun c=>?_)
 ·have c':=c
  rw [List.length_map] at c'
  exact ⟨_,hS,_,Ycy (by omega),q⟩
 ·have c':=c
  rw [List.length_map] at c'
  rw [show ns.getD k 0=0 by simp [show ns.length≤k by omega]] at q
  exact q
mutual
inductive Vd (H:Hp):V→PyData→Prop
 | non:Vd H .non .none
 | bl (b:Bool):Vd H (.bl b) (.bool b)
 | int (i:Int):Vd H (.int i) (.int i)
 | str (l:List Nat) (h:PyData.strOk (S l)=true) (hl:l.length≤1000):Vd H (.str (S l)) (.str (S l))
 | lst {a:Addr} {vs:List V} {ds:List PyData}:H a=some (.lst vs)→vs.length≤1000→Vds H vs ds→Vd H (.ref a) (.list ds)
 | tup {a:Addr} {vs:List V} {ds:List PyData}:H a=some (.tup vs)→vs.length≤1000→Vds H vs ds→Vd H (.ref a) (.tuple ds)
inductive Vds (H:Hp):List V→List PyData→Prop
 | nil:Vds H [] []
 | cons {v:V} {d:PyData} {vs:List V} {ds:List PyData}:Vd H v d→Vds H vs ds→Vds H (v::vs) (d::ds)
end
mutual
theorem Vd.keep {H H':Hp} (e:Yc H H'):∀ {v:V} {d:PyData},Vd H v d→Vd H' v d
 | _,_,.non => .non
 | _,_,.bl b => .bl b
 | _,_,.int i => .int i
 | _,_,.str x h hl => .str x h hl
 | _,_,.lst h hn hs => .lst (e _ _ h) hn (hs.keep e)
 | _,_,.tup h hn hs => .tup (e _ _ h) hn (hs.keep e)
theorem Vds.keep {H H':Hp} (e:Yc H H'):∀ {vs:List V} {ds:List PyData},Vds H vs ds→Vds H' vs ds
 | _,_,.nil => .nil
 | _,_,.cons h hs => .cons (h.keep e) (hs.keep e)
end
mutual
theorem Vd.den {K:PySem.W.Frag} {H:Hp}:∀ {v:V} {d:PyData},Vd H v d→Den K H v d
 | _,_,.non => .non
 | _,_,.bl b => .bl b
 | _,_,.int i => .int i
 | _,_,.str x h hl => .str _ h
 | _,_,.lst h hn hs => .lst (SqL.of h) hs.den
 | _,_,.tup h hn hs => .tup (SqT.of h) hs.den
theorem Vds.den {K:PySem.W.Frag} {H:Hp}:∀ {vs:List V} {ds:List PyData},Vds H vs ds→Dens K H vs ds
 | _,_,.nil => .nil
 | _,_,.cons h hs => .cons h.den hs.den
end
theorem Vds.length {H:Hp}:∀ {vs:List V} {ds:List PyData},Vds H vs ds→vs.length=ds.length
 | _,_,.nil=>rfl
 | _,_,.cons _ hs=>congrArg (·+1) hs.length
theorem Vds.at {H:Hp}:∀ {vs:List V} {ds:List PyData} {i:Nat} {v:V},Vds H vs ds→vs[i]?=some v→∃ d,ds[i]?=some d∧Vd H v d
 | _,_,0,v,.cons a _,h=>by
  have:_=v:=Option.some.inj h
  subst this
  exact ⟨_,rfl,a⟩
 | _,_,i+1,v,.cons _ b,h=>b.at (i:=i) h
theorem Vds.append {H:Hp} {vs':List V} {ds':List PyData}:∀ {vs:List V} {ds:List PyData},Vds H vs ds→Vds H vs' ds'→Vds H (vs++vs') (ds++ds')
 | _,_,.nil,h=>h
 | _,_,.cons a b,h => .cons a (b.append h)
theorem Vds.take {H:Hp}:∀ {vs:List V} {ds:List PyData} (n:Nat),Vds H vs ds→Vds H (vs.take n) (ds.take n)
 | _,_,0,_=>by simp;exact .nil
 | _,_,n+1,.nil=>by simp;exact .nil
 | _,_,n+1,.cons a b => .cons a (b.take n)
def tn:PyData→String
 | .none=>"NoneType"
 | .bool _=>"bool"
 | .int _=>"int"
 | .str _=>"str"
 | .list _=>"list"
 | .tuple _=>"tuple"
 | _=>""
theorem Vd.ty {K:PySem.W.Frag} {H:Hp} {v:V} {d:PyData} (h:Vd H v d):TyOf K H v (.type (tn d)):=by
 cases h with
 | non=>exact .non
 | bl b=>exact .bl b
 | int i=>exact .int i
 | str l h hl=>exact .str _
 | lst h=>exact .lst h
 | tup h=>exact .tup h
inductive LK
 | many
 | rising
 | unlike
def LK.nm:LK→Str
 | .many=>"many"
 | .rising=>"rising"
 | .unlike=>"unlike"
inductive Sh
 | whole (lo hi:Int)
 | text (signs:List Nat)
 | row (ps:List Sh)
 | lst (k:LK) (p:Sh)
 | alike (p:Sh) (n:Nat)
 | pick (ms:List (List Nat)) (ps:List Sh)
 | use (nm:List Nat)
def Brs (K:PySem.W.Frag) (H:Hp) (as:List Addr) (ms:List (List Nat)) (vs:List V):Prop:=as.length=ms.length∧vs.length=ms.length∧∀ (j:Nat) a m v,as[j]?=some a→ms[j]?=some m→vs[j]?=some v→SqT K H a [.str (S m),v]
theorem Brs.keep {K:PySem.W.Frag} {H H':Hp} (e:Yc H H') {as:List Addr} {ms:List (List Nat)} {vs:List V} (h:Brs K H as ms vs):Brs K H' as ms vs:=⟨h.1,h.2.1,fun j a m v h1 h2 h3=>e.tup (h.2.2 j a m v h1 h2 h3)⟩
mutual
inductive ShAt (K:PySem.W.Frag) (H:Hp):V→Sh→Prop
 | whole {a:Addr} {lo hi:Int}:SqT K H a [.str "whole",.int lo,.int hi]→ShAt K H (.ref a) (.whole lo hi)
 | text {a:Addr} {signs:List Nat}:SqT K H a [.str "text",.str (S signs)]→signs.length≤1000→ShAt K H (.ref a) (.text signs)
 | row {a b:Addr} {vs:List V} {ps:List Sh}:SqT K H a [.str "row",.ref b]→SqT K H b vs→ShAts K H vs ps→vs.length≤1000→ShAt K H (.ref a) (.row ps)
 | lst {a:Addr} {v:V} {p:Sh} (k:LK):SqT K H a [.str k.nm,v]→ShAt K H v p→ShAt K H (.ref a) (.lst k p)
 | alike {a:Addr} {v:V} {p:Sh} (n:Nat):SqT K H a [.str "alike",v,.int n]→ShAt K H v p→ShAt K H (.ref a) (.alike p n)
 | pick {a b:Addr} {as:List Addr} {ms:List (List Nat)} {vs:List V} {ps:List Sh}:SqT K H a [.str "pick",.ref b]→SqT K H b (as.map V.ref)→Brs K H as ms vs→ShAts K H vs ps→as.length≤1000→ShAt K H (.ref a) (.pick ms ps)
 | use {a:Addr} {nm:List Nat}:SqT K H a [.str "use",.str (S nm)]→ShAt K H (.ref a) (.use nm)
inductive ShAts (K:PySem.W.Frag) (H:Hp):List V→List Sh→Prop
 | nil:ShAts K H [] []
 | cons {v:V} {p:Sh} {vs:List V} {ps:List Sh}:ShAt K H v p→ShAts K H vs ps→ShAts K H (v::vs) (p::ps)
end
mutual
theorem ShAt.keep {K:PySem.W.Frag} {H H':Hp} (e:Yc H H'):∀ {v:V} {d:Sh},ShAt K H v d→ShAt K H' v d
 | _,_,.whole h => .whole (e.tup h)
 | _,_,.text h hl => .text (e.tup h) hl
 | _,_,.row h h2 hs hl => .row (e.tup h) (e.tup h2) (hs.keep e) hl
 | _,_,.lst k h h2 => .lst k (e.tup h) (h2.keep e)
 | _,_,.alike n h h2 => .alike n (e.tup h) (h2.keep e)
 | _,_,.pick h h2 hb hs hl => .pick (e.tup h) (e.tup h2) (hb.keep e) (hs.keep e) hl
 | _,_,.use h => .use (e.tup h)
theorem ShAts.keep {K:PySem.W.Frag} {H H':Hp} (e:Yc H H'):∀ {vs:List V} {ds:List Sh},ShAts K H vs ds→ShAts K H' vs ds
 | _,_,.nil => .nil
 | _,_,.cons h hs => .cons (h.keep e) (hs.keep e)
end
theorem ShAts.length {K:PySem.W.Frag} {H:Hp}:∀ {vs:List V} {ds:List Sh},ShAts K H vs ds→vs.length=ds.length
 | _,_,.nil=>rfl
 | _,_,.cons _ hs=>congrArg (·+1) hs.length
theorem ShAts.at {K:PySem.W.Frag} {H:Hp}:∀ {vs:List V} {ds:List Sh} {i:Nat} {v:V},ShAts K H vs ds→vs[i]?=some v→∃ d,ds[i]?=some d∧ShAt K H v d
 | _,_,0,v,.cons a _,h=>by
  have:_=v:=Option.some.inj h
  subst this
  exact ⟨_,rfl,a⟩
 | _,_,i+1,v,.cons _ b,h=>b.at (i:=i) h
abbrev Bk:=List (List Nat×Sh)
def WR (K:PySem.W.Frag) (H:Hp) (b:V) (bk:Bk):Prop:=∃ (a:Addr) (as:List Addr) (vs:List V),b = .ref a∧SqL K H a (as.map V.ref)∧Brs K H as (bk.map (·.1)) vs∧ShAts K H vs (bk.map (·.2))
theorem WR.keep {K:PySem.W.Frag} {H H':Hp} (e:Yc H H') {b:V} {bk:Bk} (h:WR K H b bk):WR K H' b bk:=by
 obtain ⟨a,as,vs,h1,h2,h3,h4⟩:=h
 exact ⟨a,as,vs,h1,e.seq h2,h3.keep e,h4.keep e⟩
def plc (ms:List (List Nat)) (x:Str):Option Nat:=ms.findIdx? fun m=>decide (S m=x)
def Wt (ms:List (List Nat)):PyData→Bool
 | .tuple [.str x,_]=>(plc ms x).isSome
 | _=>false
def XJ (ms:List (List Nat)) (ps:List Sh):PyData→List (Sh×PyData)
 | .tuple [.str x,d]=>((plc ms x).bind fun i=>ps[i]?).toList.map fun p=>(p,d)
 | _=>[]
theorem Wa {ms:List (List Nat)} {d:PyData} (h:Wt ms d=true):∃ x d' i,d = .tuple [.str x,d']∧plc ms x=some i:=by
 unfold Wt at h
 split at h
 ·exact ⟨_,_,_,rfl,(Option.some_get h).symm⟩
 ·cases h
theorem Wu {ms:List (List Nat)} {x:Str} {i:Nat} (h:plc ms x=some i):i<ms.length:=by
 rw [plc,List.findIdx?_eq_some_iff_getElem] at h
 exact h.1
theorem Ql {ms:List (List Nat)} {ps:List Sh} {d:PyData}:(XJ ms ps d).length≤1000:=by
 unfold XJ
 split
 ·rw [List.length_map]
  exact Nat.le_trans (by cases (plc _ _).bind _<;>simp) (show 1≤1000 by decide)
 ·exact Nat.zero_le _
def YM:Sh→PyData→Bool
 | .whole lo hi,.int i=>decide (lo≤i)&&decide (i≤hi)
 | .text signs,.str x=>x.cps.toList.all fun c=>decide (c∈signs)
 | .row ps,.tuple ds=>decide (ds.length=ps.length)
 | .lst _ _,.list _=>true
 | .alike _ n,.list ds=>decide (ds.length=n)
 | .pick ms _,d=>Wt ms d
 | .use _,_=>true
 | _,_=>false
def YI (bk:Bk):Sh→PyData→List (Sh×PyData)
 | .row ps,.tuple ds=>ps.zip ds
 | .lst _ p,.list ds=>ds.map fun d=>(p,d)
 | .alike p _,.list ds=>ds.map fun d=>(p,d)
 | .pick ms ps,d=>XJ ms ps d
 | .use nm,d=>((plc (bk.map (·.1)) (S nm)).bind fun i=>(bk.map (·.2))[i]?).toList.map fun p=>(p,d)
 | _,_=>[]
def Fnd (bk:Bk):Sh→Prop
 | .use nm=>∃ i,plc (bk.map (·.1)) (S nm)=some i
 | _=>True
def Enf (bk:Bk):Nat→Sh→PyData→Prop
 | 0,_,_=>False
 | n+1,sh,d=>YM sh d=true→Fnd bk sh∧∀ w∈YI bk sh d,Enf bk n w.1 w.2
theorem X4 (a b c:V):atI [a,b,c] 0=some a:=rfl
theorem Ut (a b c:V):atI [a,b,c] 1=some b:=rfl
theorem Yb1 (a b c:V):atI [a,b,c] 2=some c:=rfl
theorem YQ (a b:V):atI [a,b] 0=some a:=rfl
theorem YX (a b:V):atI [a,b] 1=some b:=rfl
def Zy (K:PySem.W.Frag):Sp:=fun vs H Q _=>∃ v d,vs=[v]∧Vd H v d∧Q (.bl (match d with | .int _=>true | _=>false)) H
theorem Z0B  (R:g.Raw "is_whole_number" "is_whole_number" Za ["thing"]) (b_bool:g.mg "bool"=none) (b_int:g.mg "int"=none) (Z0:g.mg "isinstance"=none):g.Fn (1) "is_whole_number" ["thing"] (Zy g.K):=by
 refine R.fn Z0x (fun vs H Q E h=>by obtain ⟨v,d,rfl,hd,q⟩:=h;rfl) fun f_ cdv A outer s H vs Q E hr h=>?_
 obtain ⟨v,d,rfl,hd,q⟩:=h
 refine ⟨_,(@Yg _ _ _ (@Yh _ _ _ _ (@Xy _ _ _ _ _ _ _ (@YB _ _ _ _ _ _ _ _ _ _ Z0 YR (@Ya _ _ _ _ _ (pv 0) (@Ya _ _ _ _ _ (@XR _ _ _ _ ("int") b_int (by decide +kernel) (by rfl) (by rfl) (by decide) (by decide)) Yb (by rfl)) (by rfl)) (by decide +kernel) (by rfl) (by rfl) (by decide) (by decide) (by rfl) (by rfl)) (@XU _ _ _ _ _ (@Yap _ _ _ _ (@YB _ _ _ _ _ _ _ _ _ _ Z0 YR (@Ya _ _ _ _ _ (pv 0) (@Ya _ _ _ _ _ (@XR _ _ _ _ ("bool") b_bool (by decide +kernel) (by rfl) (by rfl) (by decide) (by decide)) Yb (by rfl)) (by rfl)) (by decide +kernel) (by rfl) (by rfl) (by decide) (by decide) (by rfl) (by rfl))))))),?_⟩
 walk_at "rd"
 cases hd with
 | non=>exact ⟨_,rfl,_,.non,false,rfl,Wh q⟩
 | bl b=>exact ⟨_,rfl,_,.bl b,true,rfl,Wi ⟨_,rfl,_,.bl b,true,rfl,q⟩⟩
 | int i=>exact ⟨_,rfl,_,.int i,true,rfl,Wi ⟨_,rfl,_,.int i,false,rfl,q⟩⟩
 | str l h hl=>exact ⟨_,rfl,_,.str _,false,rfl,Wh q⟩
 | lst h=>exact ⟨_,rfl,_,.lst h,false,rfl,Wh q⟩
 | tup h=>exact ⟨_,rfl,_,.tup h,false,rfl,Wh q⟩
def Z8 (K:PySem.W.Frag):Sp:=fun vs H Q _=>∃ (b:Addr) (as:List Addr) (ms:List (List Nat)) (us:List V) (x:Str),vs=[.ref b,.str x]∧SqT K H b (as.map V.ref)∧Brs K H as ms us∧∀ H',Yc H H'→Q (match plc ms x with | some i => .int (i:Nat) | none => .non) H'
theorem Z13  (R:g.Raw "branch_place" "branch_place" Zp ["branches","mark"]) (Zd:g.mg "enumerate"=none):g.Fn (1) "branch_place" ["branches","mark"] (Z8 g.K):=by
 refine R.fn Zj (fun vs H Q E h=>by obtain ⟨b,as,ms,us,x,rfl,hb,hbr,q⟩:=h;rfl) fun f_ cdv A outer s H vs Q E hr h=>?_
 obtain ⟨b,as,ms,us,x,rfl,hb,hbr,q⟩:=h
 refine ⟨_,(@Yf _ _ _ _ _ (@Xg _ _ _ _ _ _ _ _ PassesOwn.never rfl (@Ybt _ _ _ _ _ _ _ _ rfl Zd (@Ya _ _ _ _ _ (pv 0) Yb (by rfl)) (by rfl)) (@Xz _ _ _ _ _ (2) rfl (@YK _ _ _ _ _ (@Yp _ _ (2) _ Zj.nd rfl (.inl rfl) (by first | exact .inl rfl | exact .inr rfl | assumption)) (@YK _ _ _ _ _ (@Yp _ _ (3) _ Zj.nd rfl (.inl rfl) (by first | exact .inl rfl | exact .inr rfl | assumption)) Xm (by rfl)) (by rfl)) (by rfl) (by rfl)) (@Yg _ _ _ (@YD _ _ _ _ _ _ _ _ (@Yo _ _ _ _ _ _ _ _ YG (@Yk _ _ _ _ _ _ _ Yr (pv 3) Ye (fun _ _=>rfl)) (pv 1) (Yj _)) (@Yg _ _ _ (@Yh _ _ _ _ (pv 2))) Yq)) (by intro _;rfl)) (@Yg _ _ _ (@Yh _ _ _ _ XS))),?_⟩
 walk_at "rd"
 refine Yag (K:=g.K) (xs:=as.map V.ref) (fun i σ H'=>∃ o2 o3,σ=[some (.ref b),some (.str x),o2,o3]∧Yc H H'∧∀ j m,j<i→ms[j]?=some m→S m≠x) (fun R r=>by walk_at "rd";exact r) ⟨_,_,rfl,.refl H,fun j m h=>by omega⟩ (fun i σ H' hi ⟨o2,o3,_,sm,_⟩=>sm.tup hb) ?_ ?_
 ·rintro i v σ H' T hv ⟨o2,o3,rfl,sm,hno⟩ hT
  obtain ⟨b1,b2,b3⟩:=hbr
  have hi:i<as.length:=by simpa using (List.getElem?_eq_some_iff.mp hv).1
  have ha:as[i]?=some as[i]:=List.getElem?_eq_getElem hi
  rw [List.getElem?_map,ha] at hv
  have:V.ref as[i]=v:=Option.some.inj hv
  subst this
  have hm:ms[i]?=some (ms[i]'(by omega)):=List.getElem?_eq_getElem _
  have hu:us[i]?=some (us[i]'(by omega)):=List.getElem?_eq_getElem _
  have ht:=b3 i _ _ _ ha hm hu
  have s2:=sm.trans (.upd_new hT (.tup [.int (i:Int),.ref as[i]]))
  generalize hme:ms[i]'(by omega)=m at hm ht
  walk_at "rd"
  refine ⟨_,SqT.of Yd,rfl,_,_,rfl,_,_,rfl,rfl,_,rfl,_,s2.tup ht,_,YQ _ _,rfl,?_⟩
  by_cases c:S m=x
  ·have hp:plc ms x=some i:=by
    rw [plc,List.findIdx?_eq_some_iff_getElem]
    refine ⟨by omega,decide_eq_true (by rw [hme];exact c),fun j hj=>?_⟩
    have:=hno j (ms[j]'(by omega)) hj (List.getElem?_eq_getElem _)
    simpa using this
   rw [if_pos (congrArg V.str c)]
   have q:=q _ s2
   rw [hp] at q
   exact q
  ·rw [if_neg (fun e=>c (V.str.inj e))]
   refine ⟨s2,fun j m' hj hm'=>?_⟩
   rcases Nat.lt_or_ge j i with h | h
   ·exact hno j m' h hm'
   ·have:j=i:=by omega
    subst this
    rw [hm] at hm'
    have:=Option.some.inj hm'
    subst this
    exact c
 ·rintro σ H' ⟨o2,o3,rfl,sm,hno⟩
  walk_at "rd"
  have:plc ms x=none:=by
   rw [plc,List.findIdx?_eq_none_iff]
   intro m hm
   obtain ⟨j,hj⟩:=List.mem_iff_getElem?.mp hm
   have hjl:=(List.getElem?_eq_some_iff.mp hj).1
   exact decide_eq_false (hno j m (by rw [List.length_map,hbr.1];exact hjl) hj)
  have q:=q H' sm
  rw [this] at q
  exact q
theorem Xd {ms:List (List Nat)} (ps:List Sh) (d:PyData):Wt ms d=YM (.pick ms ps) d:=by cases d<;>rfl
theorem XG (bk:Bk) (nm:List Nat) (d:PyData):YI bk (.use nm) d=((plc (bk.map (·.1)) (S nm)).bind fun i=>(bk.map (·.2))[i]?).toList.map fun p=>(p,d):=by cases d<;>rfl
theorem Xe (bk:Bk) (ms:List (List Nat)) (ps:List Sh) (d:PyData):YI bk (.pick ms ps) d=XJ ms ps d:=by cases d<;>rfl
def Z0Q (K:PySem.W.Frag):Sp:=fun vs H Q _=>∃ (b:V) (bk:Bk) (x:Str) (i:Nat) (H0:Hp),vs=[b,.str x]∧Yc H0 H∧WR K H0 b bk∧plc (bk.map (·.1)) x=some i∧∀ v sh,(bk.map (·.2))[i]?=some sh→ShAt K H0 v sh→Q v H
theorem Qm  (R:g.Raw "shape_of" "shape_of" Z06 ["book","name"]):g.Fn (1) "shape_of" ["book","name"] (Z0Q g.K):=by
 refine R.fn Z0N (fun vs H Q E h=>by obtain ⟨b,bk,x,i,H0,rfl,s0,hb,hi,q⟩:=h;rfl) fun f_ cdv A outer s H vs Q E hr h=>?_
 obtain ⟨b,bk,x,i,H0,rfl,s0,hb,hi,q⟩:=h
 refine ⟨_,(@Yf _ _ _ _ _ (@Xg _ _ _ _ _ _ _ _ PassesOwn.never rfl (@YT _ _ _ _ (pv 0)) (@Yp _ _ (2) _ Z0N.nd rfl (.inl rfl) (by first | exact .inl rfl | exact .inr rfl | assumption)) (@Yg _ _ _ (@YD _ _ _ _ _ _ _ _ (@Yo _ _ _ _ _ _ _ _ YG (@Yk _ _ _ _ _ _ _ Yr (pv 2) Ye (fun _ _=>rfl)) (pv 1) (Yj _)) (@Yg _ _ _ (@Yh _ _ _ _ (@Yk _ _ _ _ _ _ _ Yr (pv 2) Ye (fun _ _=>rfl)))) Yq)) (by intro _;rfl)) (@Yg _ _ _ Uz)),?_⟩
 obtain ⟨a,as,vs,rfl,hS,⟨b1,b2,b3⟩,hsh⟩:=hb
 have hil:=Wu hi
 walk_at "rd"
 refine WO (K:=g.K) (a:=a) (xs:=as.map V.ref) (fun j σ H'=>∃ o2,σ=[some (.ref a),some (.str x),o2]∧H'=H∧j≤i) (fun R r=>by walk_at "rd";exact r) ⟨_,rfl,rfl,Nat.zero_le _⟩ (fun j σ H' _ ⟨o2,_,e,_⟩=>by rw [e];exact s0.seq hS) ?_ ?_
 ·rintro j v σ H' hv ⟨o2,rfl,rfl,hj⟩
  have hjl:j<as.length:=by simpa using (List.getElem?_eq_some_iff.mp hv).1
  have ha:as[j]?=some as[j]:=List.getElem?_eq_getElem hjl
  rw [List.getElem?_map,ha] at hv
  have:V.ref as[j]=v:=Option.some.inj hv
  subst this
  have hm:(bk.map (·.1))[j]?=some ((bk.map (·.1))[j]'(by omega)):=List.getElem?_eq_getElem _
  have hu:vs[j]?=some (vs[j]'(by omega)):=List.getElem?_eq_getElem _
  have ht:=b3 j _ _ _ ha hm hu
  obtain ⟨sh,g1,s1⟩:=hsh.at hu
  have hpl:=hi
  rw [plc,List.findIdx?_eq_some_iff_getElem] at hpl
  obtain ⟨_,p1,p2⟩:=hpl
  walk_at "rd"
  refine ⟨_,s0.tup ht,_,YQ _ _,rfl,?_⟩
  by_cases c:S ((bk.map (·.1))[j]'(by omega))=x
  ·have:j=i:=by
    rcases Nat.lt_or_ge j i with h | h
    ·exact ((p2 j h) (decide_eq_true c)).elim
    ·omega
   subst this
   rw [if_pos (congrArg V.str c)]
   exact ⟨_,s0.tup ht,_,YX _ _,q _ _ g1 s1⟩
  ·rw [if_neg (fun e=>c (V.str.inj e))]
   have:j≠i:=fun e=>by subst e;exact c (of_decide_eq_true p1)
   omega
 ·rintro σ H' ⟨o2,rfl,rfl,hj⟩
  rw [List.length_map] at hj
  rw [List.length_map] at hil b1
  omega
def Z0R (K:PySem.W.Frag):Sp:=fun vs H Q _=>∃ (b:Addr) (as:List Addr) (ms:List (List Nat)) (us:List V) (v:V) (d:PyData),vs=[.ref b,v]∧SqT K H b (as.map V.ref)∧Brs K H as ms us∧Vd H v d∧∀ H',Yc H H'→Q (.bl (Wt ms d)) H'
theorem Qn {k:Nat}  (R:g.Raw "has_mark" "has_mark" Z07 ["branches","value"]) (Z5:g.Fn k "branch_place" ["branches","mark"] (Z8 g.K)) (Z0:g.mg "isinstance"=none) (b_len:g.mg "len"=none) (b_str:g.mg "str"=none) (Z1:g.mg "tuple"=none):g.Fn (k+1) "has_mark" ["branches","value"] (Z0R g.K):=by
 refine R.fn Qj (fun vs H Q E h=>by obtain ⟨b,as,ms,us,v,d,rfl,hb,hbr,hv,q⟩:=h;rfl) fun f_ cdv A outer s H vs Q E hr h=>?_
 obtain ⟨b,as,ms,us,v,d,rfl,hb,hbr,hv,q⟩:=h
 refine ⟨_,(@Yf _ _ _ _ _ (@YD _ _ _ _ _ _ _ _ (@Vf _ _ _ _ _ _ _ (@Vg _ _ _ _ (@Wm _ _ _ (@YB _ _ _ _ _ _ _ _ _ _ Z0 YR (@Ya _ _ _ _ _ (pv 1) (@Ya _ _ _ _ _ (@XR _ _ _ _ ("tuple") Z1 (by decide +kernel) (by rfl) (by rfl) (by decide) (by decide)) Yb (by rfl)) (by rfl)) (by decide +kernel) (by rfl) (by rfl) (by decide) (by decide) (by rfl) (by rfl)) (by intro _;rfl))) (@WI _ _ _ _ (@Yo _ _ _ _ _ _ _ _ Uo (@YB _ _ _ _ _ _ _ _ _ _ b_len Yu (@Ya _ _ _ _ _ (pv 1) Yb (by rfl)) (by decide +kernel) (by rfl) (by rfl) (by decide) (by decide) (by rfl) (by rfl)) Ye (Yj _)))).pt (@Yg _ _ _ (@Yh _ _ _ _ QV)) Yq) (@Yg _ _ _ (@Yh _ _ _ _ (@Xy _ _ _ _ _ _ _ (@YB _ _ _ _ _ _ _ _ _ _ Z0 YR (@Ya _ _ _ _ _ (@Yk _ _ _ _ _ _ _ Yr (pv 1) Ye (fun _ _=>rfl)) (@Ya _ _ _ _ _ (@XR _ _ _ _ ("str") b_str (by decide +kernel) (by rfl) (by rfl) (by decide) (by decide)) Yb (by rfl)) (by rfl)) (by decide +kernel) (by rfl) (by rfl) (by decide) (by decide) (by rfl) (by rfl)) (@XU _ _ _ _ _ (@YU _ _ _ _ _ _ _ _ Yb7 (@YA _ _ _ _ _ _ _ _ _ _ _ _ Z5 hr (@Ya _ _ _ _ _ (pv 0) (@Ya _ _ _ _ _ (@Yk _ _ _ _ _ _ _ Yr (pv 1) Ye (fun _ _=>rfl)) Yb (by rfl)) (by rfl)) (by omega) (by rfl) (by rfl) (by decide) (by rfl) (by rfl)) XS (Yj _))))))),?_⟩
 have q0:=q H (.refl H)
 have ty:=hv.ty (K:=g.K)
 walk_at "rd"
 cases hv with
 | @tup a vs ds h hl hds =>
  refine ⟨_,rfl,_,ty,true,rfl,Ym (by simp) ⟨a,rfl,_,.inr (SqT.of h),?_⟩⟩
  cases hds with
  | nil=>exact XE (by simp) q0
  | @cons v1 d1 vs1 ds1 h1 hds1 =>
  cases hds1 with
  | nil=>cases d1<;>exact XE (by simp) q0
  | @cons v2 d2 vs2 ds2 h2 hds2 =>
  cases hds2 with
  | @cons v3 d3 vs3 ds3 h3 hds3=>cases d1<;>exact XE (by simp;omega) q0
  | nil =>
  refine Ym (by simp) ⟨a,rfl,_,SqT.of h,_,YQ _ _,_,rfl,_,h1.ty,?_⟩
  cases h1 with
  | str l hs hl =>
   refine ⟨true,rfl,Wi ⟨a,rfl,_,SqT.of h,_,YQ _ _,b,as,ms,us,S l,rfl,hb,hbr,fun H' s'=>?_⟩⟩
   have q:=q H' s'
   simp only [Wt] at q
   cases e:plc ms (S l) with
   | none=>rw [e] at q;exact q
   | some i=>rw [e] at q;exact q
  | _=>exact ⟨false,rfl,Wh q0⟩
 | _=>exact ⟨_,rfl,_,ty,false,rfl,XE rfl q0⟩
variable {bk:Bk}
variable {m:Nat}
def Z0S (K:PySem.W.Frag):Sp:=fun vs H Q _=>∃ (x v:V) (sh:Sh) (d:PyData),vs=[x,v]∧ShAt K H x sh∧Vd H v d∧∀ H',Yc H H'→Q (.bl (YM sh d)) H'
theorem Qo {k:Nat}  (R:g.Raw "has_form" "has_form" Z08 ["shape","value"]) (Z0J:g.Fn k "is_whole_number" ["thing"] (Zy g.K)) (F_has_mark:g.Fn k "has_mark" ["branches","value"] (Z0R g.K)) (b_all:g.mg "all"=none) (Z0:g.mg "isinstance"=none) (b_len:g.mg "len"=none) (b_list:g.mg "list"=none) (b_str:g.mg "str"=none) (Z1:g.mg "tuple"=none) (ZC:g.ConT "OF_ONE_PART" ([.str "many",.str "rising",.str "unlike"])):g.Fn (k+1) "has_form" ["shape","value"] (Z0S g.K):=by
 refine R.fn Z0O (fun vs H Q E h=>by obtain ⟨x,v,sh,d,rfl,hx,hv,q⟩:=h;rfl) fun f_ cdv A outer s H vs Q E hr h=>?_
 obtain ⟨x,v,sh,d,rfl,hx,hv,q⟩:=h
 refine ⟨_,(@Yf _ _ _ _ _ (@Yt _ _ (2) _ _ _ _ Z0O.nd rfl (.inl rfl) (@Yk _ _ _ _ _ _ _ Yr (pv 0) Ye (fun _ _=>rfl)) (by rfl) (by first | exact .inl rfl | exact .inr rfl | assumption)) (@Yf _ _ _ _ _ (@YD _ _ _ _ _ _ _ _ (@Yo _ _ _ _ _ _ _ _ YG (pv 2) YE (Yj _)) (@Yg _ _ _ (@Yh _ _ _ _ (@Xy _ _ _ _ _ _ _ (@YA _ _ _ _ _ _ _ _ _ _ _ _ Z0J hr (@Ya _ _ _ _ _ (pv 1) Yb (by rfl)) (by omega) (by rfl) (by rfl) (by decide) (by rfl) (by rfl)) (@XU _ _ _ _ _ (@Ybh _ _ _ _ _ _ _ _ _ _ _ _ YbO YbO (@Yk _ _ _ _ _ _ _ Yr (pv 0) Ye (fun _ _=>rfl)) (pv 1) (@Yk _ _ _ _ _ _ _ Yr (pv 0) Ye (fun _ _=>rfl)) (by with_unfolding_all rfl)))))) Yq) (@Yf _ _ _ _ _ (@YD _ _ _ _ _ _ _ _ (@Yo _ _ _ _ _ _ _ _ YG (pv 2) YE (Yj _)) (@Yg _ _ _ (@Yh _ _ _ _ (@Xy _ _ _ _ _ _ _ (@YB _ _ _ _ _ _ _ _ _ _ Z0 YR (@Ya _ _ _ _ _ (pv 1) (@Ya _ _ _ _ _ (@XR _ _ _ _ ("str") b_str (by decide +kernel) (by rfl) (by rfl) (by decide) (by decide)) Yb (by rfl)) (by rfl)) (by decide +kernel) (by rfl) (by rfl) (by decide) (by decide) (by rfl) (by rfl)) (@XU _ _ _ _ _ (@YB _ _ _ _ _ _ _ _ _ _ b_all (Xo rfl) (@Ya _ _ _ _ _ (@X3 _ _ _ _ _ _ _ ([none,some 0]) ((["sign","shape"]:List Str)) _ (Yv 0) _ _ (.own (.cap (i:=0) rfl rfl (by first | exact .inl rfl | exact .inr rfl) .nil)) rfl (@YaK _ _ _ _ (pv 1)) (fun cl C s₀ H₀ fp pn=>(@Yp _ _ (0) _ (show List.Nodup (["sign","shape"]:List Str) by decide +kernel) rfl (.inl rfl) (.inr rfl))) (fun cl C s₀ H₀ fp pn=>Y3) (fun cl C s₀ H₀ fp pn=>(@YU _ _ _ _ _ _ _ _ Yax (pv 0) (@Yk _ _ _ _ _ _ _ (X6 (K:=g.K)) (pv 1) Ye (fun _ _=>rfl)) rfl)) (by intro x hx;simp at hx;first | (subst hx;exact .inl rfl) | (rcases hx with rfl | rfl<;>exact .inl rfl) | (rcases hx with rfl | rfl | rfl<;>exact .inl rfl) | (rcases hx with rfl | rfl | rfl | rfl<;>exact .inl rfl) | (rcases hx with rfl | rfl | rfl | rfl | rfl<;>exact .inl rfl)) (by rfl) (by decide) (by decide +kernel) (by intro _;rfl)) Yb (by rfl)) (by decide +kernel) (by rfl) (by rfl) (by decide) (by decide) (by rfl) (by rfl)))))) Yq) (@Yf _ _ _ _ _ (@YD _ _ _ _ _ _ _ _ (@Yo _ _ _ _ _ _ _ _ YG (pv 2) YE (Yj _)) (@Yg _ _ _ (@Yh _ _ _ _ (@Xy _ _ _ _ _ _ _ (@YB _ _ _ _ _ _ _ _ _ _ Z0 YR (@Ya _ _ _ _ _ (pv 1) (@Ya _ _ _ _ _ (@XR _ _ _ _ ("tuple") Z1 (by decide +kernel) (by rfl) (by rfl) (by decide) (by decide)) Yb (by rfl)) (by rfl)) (by decide +kernel) (by rfl) (by rfl) (by decide) (by decide) (by rfl) (by rfl)) (@XU _ _ _ _ _ (@YU _ _ _ _ _ _ _ _ YG (@YB _ _ _ _ _ _ _ _ _ _ b_len Yu (@Ya _ _ _ _ _ (pv 1) Yb (by rfl)) (by decide +kernel) (by rfl) (by rfl) (by decide) (by decide) (by rfl) (by rfl)) (@YB _ _ _ _ _ _ _ _ _ _ b_len Yu (@Ya _ _ _ _ _ (@Yk _ _ _ _ _ _ _ Yr (pv 0) Ye (fun _ _=>rfl)) Yb (by rfl)) (by decide +kernel) (by rfl) (by rfl) (by decide) (by decide) (by rfl) (by rfl)) (Yj _)))))) Yq) (@Yf _ _ _ _ _ (@YD _ _ _ _ _ _ _ _ (@Yo _ _ _ _ _ _ _ _ YG (pv 2) YE (Yj _)) (@Yg _ _ _ (@Yh _ _ _ _ (@YA _ _ _ _ _ _ _ _ _ _ _ _ F_has_mark hr (@Ya _ _ _ _ _ (@Yk _ _ _ _ _ _ _ Yr (pv 0) Ye (fun _ _=>rfl)) (@Ya _ _ _ _ _ (pv 1) Yb (by rfl)) (by rfl)) (by omega) (by rfl) (by rfl) (by decide) (by rfl) (by rfl)))) Yq) (@Yf _ _ _ _ _ (@YD _ _ _ _ _ _ _ _ (@Yo _ _ _ _ _ _ _ _ YG (pv 2) YE (Yj _)) (@Yg _ _ _ (@Yh _ _ _ _ (@Xy _ _ _ _ _ _ _ (@YB _ _ _ _ _ _ _ _ _ _ Z0 YR (@Ya _ _ _ _ _ (pv 1) (@Ya _ _ _ _ _ (@XR _ _ _ _ ("list") b_list (by decide +kernel) (by rfl) (by rfl) (by decide) (by decide)) Yb (by rfl)) (by rfl)) (by decide +kernel) (by rfl) (by rfl) (by decide) (by decide) (by rfl) (by rfl)) (@XU _ _ _ _ _ (@YU _ _ _ _ _ _ _ _ YG (@YB _ _ _ _ _ _ _ _ _ _ b_len Yu (@Ya _ _ _ _ _ (pv 1) Yb (by rfl)) (by decide +kernel) (by rfl) (by rfl) (by decide) (by decide) (by rfl) (by rfl)) (@Yk _ _ _ _ _ _ _ Yr (pv 0) Ye (fun _ _=>rfl)) (Yj _)))))) Yq) (@Yf _ _ _ _ _ (@YD _ _ _ _ _ _ _ _ (@Yo _ _ _ _ _ _ _ _ VR (pv 2) (@YbX _ _ _ _ _ ZC (by rfl) (by rfl) (by decide)) rfl) (@Yg _ _ _ (@Yh _ _ _ _ (@YB _ _ _ _ _ _ _ _ _ _ Z0 YR (@Ya _ _ _ _ _ (pv 1) (@Ya _ _ _ _ _ (@XR _ _ _ _ ("list") b_list (by decide +kernel) (by rfl) (by rfl) (by decide) (by decide)) Yb (by rfl)) (by rfl)) (by decide +kernel) (by rfl) (by rfl) (by decide) (by decide) (by rfl) (by rfl)))) Yq) (@Yg _ _ _ (@Yh _ _ _ _ QV))))))))),?_⟩
 have q0:=q H (.refl H)
 have ty:=hv.ty (K:=g.K)
 cases hx with
 | @whole a lo hi ha =>
  walk_at "rd"
  refine ⟨_,ha,_,X4 _ _ _,?_⟩
  walk_at "rd"
  refine ⟨v,d,rfl,hv,_,rfl,?_⟩
  cases hv with
  | int i =>
   refine Wi ⟨_,ha,_,Ut _ _ _,_,rfl,_,rfl,?_⟩
   refine Y7 (fun c=>?_) (fun c=>?_)
   ·refine ⟨_,ha,_,Yb1 _ _ _,_,rfl,_,rfl,?_⟩
    simp only [YM,decide_eq_true c,Bool.true_and] at q0;exact q0
   ·simp only [YM,decide_eq_false c,Bool.false_and] at q0;exact q0
  | _=>exact Wh q0
 | @text a signs ha hn =>
  walk_at "rd"
  refine ⟨_,ha,_,YQ _ _,?_⟩
  walk_at "rd"
  refine Ym (by decide) ?_
  cases hv with
  | str l h hl =>
   refine ⟨_,rfl,_,.str _,true,rfl,Wi ?_⟩
   refine QG (l:=l) ((l.map fun c=>decide (c∈signs)).map V.bl) (fun R r=>by walk_at "rd";exact r) (by simp) (by omega) ?_ ?_
   ·intro i c y H' hc hy sm R r
    rw [List.getElem?_map,List.getElem?_map,hc] at hy
    have:V.bl (decide (c∈signs))=y:=Option.some.inj hy
    subst this
    walk_at "rd"
    refine ⟨_,sm.tup ha,_,YX _ _,?_⟩
    walk_at "rd"
    rw [Yco]
    exact r H' (.refl H')
   ·intro D H' hD sm hd
    refine ⟨D,rfl,_,SqL.of hd,?_⟩
    have:=q H' sm
    simp only [YM,XD] at this
    simpa [List.all_map] using this
  | _=>exact ⟨_,rfl,_,ty,false,rfl,Wh q0⟩
 | @row a b vs ps ha hb hs hn =>
  walk_at "rd"
  refine ⟨_,ha,_,YQ _ _,?_⟩
  walk_at "rd"
  refine Ym (by decide) (Ym (by decide) ?_)
  cases hv with
  | @tup c us ds h hl hds =>
   refine ⟨_,rfl,_,ty,true,rfl,Wi ⟨_,rfl,_,.inr (SqT.of h),_,ha,_,YX _ _,_,rfl,_,.inr hb,?_⟩⟩
   have e1:=hds.length
   have e2:=hs.length
   rw [show decide ((us.length:Int)=(vs.length:Int))=YM (.row ps) (.tuple ds) from decide_eq_decide.mpr (by omega)]
   exact q0
  | _=>exact ⟨_,rfl,_,ty,false,rfl,Wh q0⟩
 | @lst a v' p k ha hp =>
  walk_at "rd"
  refine ⟨_,ha,_,YQ _ _,?_⟩
  walk_at "rd"
  refine Ym (by cases k<;>decide) (Ym (by cases k<;>decide) (Ym (by cases k<;>decide) (Ym (by cases k<;>decide) (Ym (by cases k<;>decide) fun c hc=>⟨_,.inr hc,rfl,rfl,XE (by cases k<;>decide +kernel) ?_⟩))))
  cases hv with
  | lst h hl hds=>exact ⟨_,rfl,_,ty,true,rfl,q0⟩
  | _=>exact ⟨_,rfl,_,ty,false,rfl,q0⟩
 | @alike a v' p n ha hp =>
  walk_at "rd"
  refine ⟨_,ha,_,X4 _ _ _,?_⟩
  walk_at "rd"
  refine Ym (by decide) (Ym (by decide) (Ym (by decide) (Ym (by decide) ?_)))
  cases hv with
  | @lst c us ds h hl hds =>
   refine ⟨_,rfl,_,ty,true,rfl,Wi ⟨_,rfl,_,.inl (SqL.of h),_,ha,_,Yb1 _ _ _,?_⟩⟩
   have e1:=hds.length
   refine ⟨rfl,?_⟩
   rw [show decide (V.int (us.length:Int)=V.int (n:Int))=YM (.alike p n) (.list ds) from decide_eq_decide.mpr ⟨fun z=>by have:=V.int.inj z;omega,fun z=>by rw [show us.length=n by omega]⟩]
   exact q0
  | _=>exact ⟨_,rfl,_,ty,false,rfl,Wh q0⟩
 | @pick a b as ms us ps ha hb hbr hs hn =>
  walk_at "rd"
  refine ⟨_,ha,_,YQ _ _,?_⟩
  walk_at "rd"
  refine Ym (by decide) (Ym (by decide) (Ym (by decide) ?_))
  refine ⟨_,ha,_,YX _ _,b,as,ms,us,v,d,rfl,hb,hbr,hv,fun H' s'=>?_⟩
  rw [Xd ps]
  exact q H' s'
 | @use a nm ha =>
  walk_at "rd"
  refine ⟨_,ha,_,YQ _ _,?_⟩
  walk_at "rd"
  refine Ym (by decide) (Ym (by decide) (Ym (by decide) (Ym (by decide) (Ym (by decide) fun c hc=>⟨_,.inr hc,rfl,rfl,Ym (by decide +kernel) ?_⟩))))
  exact q0
def Uu (K:PySem.W.Frag) (H0 H:Hp) (as:List Addr) (ws:List (Sh×PyData)):Prop:=as.length=ws.length∧∀ (j:Nat) a w,as[j]?=some a→ws[j]?=some w→∃ y z,H a=some (.tup [y,z])∧ShAt K H0 y w.1∧Vd H0 z w.2
def ZM (K:PySem.W.Frag):Sp:=fun vs H Q _=>∃ (bk:Bk) (b x v:V) (sh:Sh) (d:PyData) (H0:Hp),vs=[b,x,v]∧Yc H0 H∧WR K H0 b bk∧Fnd bk sh∧ShAt K H0 x sh∧Vd H0 v d∧YM sh d=true∧∀ l as H',Yc H H'→H l=none→H' l=some (.lst (as.map V.ref))→Uu K H0 H' as (YI bk sh d)→Q (.ref l) H'
theorem WS (bk:Bk) (lo hi:Int) (d:PyData):YI bk (.whole lo hi) d=[]:=by cases d<;>rfl
theorem W6 (bk:Bk) (s:List Nat) (d:PyData):YI bk (.text s) d=[]:=by cases d<;>rfl
theorem V3 (K:PySem.W.Frag) (H0 H:Hp):Uu K H0 H [] []:=⟨rfl,fun j a w h=>by simp at h⟩
variable {bk:Bk}
theorem Z0Y {k:Nat}  (R:g.Raw "things_within" "things_within" Zk ["book","shape","value"]) (F_shape_of:g.Fn k "shape_of" ["book","name"] (Z0Q g.K)) (Z5:g.Fn k "branch_place" ["branches","mark"] (Z8 g.K)) (b_list:g.mg "list"=none) (b_zip:g.mg "zip"=none) (ZC:g.ConT "OF_ONE_PART" ([.str "many",.str "rising",.str "unlike"])):g.Fn (k+1) "things_within" ["book","shape","value"] (ZM g.K):=by
 refine R.fn ZH (fun vs H Q E h=>by obtain ⟨bk,b,x,v,sh,d,H0,rfl,s0,hbk,hfd,hx,hv,hf,q⟩:=h;rfl) fun f_ cdv A outer s H vs Q E hr h=>?_
 obtain ⟨bk,b,x,v,sh,d,H0,rfl,s0,hbk,hfd,hx,hv,hf,q⟩:=h
 refine ⟨_,(@Yf _ _ _ _ _ (@Yt _ _ (3) _ _ _ _ ZH.nd rfl (.inl rfl) (@Yk _ _ _ _ _ _ _ Yr (pv 1) Ye (fun _ _=>rfl)) (by rfl) (by first | exact .inl rfl | exact .inr rfl | assumption)) (@Yf _ _ _ _ _ (@YD _ _ _ _ _ _ _ _ (@Yo _ _ _ _ _ _ _ _ YG (pv 3) YE (Yj _)) (@Yg _ _ _ (@Yh _ _ _ _ (@Qh _ _ _ _ _ _ _ _ rfl b_list rfl b_zip (@Ya _ _ _ _ _ (@Yk _ _ _ _ _ _ _ Yr (pv 1) Ye (fun _ _=>rfl)) (@Ya _ _ _ _ _ (pv 2) Yb (by rfl)) (by rfl)) (by rfl) (by rfl) (by rfl)))) Yq) (@Yf _ _ _ _ _ (@YD _ _ _ _ _ _ _ _ (@Yo _ _ _ _ _ _ _ _ YG (pv 3) YE (Yj _)) (@Yg _ _ _ (@Yh _ _ _ _ (@YF _ _ _ _ (@Ya _ _ _ _ _ (@Y2 _ _ _ _ _ (@Ya _ _ _ _ _ (@Yk _ _ _ _ _ _ _ Yr (@Yk _ _ _ _ _ _ _ Yr (@Yk _ _ _ _ _ _ _ Yr (pv 1) Ye (fun _ _=>rfl)) (@YA _ _ _ _ _ _ _ _ _ _ _ _ Z5 hr (@Ya _ _ _ _ _ (@Yk _ _ _ _ _ _ _ Yr (pv 1) Ye (fun _ _=>rfl)) (@Ya _ _ _ _ _ (@Yk _ _ _ _ _ _ _ Yr (pv 2) Ye (fun _ _=>rfl)) Yb (by rfl)) (by rfl)) (by omega) (by rfl) (by rfl) (by decide) (by rfl) (by rfl)) (fun _ _=>rfl)) Ye (fun _ _=>rfl)) (@Ya _ _ _ _ _ (@Yk _ _ _ _ _ _ _ Yr (pv 2) Ye (fun _ _=>rfl)) Yb (by rfl)) (by rfl))) Yb (WB _ _ _ _ _))))) Yq) (@Yf _ _ _ _ _ (@YD _ _ _ _ _ _ _ _ (@Yo _ _ _ _ _ _ _ _ YG (pv 3) YE (Yj _)) (@Yg _ _ _ (@Yh _ _ _ _ (@YF _ _ _ _ (@Ya _ _ _ _ _ (@Y2 _ _ _ _ _ (@Ya _ _ _ _ _ (@YA _ _ _ _ _ _ _ _ _ _ _ _ F_shape_of hr (@Ya _ _ _ _ _ (pv 0) (@Ya _ _ _ _ _ (@Yk _ _ _ _ _ _ _ Yr (pv 1) Ye (fun _ _=>rfl)) Yb (by rfl)) (by rfl)) (by omega) (by rfl) (by rfl) (by decide) (by rfl) (by rfl)) (@Ya _ _ _ _ _ (pv 2) Yb (by rfl)) (by rfl))) Yb (WB _ _ _ _ _))))) Yq) (@Yf _ _ _ _ _ (@YD _ _ _ _ _ _ _ _ (@Vf _ _ _ _ _ _ _ (@Yo _ _ _ _ _ _ _ _ YG (pv 3) YE (Yj _)) (@WI _ _ _ _ (@Yo _ _ _ _ _ _ _ _ VR (pv 3) (@YbX _ _ _ _ _ ZC (by rfl) (by rfl) (by decide)) rfl))).pt (@Yg _ _ _ (@Yh _ _ _ _ (@X3 _ _ _ _ _ _ _ ([none,some 1]) ((["thing","shape"]:List Str)) _ (Yv 0) _ _ (.own (.cap (i:=1) rfl rfl (by first | exact .inl rfl | exact .inr rfl) .nil)) rfl (@YT _ _ _ _ (pv 2)) (fun cl C s₀ H₀ fp pn=>(@Yp _ _ (0) _ (show List.Nodup (["thing","shape"]:List Str) by decide +kernel) rfl (.inl rfl) (.inr rfl))) (fun cl C s₀ H₀ fp pn=>Y3) (fun cl C s₀ H₀ fp pn=>(@Y2 _ _ _ _ _ (@Ya _ _ _ _ _ (@Yk _ _ _ _ _ _ _ (X6 (K:=g.K)) (pv 1) Ye (fun _ _=>rfl)) (@Ya _ _ _ _ _ (pv 0) Yb (by rfl)) (by rfl)))) (by intro x hx;simp at hx;first | (subst hx;exact .inl rfl) | (rcases hx with rfl | rfl<;>exact .inl rfl) | (rcases hx with rfl | rfl | rfl<;>exact .inl rfl) | (rcases hx with rfl | rfl | rfl | rfl<;>exact .inl rfl) | (rcases hx with rfl | rfl | rfl | rfl | rfl<;>exact .inl rfl)) (by rfl) (by decide) (by decide +kernel) (by intro _;rfl)))) Yq) (@Yg _ _ _ (@Yh _ _ _ _ (@YF _ _ _ _ Yb)))))))),?_⟩
 cases hx with
 | @whole a lo hi ha =>
  walk_at "rd"
  refine ⟨_,s0.tup ha,_,X4 _ _ _,?_⟩
  walk_at "rd"
  rw [WS] at q
  exact Ym (by decide) (Ym (by decide) (Ym (by decide) (Ym (by decide) fun c hc=>⟨_,.inr hc,rfl,rfl,Ym (by decide +kernel) ⟨few (by decide),fun p hp=>q p [] _ (.upd_new hp _) hp Yd (V3 _ _ _)⟩⟩)))
 | @text a signs ha hn =>
  walk_at "rd"
  refine ⟨_,s0.tup ha,_,YQ _ _,?_⟩
  walk_at "rd"
  rw [W6] at q
  exact Ym (by decide) (Ym (by decide) (Ym (by decide) (Ym (by decide) fun c hc=>⟨_,.inr hc,rfl,rfl,Ym (by decide +kernel) ⟨few (by decide),fun p hp=>q p [] _ (.upd_new hp _) hp Yd (V3 _ _ _)⟩⟩)))
 | @row a b vs ps ha hb hs hn =>
  walk_at "rd"
  refine ⟨_,s0.tup ha,_,YQ _ _,?_⟩
  walk_at "rd"
  cases hv with
  | @tup c us ds h hl hds =>
   have e1:=hds.length
   have e2:=hs.length
   have e3:ds.length=ps.length:=of_decide_eq_true hf
   refine ⟨_,s0.tup ha,_,YX _ _,_,rfl,_,rfl,_,s0.tup hb,_,SqT.of (s0 _ _ h),by omega,fun l as H2 hl' sm hlst hal hpr=>q l as H2 sm hl' hlst ⟨?_,fun j a w h1 h2=>?_⟩⟩
   ·show as.length=(ps.zip ds).length
    rw [List.length_zip];omega
   ·obtain ⟨k1,k2⟩:=List.getElem?_zip_eq_some.mp (show (ps.zip ds)[j]?=some w from h2)
    have hj:=(List.getElem?_eq_some_iff.mp h1).1
    have f1:vs[j]?=some (vs[j]'(by omega)):=List.getElem?_eq_getElem _
    have f2:us[j]?=some (us[j]'(by omega)):=List.getElem?_eq_getElem _
    obtain ⟨p1,g1,s1⟩:=hs.at f1
    obtain ⟨d1,g2,s2⟩:=hds.at f2
    rw [k1] at g1
    rw [k2] at g2
    cases g1
    cases g2
    exact ⟨_,_,(hpr j a _ _ h1 f1 f2).2,s1,s2⟩
  | _=>cases hf
 | @lst a v' p k ha hp =>
  walk_at "rd"
  refine ⟨_,s0.tup ha,_,YQ _ _,?_⟩
  walk_at "rd"
  refine Ym (by cases k<;>decide) (Ym (by cases k<;>decide) (Ym (by cases k<;>decide) (Ym (by cases k<;>decide) fun c hc=>⟨_,.inr hc,rfl,rfl,XE (by cases k<;>decide +kernel) ?_⟩)))
  cases hv with
  | @lst c' us ds h hl hds =>
   have e1:=hds.length
   refine UO (K:=g.K) (xs:=us) (us.map fun u=>[v',u]) (fun R r=>by walk_at "rd";exact r c' H (.refl H) (SqL.of (s0 _ _ h))) (by simp) (by omega) ?_ ?_
   ·intro i x t H' hx ht sm R r
    rw [List.getElem?_map,hx] at ht
    have:[v',x]=t:=Option.some.inj ht
    subst this
    walk_at "rd"
    exact ⟨_,(s0.trans sm).tup ha,_,YX _ _,few (by decide),fun a' ha'=>r a' _ (.upd_new ha' _) Yd⟩
   ·intro D as H' hD sm hd hal hts
    refine q D as H' sm hD hd ⟨?_,fun j a w h1 h2=>?_⟩
    ·show as.length=(ds.map fun d=>(p,d)).length
     rw [List.length_map];omega
    ·have h2':(ds.map fun d=>(p,d))[j]?=some w:=h2
     have hj:=(List.getElem?_eq_some_iff.mp h1).1
     have f2:us[j]?=some (us[j]'(by omega)):=List.getElem?_eq_getElem _
     obtain ⟨d1,g2,s2⟩:=hds.at f2
     rw [List.getElem?_map,g2] at h2'
     have:(p,d1)=w:=Option.some.inj h2'
     subst this
     exact ⟨v',_,hts j a [v',us[j]'(by omega)] h1 (by rw [List.getElem?_map,f2];rfl),hp,s2⟩
  | _=>cases hf
 | @alike a v' p n ha hp =>
  walk_at "rd"
  refine ⟨_,s0.tup ha,_,X4 _ _ _,?_⟩
  walk_at "rd"
  refine Ym (by decide) (Ym (by decide) (Ym (by decide) ?_))
  cases hv with
  | @lst c' us ds h hl hds =>
   have e1:=hds.length
   refine UO (K:=g.K) (xs:=us) (us.map fun u=>[v',u]) (fun R r=>by walk_at "rd";exact r c' H (.refl H) (SqL.of (s0 _ _ h))) (by simp) (by omega) ?_ ?_
   ·intro i x t H' hx ht sm R r
    rw [List.getElem?_map,hx] at ht
    have:[v',x]=t:=Option.some.inj ht
    subst this
    walk_at "rd"
    exact ⟨_,(s0.trans sm).tup ha,_,Ut _ _ _,few (by decide),fun a' ha'=>r a' _ (.upd_new ha' _) Yd⟩
   ·intro D as H' hD sm hd hal hts
    refine q D as H' sm hD hd ⟨?_,fun j a w h1 h2=>?_⟩
    ·show as.length=(ds.map fun d=>(p,d)).length
     rw [List.length_map];omega
    ·have h2':(ds.map fun d=>(p,d))[j]?=some w:=h2
     have hj:=(List.getElem?_eq_some_iff.mp h1).1
     have f2:us[j]?=some (us[j]'(by omega)):=List.getElem?_eq_getElem _
     obtain ⟨d1,g2,s2⟩:=hds.at f2
     rw [List.getElem?_map,g2] at h2'
     have:(p,d1)=w:=Option.some.inj h2'
     subst this
     exact ⟨v',_,hts j a [v',us[j]'(by omega)] h1 (by rw [List.getElem?_map,f2];rfl),hp,s2⟩
  | _=>cases hf
 | @pick a b' as ms us ps ha hb hbr hs hn =>
  walk_at "rd"
  refine ⟨_,s0.tup ha,_,YQ _ _,?_⟩
  walk_at "rd"
  rw [← Xd] at hf
  rw [Xe] at q
  obtain ⟨x,d',i,rfl,hi⟩:=Wa hf
  cases hv with
  | @tup c vs _ h hl hds =>
  cases hds with
  | @cons v1 _ vs1 _ h1 hds1 =>
  cases hds1 with
  | @cons v2 _ vs2 _ h2 hds2 =>
  cases hds2 with
  | nil =>
  cases h1 with
  | str l hs1 hl1 =>
  have hil:=Wu hi
  have e2:=hs.length
  obtain ⟨b1,b2,b3⟩:=hbr
  have fa:as[i]?=some (as[i]'(by omega)):=List.getElem?_eq_getElem _
  have fm:ms[i]?=some (ms[i]'(by omega)):=List.getElem?_eq_getElem _
  have fu:us[i]?=some (us[i]'(by omega)):=List.getElem?_eq_getElem _
  have fp:ps[i]?=some (ps[i]'(by omega)):=List.getElem?_eq_getElem _
  obtain ⟨p1,g1,s1⟩:=hs.at fu
  have ht:=b3 i _ _ _ fa fm fu
  have ew:XJ ms ps (.tuple [.str (S l),d'])=[(p1,d')]:=by
   show (((plc ms (S l)).bind fun i=>ps[i]?).toList.map fun p=>(p,d'))=_
   rw [hi,Option.bind_some,g1]
   rfl
  refine Ym (by decide) ⟨_,s0.tup ha,_,YX _ _,_,s0.tup ha,_,YX _ _,c,rfl,_,SqT.of (s0 _ _ h),_,YQ _ _,b',as,ms,us,S l,rfl,s0.tup hb,⟨b1,b2,fun j a m v h1 h2 h3=>s0.tup (b3 j a m v h1 h2 h3)⟩,fun H' s'=>?_⟩
  have s02:=s0.trans s'
  rw [hi]
  refine ⟨b',rfl,_,_,rfl,s02.tup hb,.ref (as[i]'(by omega)),X5 (by rw [List.getElem?_map,fa];rfl),_,rfl,_,s02.tup ht,_,YX _ _,c,rfl,_,SqT.of (s02 _ _ h),_,YX _ _,few (by decide),fun p hp=>⟨few (by decide),fun p2 hp2=>?_⟩⟩
  refine q p2 [p] _ ((s'.trans (.upd_new hp _)).trans (.upd_new hp2 _)) (s'.free ((Yc.upd_new hp _).free hp2)) Yd ?_
  rw [ew]
  refine ⟨rfl,fun j a w h1' h2'=>?_⟩
  cases j with
  | succ j=>simp at h1'
  | zero =>
   have e1:p=a:=Option.some.inj h1'
   have e2:(p1,d')=w:=Option.some.inj h2'
   subst e1 e2
   exact ⟨_,_,(Yc.upd_new hp2 _) _ _ Yd,s1,h2⟩
 | @use a nm ha =>
  walk_at "rd"
  refine ⟨_,s0.tup ha,_,YQ _ _,?_⟩
  walk_at "rd"
  obtain ⟨i,hi⟩:=hfd
  refine Ym (by decide) (Ym (by decide) ⟨_,s0.tup ha,_,YX _ _,b,bk,S nm,i,H0,rfl,s0,hbk,hi,fun y sh hsh hy=>⟨few (by decide),fun p hp=>⟨few (by decide),fun p2 hp2=>?_⟩⟩⟩)
  refine q p2 [p] _ ((Yc.upd_new hp _).trans (.upd_new hp2 _)) ((Yc.upd_new hp _).free hp2) Yd ?_
  rw [XG,hi,Option.bind_some,hsh]
  refine ⟨rfl,fun j a w h1' h2'=>?_⟩
  cases j with
  | succ j=>simp at h1'
  | zero =>
   have e1:p=a:=Option.some.inj h1'
   have e2:(sh,d)=w:=Option.some.inj h2'
   subst e1 e2
   exact ⟨_,_,(Yc.upd_new hp2 _) _ _ Yd,hy,hv⟩
def Vs (H:Hp) (ks:List V) (ns:List Nat):Prop:=ks.length=ns.length∧ks.length≤1000∧∀ (j:Nat) k n,ks[j]?=some k→ns[j]?=some n→∃ a r,k = .ref a∧H a=some (.tup (.int (n:Nat)::r))
theorem Vs.keep {H H':Hp} (e:Yc H H') {ks:List V} {ns:List Nat} (h:Vs H ks ns):Vs H' ks ns :=
 ⟨h.1,h.2.1,fun j k n h1 h2=>by obtain ⟨a,r,e1,e2⟩:=h.2.2 j k n h1 h2;exact ⟨a,r,e1,e _ _ e2⟩⟩
theorem Xa (x:V) (r:List V):atI (x::r) 0=some x:=by
 have:=X5 (xs:=x::r) (j:=0) (show (x::r)[0]?=some x from rfl)
 simpa using this
theorem YbB (ns:List Nat):(ns.map fun (n:Nat)=>(n:Int)).sum=((ns.sum:Nat):Int):=by
 induction ns with
 | nil=>rfl
 | cons n ns ih=>simp [ih]
def Zm (K:PySem.W.Frag):Sp:=fun vs H Q _=>∃ b ks ns,vs=[.ref b]∧H b=some (.lst ks)∧Vs H ks ns∧∀ H',Yc H H'→Q (.int (ns.sum:Nat)) H'
theorem Z14  (R:g.Raw "sum_of_sizes" "sum_of_sizes" Zq ["keys"]) (b_sum:g.mg "sum"=none):g.Fn (1) "sum_of_sizes" ["keys"] (Zm g.K):=by
 refine R.fn Z12 (fun vs H Q E h=>by obtain ⟨b,ks,ns,rfl,hb,hk,q⟩:=h;rfl) fun f_ cdv A outer s H vs Q E hr h=>?_
 obtain ⟨b,ks,ns,rfl,hb,hk,q⟩:=h
 refine ⟨_,(@Yg _ _ _ (@Yh _ _ _ _ (@YB _ _ _ _ _ _ _ _ _ _ b_sum XZ (@Ya _ _ _ _ _ (@X3 _ _ _ _ _ _ _ ([none]) ((["key"]:List Str)) _ (Yv 0) _ _ (.own .nil) rfl (@YT _ _ _ _ (pv 0)) (fun cl C s₀ H₀ fp pn=>(@Yp _ _ (0) _ (show List.Nodup (["key"]:List Str) by decide +kernel) rfl (.inl rfl) (.inr rfl))) (fun cl C s₀ H₀ fp pn=>Y3) (fun cl C s₀ H₀ fp pn=>(@Yk _ _ _ _ _ _ _ (X6 (K:=g.K)) (pv 0) Ye (fun _ _=>rfl))) (by intro x hx;simp at hx) (by rfl) (by decide) (by decide +kernel) (by intro _;rfl)) Yb (by rfl)) (by decide +kernel) (by rfl) (by rfl) (by decide) (by decide) (by rfl) (by rfl)))),?_⟩
 walk_at "rd"
 obtain ⟨hk1,hk2,hk3⟩:=hk
 refine VX (K:=g.K) (xs:=ks) ((ns.map fun (n:Nat)=>(n:Int)).map V.int) (fun R r=>by walk_at "rd";exact r b H (.refl H) (SqL.of hb)) (by simp [hk1]) (by omega) ?_ ?_
 ·intro i x y H' hx hy sm R r
  have hj:=(List.getElem?_eq_some_iff.mp hx).1
  have f2:ns[i]?=some (ns[i]'(by omega)):=List.getElem?_eq_getElem _
  obtain ⟨a,r',rfl,e2⟩:=hk3 i x _ hx f2
  rw [List.getElem?_map,List.getElem?_map,f2] at hy
  have:V.int ((ns[i]'(by omega):Nat):Int)=y:=Option.some.inj hy
  subst this
  walk_at "rd"
  exact ⟨_,SqT.of (sm _ _ e2),_,Xa _ _,r H' (.refl H')⟩
 ·intro D H' hD sm hd
  refine ⟨D,rfl,_,SqL.of hd,?_⟩
  rw [YbB]
  exact q H' sm
abbrev Ky:=Nat×List PyData
def kt (k:Ky):PyData := .tuple (.int (k.1:Nat)::k.2)
theorem UX {k k':Ky} (h:kt k=kt k'):k=k':=by
 obtain ⟨a,l⟩:=k
 obtain ⟨b,m⟩:=k'
 simp only [kt,PyData.tuple.injEq,List.cons.injEq,PyData.int.injEq] at h
 obtain ⟨h1,h2⟩:=h
 have:a=b:=by omega
 rw [this,h2]
def grp {α:Type} (f:α→Nat):List α→List (List α)
 | []=>[]
 | k::ks=>match grp f ks with
  | (x::g)::gs=>if f x=f k then (k::x::g)::gs else [k]::(x::g)::gs
  | r=>[k]::r
theorem Wv {α:Type} {f:α→Nat}:∀ {ks:List α} {g:List α},g∈grp f ks→g≠[]
 | [],g,h=>by cases h
 | k::ks,g,h=>by
  have ih:=fun g=>Wv (f:=f) (ks:=ks) (g:=g)
  unfold grp at h
  split at h
  ·rename_i x g' gs e
   rw [e] at ih
   split at h
   ·rcases List.mem_cons.mp h with rfl | h
    ·simp
    ·exact ih g (.tail _ h)
   ·rcases List.mem_cons.mp h with rfl | h
    ·simp
    ·exact ih g h
  ·rcases List.mem_cons.mp h with rfl | h
   ·simp
   ·exact ih g h
theorem Xk {α:Type} {f:α→Nat}:∀ (ks:List α),(grp f ks).flatten=ks
 | []=>rfl
 | k::ks=>by
  have ih:=Xk (f:=f) ks
  unfold grp
  split
  ·rename_i x g gs e
   rw [e] at ih
   split
   ·simp only [List.flatten_cons,List.cons_append] at ih ⊢
    rw [ih]
   ·simp only [List.flatten_cons,List.cons_append,List.nil_append] at ih ⊢
    rw [ih]
  ·simp only [List.flatten_cons,List.cons_append,List.nil_append]
   rw [ih]
theorem UY {α:Type} {f:α→Nat} (k:α):∀ (ks:List α),(ks=[]∧grp f (ks++[k])=[[k]])∨(∃ gs x g,grp f ks=gs++[x::g]∧f x=f k∧grp f (ks++[k])=gs++[x::g++[k]])∨∃ gs x g,grp f ks=gs++[x::g]∧f x≠f k∧grp f (ks++[k])=gs++[x::g]++[[k]]
 | [] => .inl ⟨rfl,rfl⟩
 | j::ks=>by
  rcases UY (f:=f) k ks with ⟨rfl,e⟩ | ⟨gs,x,g,e1,e2,e3⟩ | ⟨gs,x,g,e1,e2,e3⟩
  ·by_cases c:f k=f j
   ·refine .inr (.inl ⟨[],j,[],rfl,c.symm,?_⟩)
    show grp f [j,k]=_
    simp [grp,c]
   ·refine .inr (.inr ⟨[],j,[],rfl,fun z=>c z.symm,?_⟩)
    show grp f [j,k]=_
    simp [grp,c]
  ·cases gs with
   | nil =>
    simp only [List.nil_append] at e1 e3
    by_cases c:f x=f j
    ·refine .inr (.inl ⟨[],j,x::g,?_,c.symm.trans e2,?_⟩)
     ·rw [grp,e1];simp [c]
     ·rw [List.cons_append,grp,e3];simp [c]
    ·refine .inr (.inl ⟨[[j]],x,g,?_,e2,?_⟩)
     ·rw [grp,e1];simp [c]
     ·rw [List.cons_append,grp,e3];simp [c]
   | cons g0 gs =>
    cases g0 with
    | nil=>exact (Wv (f:=f) (ks:=ks) (by rw [e1];exact .head _) rfl).elim
    | cons y g0 =>
     by_cases c:f y=f j
     ·refine .inr (.inl ⟨(j::y::g0)::gs,x,g,?_,e2,?_⟩)
      ·rw [grp,e1];simp [c]
      ·rw [List.cons_append,grp,e3];simp [c]
     ·refine .inr (.inl ⟨[j]::(y::g0)::gs,x,g,?_,e2,?_⟩)
      ·rw [grp,e1];simp [c]
      ·rw [List.cons_append,grp,e3];simp [c]
  ·cases gs with
   | nil =>
    simp only [List.nil_append] at e1 e3
    by_cases c:f x=f j
    ·refine .inr (.inr ⟨[],j,x::g,?_,fun z=>e2 (c.trans z),?_⟩)
     ·rw [grp,e1];simp [c]
     ·rw [List.cons_append,grp,e3];simp [c]
    ·refine .inr (.inr ⟨[[j]],x,g,?_,e2,?_⟩)
     ·rw [grp,e1];simp [c]
     ·rw [List.cons_append,grp,e3];simp [c]
   | cons g0 gs =>
    cases g0 with
    | nil=>exact (Wv (f:=f) (ks:=ks) (by rw [e1];exact .head _) rfl).elim
    | cons y g0 =>
     by_cases c:f y=f j
     ·refine .inr (.inr ⟨(j::y::g0)::gs,x,g,?_,e2,?_⟩)
      ·rw [grp,e1];simp [c]
      ·rw [List.cons_append,grp,e3];simp [c]
     ·refine .inr (.inr ⟨[j]::(y::g0)::gs,x,g,?_,e2,?_⟩)
      ·rw [grp,e1];simp [c]
      ·rw [List.cons_append,grp,e3];simp [c]
theorem VI {α β:Type} {f:β→Nat} (h:α→β):∀ (ks:List α),grp f (ks.map h)=(grp (fun a=>f (h a)) ks).map (List.map h)
 | []=>rfl
 | k::ks=>by
  rw [List.map_cons,grp,grp,VI h ks]
  cases e:grp (fun a=>f (h a)) ks with
  | nil=>rfl
  | cons g gs =>
   cases g with
   | nil=>rfl
   | cons x g =>
    show (if f (h x)=f (h k) then _ else _)=_
    by_cases c:f (h x)=f (h k)
    ·rw [if_pos c];simp [c]
    ·rw [if_neg c];simp [c]
def blk:List Ky→List PyData
 | []=>[]
 | k::g => .int (-(k.1:Int)) :: .int ((g.length+1:Nat):Int)::((k::g).map kt).reverse
def ris (ks:List Ky):List PyData:=(grp (fun k:Ky=>k.1) ks).flatMap blk
def Adj {α:Type} (R:α→α→Prop):List α→Prop
 | []=>True
 | [_]=>True
 | a::b::l=>R a b∧Adj R (b::l)
theorem VJ {α:Type} {R:α→α→Prop}:∀ {l:List α},Adj R l↔∀ (i:Nat) a b,l[i]?=some a→l[i+1]?=some b→R a b
 | []=>⟨fun _ i a b h=>by simp at h,fun _=>trivial⟩
 | [x]=>⟨fun _ i a b h h'=>by simp at h',fun _=>trivial⟩
 | x::y::l=>by
  have ih:=VJ (R:=R) (l:=y::l)
  refine ⟨fun h i a b h1 h2=>?_,fun h=>⟨h 0 x y rfl rfl,ih.mpr fun i a b h1 h2=>h (i+1) a b (by simpa using h1) (by simpa using h2)⟩⟩
  cases i with
  | zero =>
   have e1:x=a:=Option.some.inj h1
   have e2:y=b:=Option.some.inj h2
   subst e1 e2
   exact h.1
  | succ i=>exact ih.mp h.2 i a b (by simpa using h1) (by simpa using h2)
open Classical in
noncomputable def kz:Sh→PyData→List Ky→Option Ky
 | .whole lo _,.int i,_=>some (Builtin.Int.intBits (i - lo),[.int i])
 | .text signs,.str x,_=>some (x.length,x.cps.toList.map fun c => .int (Txt.find (S signs) (S [c])))
 | .row _,_,ks=>some ((ks.map (·.1)).sum,ks.map kt)
 | .lst .many _,_,ks=>some (ks.length+(ks.map (·.1)).sum,ks.map kt)
 | .lst .rising _,_,ks=>if Adj (fun a b=>¬ KLt (kt b) (kt a)) ks then some (ks.length+(ks.map (·.1)).sum,ris ks) else none
 | .lst .unlike _,_,ks=>if Adj (fun a b=>KLt (kt a) (kt b)) ks then some (ks.length+(ks.map (·.1)).sum,ris ks) else none
 | .alike _ _,_,ks=>if ∀ k∈ks,ks.head?=some k then some (ks.length+(ks.map (·.1)).sum,(ks.take 1).map kt) else none
 | .pick ms _,.tuple [.str x,_],k::_=>some (k.1,[.int ((plc ms x).getD 0:Nat),kt k])
 | .use _,_,k::_=>some (1+k.1,[kt k])
 | _,_,_=>some (0,[])
def fnd (bk:Bk) (sh:Sh) (d:PyData):Bool:=match sh with
 | .use _ => !(YI bk sh d).isEmpty
 | .pick _ _ => !(YI bk sh d).isEmpty
 | _=>true
noncomputable def ky (bk:Bk):Nat→Sh→PyData→Option Ky
 | 0,_,_=>none
 | n+1,sh,d=>if (YM sh d&&fnd bk sh d)=true then ((YI bk sh d).mapM fun w=>ky bk n w.1 w.2).bind (kz sh d) else none
theorem Wb {α β:Type} {f:α→Option β} {P:β→Prop}:∀ {l:List α} {r:List β},l.mapM f=some r→(∀ a∈l,∀ b,f a=some b→P b)→∀ b∈r,P b
 | [],r,h,_=>by
  rw [List.mapM_nil] at h
  cases h
  intro b hb
  cases hb
 | a::l,r,h,hp=>by
  rw [List.mapM_cons] at h
  cases e1:f a with
  | none=>rw [e1] at h;cases h
  | some b =>
   cases e2:l.mapM f with
   | none=>rw [e1,e2] at h;cases h
   | some bs =>
    rw [e1,e2] at h
    cases h
    intro c hc
    rcases List.mem_cons.mp hc with rfl | hc
    ·exact hp a (.head _) _ e1
    ·exact Wb e2 (fun a ha=>hp a (.tail _ ha)) c hc
theorem XL {α β:Type} {f:α→Option β} {a:α} {l:List α} {r:List β} (h:(a::l).mapM f=some r):∃ b bs,f a=some b∧l.mapM f=some bs∧r=b::bs:=by
 rw [List.mapM_cons] at h
 cases e1:f a with
 | none=>rw [e1] at h;cases h
 | some b =>
  cases e2:l.mapM f with
  | none=>rw [e1,e2] at h;cases h
  | some bs =>
   rw [e1,e2] at h
   cases h
   exact ⟨b,bs,rfl,rfl,rfl⟩
theorem X1 {α β:Type} {f:α→Option β} {r:List β} (h:([]:List α).mapM f=some r):r=[]:=by
 rw [List.mapM_nil] at h
 cases h
 rfl
theorem Ya2:∀ {ds:List PyData},(∀ d∈ds,KD d)→KDs ds
 | [],_ => .nil
 | d::ds,h => .cons (h d (.head _)) (Ya2 fun d hd=>h d (.tail _ hd))
theorem QJ {P:PyData→Prop} {ks:List Ky} (hi:∀ i:Int,P (.int i)) (hk:∀ k∈ks,P (kt k)):∀ d∈ris ks,P d:=fun d hd=>by
 unfold ris at hd
 obtain ⟨g,hg,hd⟩:=List.mem_flatMap.mp hd
 have hin:∀ k∈g,k∈ks:=fun k h=>by
  have:=List.mem_flatten.mpr ⟨g,hg,h⟩
  rw [Xk] at this
  exact this
 cases g with
 | nil=>cases hd
 | cons k g =>
  rcases List.mem_cons.mp hd with rfl | hd
  ·exact hi _
  ·rcases List.mem_cons.mp hd with rfl | hd
   ·exact hi _
   ·obtain ⟨k',hk',rfl⟩:=List.mem_map.mp (List.mem_reverse.mp hd)
    exact hk k' (hin k' hk')
theorem Ya3 {P:PyData→Prop} {sh:Sh} {d:PyData} {ks:List Ky} {k:Ky} (h:kz sh d ks=some k) (hi:∀ i:Int,P (.int i)) (hk:∀ k∈ks,P (kt k)):∀ e∈k.2,P e:=by
 unfold kz at h
 have keys:∀ e∈ks.map kt,P e:=fun e he=>by obtain ⟨c,hc,rfl⟩:=List.mem_map.mp he;exact hk c hc
 split at h
 ·cases h;intro e he;rw [List.mem_singleton.mp he];exact hi _
 ·cases h;intro e he;obtain ⟨c,_,rfl⟩:=List.mem_map.mp he;exact hi _
 ·cases h;exact keys
 ·cases h;exact keys
 ·split at h
  ·cases h;exact QJ hi hk
  ·cases h
 ·split at h
  ·cases h;exact QJ hi hk
  ·cases h
 ·split at h
  ·cases h
   intro e he
   obtain ⟨c,hc,rfl⟩:=List.mem_map.mp he
   exact hk c (List.mem_of_mem_take hc)
  ·cases h
 ·cases h
  intro e he
  rcases List.mem_cons.mp he with rfl | he
  ·exact hi _
  ·rw [List.mem_singleton.mp he];exact hk _ (.head _)
 ·cases h;intro e he;rw [List.mem_singleton.mp he];exact hk _ (.head _)
 ·cases h;intro e he;cases he
theorem W0 {bk:Bk} {n:Nat} {sh:Sh} {d:PyData} {k:Ky} (h:ky bk (n+1) sh d=some k):YM sh d=true∧fnd bk sh d=true∧∃ ks,(YI bk sh d).mapM (fun w=>ky bk n w.1 w.2)=some ks∧kz sh d ks=some k:=by
 rw [ky] at h
 by_cases hf:(YM sh d&&fnd bk sh d)=true
 ·rw [if_pos hf] at h
  rw [Bool.and_eq_true] at hf
  obtain ⟨ks,h1,h2⟩:=Option.bind_eq_some_iff.mp h
  exact ⟨hf.1,hf.2,ks,h1,h2⟩
 ·rw [if_neg hf] at h;cases h
theorem W1 {bk:Bk}:∀ {n:Nat} {sh:Sh} {d:PyData} {k:Ky},ky bk n sh d=some k→KD (kt k)
 | 0,_,_,_,h=>by cases h
 | n+1,sh,d,k,h=>by
  obtain ⟨_,_,ks,hks,hz⟩:=W0 h
  have hall:=Wb (P:=fun k=>KD (kt k)) hks fun w _ b hb=>W1 hb
  exact .tup (.cons (.int _) (Ya2 (Ya3 hz .int hall)))
theorem V4 {ds:List PyData} {n:Nat} (h:∀ d∈ds,d.depth≤n):PyData.depthAll ds≤n:=by
 induction ds with
 | nil=>simp [PyData.depthAll]
 | cons d ds ih =>
  have h1:=h d (.head _)
  have h2:=ih fun d hd=>h d (.tail _ hd)
  simp only [PyData.depthAll]
  omega
theorem Vb {bk:Bk}:∀ {n:Nat} {sh:Sh} {d:PyData} {k:Ky},ky bk n sh d=some k→(kt k).depth≤n+1
 | 0,_,_,_,h=>by cases h
 | n+1,sh,d,k,h=>by
  obtain ⟨_,_,ks,hks,hz⟩:=W0 h
  have hall:=Wb (P:=fun k=>(kt k).depth≤n+1) hks fun w _ b hb=>Vb hb
  have hi:∀ i:Int,(PyData.int i).depth≤n+1:=fun i=>by simp [PyData.depth]
  rw [kt,PyData.depth]
  have key:PyData.depthAll (.int (k.1:Nat)::k.2)≤n+1:=V4 fun e he=>by
   rcases List.mem_cons.mp he with rfl | he
   ·exact hi _
   ·exact Ya3 (P:=fun e=>e.depth≤n+1) hz hi hall e he
  omega
theorem UZ:∀ {as bs xs ys:List PyData},as.length=bs.length→(∀ a∈as,∀ b∈bs,Sim a b)→(as=bs→Sims xs ys)→Sims (as++xs) (bs++ys)
 | [],[],_,_,_,_,h=>h rfl
 | a::as,b::bs,_,_,hl,hs,h => .cons (hs a (.head _) b (.head _)) fun e=>UZ (Nat.succ.inj hl) (fun a' h1 b' h2=>hs a' (.tail _ h1) b' (.tail _ h2)) fun e'=>h (by rw [e,e'])
 | [],_::_,_,_,hl,_,_=>by cases hl
 | _::_,[],_,_,hl,_,_=>by cases hl
theorem V5 {ks ks':List Ky}:∀ (hs:∀ k∈ks,∀ k'∈ks',Sim (kt k) (kt k')),Sims (ks.map kt) (ks'.map kt):=by
 induction ks generalizing ks' with
 | nil=>exact fun _ => .nil
 | cons k ks ih =>
  intro hs
  cases ks' with
  | nil=>exact .end_
  | cons k' ks'=>exact .cons (hs k (.head _) k' (.head _)) fun _=>ih fun a h1 b h2=>hs a (.tail _ h1) b (.tail _ h2)
theorem V6:∀ {gs gs':List (List Ky)},(∀ g∈gs,g≠[])→(∀ g∈gs',g≠[])→(∀ g∈gs,∀ k∈g,∀ g'∈gs',∀ k'∈g',Sim (kt k) (kt k'))→Sims (gs.flatMap blk) (gs'.flatMap blk)
 | [],_,_,_,_ => .nil
 | _::_,[],_,_,_ => .end_
 | g::gs,g'::gs',h1,h2,hs=>by
  rw [List.flatMap_cons,List.flatMap_cons]
  cases g with
  | nil=>exact (h1 [] (.head _) rfl).elim
  | cons k g =>
  cases g' with
  | nil=>exact (h2 [] (.head _) rfl).elim
  | cons k' g' =>
  refine .cons (.int _ _) fun _ => .cons (.int _ _) fun e=>UZ ?_ (fun a ha b hb=>?_) fun _=>V6 (fun g h=>h1 g (.tail _ h)) (fun g h=>h2 g (.tail _ h)) fun g h k hk g' h' k' hk'=>hs g (.tail _ h) k hk g' (.tail _ h') k' hk'
  ·have:=PyData.int.inj e
   simp only [List.length_reverse,List.length_map,List.length_cons]
   omega
  ·obtain ⟨x,hx,rfl⟩:=List.mem_map.mp (List.mem_reverse.mp ha)
   obtain ⟨y,hy,rfl⟩:=List.mem_map.mp (List.mem_reverse.mp hb)
   exact hs _ (.head _) x hx _ (.head _) y hy
theorem YbC {ks ks':List Ky} (hs:∀ k∈ks,∀ k'∈ks',Sim (kt k) (kt k')):Sims (ris ks) (ris ks'):=by
 have hin:∀ {ks:List Ky} {g:List Ky},g∈grp (fun k:Ky=>k.1) ks→∀ k∈g,k∈ks:=fun {ks g} hg k h=>by
  have:=List.mem_flatten.mpr ⟨g,hg,h⟩
  rw [Xk] at this
  exact this
 exact V6 (fun g h=>Wv h) (fun g h=>Wv h) fun g h k hk g' h' k' hk'=>hs k (hin h k hk) k' (hin h' k' hk')
theorem Ya4 {ks ks':List Ky} (hs:∀ k∈ks,∀ k'∈ks',Sim (kt k) (kt k')):Sims ((ks.take 1).map kt) ((ks'.take 1).map kt) :=
 V5 fun k h k' h'=>hs k (List.mem_of_mem_take h) k' (List.mem_of_mem_take h')
theorem V7:∀ (as bs:List Int),Sims (as.map PyData.int) (bs.map PyData.int)
 | [],_ => .nil
 | _::_,[] => .end_
 | a::as,b::bs => .cons (.int a b) fun _=>V7 as bs
theorem U0 {f:Sh×PyData→Option Ky} (ih:∀ sh d d' k k',f (sh,d)=some k→f (sh,d')=some k'→Sim (kt k) (kt k')):∀ {ws ws':List (Sh×PyData)} {ks ks':List Ky},ws.mapM f=some ks→ws'.mapM f=some ks'→(∀ (i:Nat) w w',ws[i]?=some w→ws'[i]?=some w'→w.1=w'.1)→Sims (ks.map kt) (ks'.map kt)
 | [],_,ks,ks',h,h',_=>by
  cases X1 h
  exact .nil
 | w::ws,[],ks,ks',h,h',_=>by
  cases X1 h'
  exact .end_
 | w::ws,w'::ws',ks,ks',h,h',hs=>by
  obtain ⟨b,bs,e1,e2,rfl⟩:=XL h
  obtain ⟨b',bs',e1',e2',rfl⟩:=XL h'
  have hw:w.1=w'.1:=hs 0 w w' rfl rfl
  obtain ⟨sh,d⟩:=w
  obtain ⟨sh',d'⟩:=w'
  cases (show sh=sh' from hw)
  exact .cons (ih sh d d' b b' e1 e1') fun _=>U0 ih e2 e2' fun i w w' a c=>hs (i+1) w w' (by simpa using a) (by simpa using c)
theorem V8 {f:Sh×PyData→Option Ky} {p:Sh} (ih:∀ sh d d' k k',f (sh,d)=some k→f (sh,d')=some k'→Sim (kt k) (kt k')) {ds ds':List PyData} {ks ks':List Ky} (h:(ds.map fun d=>(p,d)).mapM f=some ks) (h':(ds'.map fun d=>(p,d)).mapM f=some ks'):∀ k∈ks,∀ k'∈ks',Sim (kt k) (kt k'):=by
 have ex:∀ {ds:List PyData} {ks:List Ky},(ds.map fun d=>(p,d)).mapM f=some ks→∀ k∈ks,∃ d,f (p,d)=some k:=fun {ds ks} h=>Wb (P:=fun k=>∃ d,f (p,d)=some k) h fun a ha b hb=>by
  obtain ⟨d,_,rfl⟩:=List.mem_map.mp ha
  exact ⟨d,hb⟩
 intro k hk k' hk'
 obtain ⟨d,hd⟩:=ex h k hk
 obtain ⟨d',hd'⟩:=ex h' k' hk'
 exact ih p d d' k k' hd hd'
theorem WD {f:Sh×PyData→Option Ky} {w:Sh×PyData} {ks:List Ky} (h:[w].mapM f=some ks):∃ b,f w=some b∧ks=[b]:=by
 obtain ⟨b,bs,e1,e2,rfl⟩:=XL h
 cases X1 e2
 exact ⟨b,e1,rfl⟩
theorem Ya5 {nm:List Nat} {d:PyData} {k:Ky} {ks:List Ky}:kz (.use nm) d (k::ks)=some (1+k.1,[kt k]):=by cases d<;>rfl
theorem Ya6 {c:LK} {p:Sh} {ds:List PyData} {ks:List Ky} {k:Ky} (h:kz (.lst c p) (.list ds) ks=some k):k.2=ks.map kt∧c = .many∨k.2=ris ks∧c ≠ .many:=by
 cases c with
 | many=>cases h;exact .inl ⟨rfl,rfl⟩
 | rising =>
  unfold kz at h
  dsimp only at h
  split at h
  ·cases h;exact .inr ⟨rfl,by simp⟩
  ·cases h
 | unlike =>
  unfold kz at h
  dsimp only at h
  split at h
  ·cases h;exact .inr ⟨rfl,by simp⟩
  ·cases h
theorem U3 {bk:Bk}:∀ {n:Nat} (sh:Sh) (d d':PyData) (k k':Ky),ky bk n sh d=some k→ky bk n sh d'=some k'→Sim (kt k) (kt k')
 | 0,_,_,_,_,_,h,_=>by cases h
 | n+1,sh,d,d',k,k',h,h'=>by
  obtain ⟨hf,hn,ks,hks,hz⟩:=W0 h
  obtain ⟨hf',hn',ks',hks',hz'⟩:=W0 h'
  have ih:=fun sh d d' k k'=>U3 (bk:=bk) (n:=n) sh d d' k k'
  refine .tup (.cons (.int _ _) fun _=>?_)
  cases sh with
  | whole lo hi =>
   cases d<;>simp only [YM,Bool.false_eq_true] at hf
   cases d'<;>simp only [YM,Bool.false_eq_true] at hf'
   cases hz
   cases hz'
   exact .cons (.int _ _) fun _ => .nil
  | lst c p =>
   cases d<;>simp only [YM,Bool.false_eq_true] at hf
   cases d'<;>simp only [YM,Bool.false_eq_true] at hf'
   have ks:=V8 ih hks hks'
   rcases Ya6 hz with ⟨e,c1⟩ | ⟨e,c1⟩<;>rcases Ya6 hz' with ⟨e',c2⟩ | ⟨e',c2⟩
   ·rw [e,e'];exact V5 ks
   ·exact (c2 c1).elim
   ·exact (c1 c2).elim
   ·rw [e,e'];exact YbC ks
  | alike p m =>
   cases d<;>simp only [YM,Bool.false_eq_true] at hf
   cases d'<;>simp only [YM,Bool.false_eq_true] at hf'
   have ks:=V8 ih hks hks'
   unfold kz at hz hz'
   dsimp only at hz hz'
   split at hz<;>cases hz
   split at hz'<;>cases hz'
   exact Ya4 ks
  | row ps =>
   cases d<;>simp only [YM,Bool.false_eq_true] at hf
   cases d'<;>simp only [YM,Bool.false_eq_true] at hf'
   cases hz
   cases hz'
   exact U0 ih hks hks' fun i w w' a b=>by
    simp only [YI,List.getElem?_zip_eq_some] at a b
    exact Option.some.inj (a.1.symm.trans b.1)
  | text signs =>
   cases d<;>simp only [YM,Bool.false_eq_true] at hf
   cases d'<;>simp only [YM,Bool.false_eq_true] at hf'
   cases hz
   cases hz'
   have e1:∀ y:Str,(y.cps.toList.map fun c=>PyData.int (Txt.find (S signs) (S [c])))=(y.cps.toList.map fun c=>Txt.find (S signs) (S [c])).map PyData.int:=fun y=>by rw [List.map_map];rfl
   dsimp only
   rw [e1,e1]
   exact V7 _ _
  | use nm =>
   cases ho:(plc (bk.map (·.1)) (S nm)).bind fun i=>(bk.map (·.2))[i]? with
   | none =>
    simp only [fnd] at hn
    rw [XG,ho] at hn
    simp at hn
   | some p =>
    rw [XG,ho] at hks hks'
    obtain ⟨b,e1,rfl⟩:=WD (w:=(p,d)) hks
    obtain ⟨b',e1',rfl⟩:=WD (w:=(p,d')) hks'
    rw [Ya5] at hz hz'
    cases hz
    cases hz'
    exact .cons (ih p d d' b b' e1 e1') fun _ => .nil
  | pick ms ps =>
   obtain ⟨x,e,i,rfl,hx⟩:=Wa (ms:=ms) (d:=d) (by rw [Xd ps];exact hf)
   obtain ⟨x',e',i',rfl,hx'⟩:=Wa (ms:=ms) (d:=d') (by rw [Xd ps];exact hf')
   have w1:YI bk (.pick ms ps) (.tuple [.str x,e])=(ps[i]?).toList.map fun p=>(p,e):=by
    rw [Xe];show (((plc ms x).bind fun i=>ps[i]?).toList.map fun p=>(p,e))=_;rw [hx];rfl
   have w2:YI bk (.pick ms ps) (.tuple [.str x',e'])=(ps[i']?).toList.map fun p=>(p,e'):=by
    rw [Xe];show (((plc ms x').bind fun i=>ps[i]?).toList.map fun p=>(p,e'))=_;rw [hx'];rfl
   simp only [fnd] at hn hn'
   rw [w1] at hn hks
   rw [w2] at hn' hks'
   cases hp:ps[i]? with
   | none=>rw [hp] at hn;simp at hn
   | some p =>
   cases hp':ps[i']? with
   | none=>rw [hp'] at hn';simp at hn'
   | some p' =>
   rw [hp] at hks
   rw [hp'] at hks'
   obtain ⟨b,e1,rfl⟩:=WD (w:=(p,e)) hks
   obtain ⟨b',e1',rfl⟩:=WD (w:=(p',e')) hks'
   simp only [kz,hx,hx',Option.getD_some,Option.some.injEq] at hz hz'
   subst hz hz'
   refine .cons (.int _ _) fun z => .cons ?_ fun _ => .nil
   have hi:i=i':=by have:=PyData.int.inj z;omega
   subst hi
   rw [hp] at hp'
   cases hp'
   exact ih p e e' b b' e1 e1'
mutual
inductive KAt (H:Hp):V→PyData→Prop
 | int (i:Int):KAt H (.int i) (.int i)
 | tup {a:Addr} {vs:List V} {ds:List PyData}:H a=some (.tup vs)→KAts H vs ds→KAt H (.ref a) (.tuple ds)
inductive KAts (H:Hp):List V→List PyData→Prop
 | nil:KAts H [] []
 | cons {v:V} {d:PyData} {vs:List V} {ds:List PyData}:KAt H v d→KAts H vs ds→KAts H (v::vs) (d::ds)
end
def Tps (H H':Hp):Prop:=∀ a vs,H a=some (.tup vs)→H' a=some (.tup vs)
theorem YL {H H':Hp} (s:Yc H H'):Tps H H':=fun a vs h=>s a _ h
theorem Tps.trans {H H' H'':Hp} (s:Tps H H') (t:Tps H' H''):Tps H H'':=fun a vs h=>t a vs (s a vs h)
theorem Tps.upd_lst {H:Hp} {p:Addr} {xs ys:List V} (h:H p=some (.lst xs)):Tps H (upd H p (.lst ys)):=fun a vs ha=>by
 rw [Yl (Um ha h (by intro z;cases z))];exact ha
mutual
theorem KAt.keep {H H':Hp} (e:Tps H H'):∀ {v:V} {d:PyData},KAt H v d→KAt H' v d
 | _,_,.int i => .int i
 | _,_,.tup h hs => .tup (e _ _ h) (hs.keep e)
theorem KAts.keep {H H':Hp} (e:Tps H H'):∀ {vs:List V} {ds:List PyData},KAts H vs ds→KAts H' vs ds
 | _,_,.nil => .nil
 | _,_,.cons h hs => .cons (h.keep e) (hs.keep e)
end
mutual
theorem KAt.den {K:PySem.W.Frag} {H:Hp}:∀ {v:V} {d:PyData},KAt H v d→Den K H v d
 | _,_,.int i => .int i
 | _,_,.tup h hs => .tup (SqT.of h) hs.den
theorem KAts.den {K:PySem.W.Frag} {H:Hp}:∀ {vs:List V} {ds:List PyData},KAts H vs ds→Dens K H vs ds
 | _,_,.nil => .nil
 | _,_,.cons h hs => .cons h.den hs.den
end
theorem KAts.length {H:Hp}:∀ {vs:List V} {ds:List PyData},KAts H vs ds→vs.length=ds.length
 | _,_,.nil=>rfl
 | _,_,.cons _ hs=>congrArg (·+1) hs.length
theorem KAts.append {H:Hp} {vs':List V} {ds':List PyData}:∀ {vs:List V} {ds:List PyData},KAts H vs ds→KAts H vs' ds'→KAts H (vs++vs') (ds++ds')
 | _,_,.nil,h=>h
 | _,_,.cons a b,h => .cons a (b.append h)
abbrev X2 (H:Hp) (ks:List V) (kk:List Ky):Prop:=KAts H ks (kk.map kt)
theorem X7 {H:Hp} {v:V} {k:Ky} (h:KAt H v (kt k)):∃ a r,v = .ref a∧H a=some (.tup (.int (k.1:Nat)::r)):=by
 generalize hd:kt k=d at h
 cases h with
 | int i=>simp [kt] at hd
 | @tup a vs ds h hs =>
  have:ds = .int (k.1:Nat)::k.2:=by simpa [kt] using hd.symm
  subst this
  cases hs with
  | cons h1 h2 =>
   cases h1
   exact ⟨a,_,rfl,h⟩
theorem X2.keyed {H:Hp}:∀ {ks:List V} {kk:List Ky},X2 H ks kk→ks.length≤1000→Vs H ks (kk.map (·.1))
 | ks,kk,h,hl=>by
  have hlen:=h.length
  rw [List.length_map] at hlen
  refine ⟨by rw [List.length_map];exact hlen,hl,fun j k n h1 h2=>?_⟩
  clear hl hlen
  induction kk generalizing ks j with
  | nil=>simp at h2
  | cons k0 kk ih =>
   cases h with
   | cons a b =>
    cases j with
    | zero =>
     have e1:_=k:=Option.some.inj h1
     have e2:k0.1=n:=Option.some.inj h2
     subst e1 e2
     exact X7 a
    | succ j=>exact ih _ b j (by simpa using h1) (by simpa using h2)
theorem YcZ {bk:Bk} {K:PySem.W.Frag} {H:Hp} {x:V} {sh:Sh} {d:PyData} (hx:ShAt K H x sh) (hf:YM sh d=true) (hF:Fnd bk sh):fnd bk sh d=true:=by
 cases hx with
 | whole | text | row | lst | alike=>rfl
 | @pick a b' as ms us ps ha hb' hbr hs hn =>
  rw [← Xd] at hf
  obtain ⟨x,d',i,rfl,hi⟩:=Wa hf
  have hil:=Wu hi
  have e2:=hs.length
  have b2:=hbr.2.1
  have fp:ps[i]?=some (ps[i]'(by omega)):=List.getElem?_eq_getElem _
  unfold fnd
  dsimp only
  rw [Xe,show XJ ms ps (.tuple [.str x,d'])=[(ps[i]'(by omega),d')] from by
   show (((plc ms x).bind fun i=>ps[i]?).toList.map fun p=>(p,d'))=_
   rw [hi,Option.bind_some,fp]
   rfl]
  rfl
 | @use a nm ha =>
  obtain ⟨i,hi⟩:=hF
  have hil:=Wu hi
  rw [List.length_map] at hil
  have fp:(bk.map (·.2))[i]?=some ((bk.map (·.2))[i]'(by rw [List.length_map];exact hil)):=List.getElem?_eq_getElem _
  unfold fnd
  dsimp only
  rw [XG,hi,Option.bind_some,fp]
  rfl
theorem KAts.at {H:Hp}:∀ {vs:List V} {ds:List PyData} {i:Nat} {v:V},KAts H vs ds→vs[i]?=some v→∃ d,ds[i]?=some d∧KAt H v d
 | _,_,0,v,.cons a _,h=>by
  have:_=v:=Option.some.inj h
  subst this
  exact ⟨_,rfl,a⟩
 | _,_,i+1,v,.cons _ b,h=>b.at (i:=i) h
def Cmp (kk:List Ky):Prop:=∀ k∈kk,KD (kt k)∧(kt k).depth≤64∧∀ k'∈kk,Sim (kt k) (kt k')
open Classical in
noncomputable def bz {α:Type} (R:α→α→Prop) (l:List α):List Bool:=(l.zip l.tail).map fun p=>decide (R p.1 p.2)
open Classical in
theorem U4 {α:Type} {R:α→α→Prop}:∀ (l:List α),(bz R l).all id=decide (Adj R l)
 | []=>(@decide_eq_true (Adj R []) (propDecidable _) trivial).symm
 | [x]=>(@decide_eq_true (Adj R [x]) (propDecidable _) trivial).symm
 | x::y::l=>by
  have ih:=U4 (R:=R) (y::l)
  unfold bz at ih ⊢
  rw [List.tail_cons,List.zip_cons_cons,List.map_cons,List.all_cons]
  rw [List.tail_cons] at ih
  rw [ih,Bool.eq_iff_iff]
  simp only [Bool.and_eq_true,decide_eq_true_eq,id]
  exact Iff.rfl
theorem Ya7 {α:Type} {R:α→α→Prop} (l:List α):(bz R l).length=l.length - 1:=by
 unfold bz
 rw [List.length_map,List.length_zip,List.length_tail]
 omega
open Classical in
theorem Yb2 {α:Type} {R:α→α→Prop} {l:List α} {i:Nat} {a b:α} (h1:l[i]?=some a) (h2:l[i+1]?=some b):(bz R l)[i]?=some (decide (R a b)):=by
 unfold bz
 rw [List.getElem?_map,(List.getElem?_zip_eq_some (z:=(a,b))).mpr ⟨h1,by rw [List.getElem?_tail];exact h2⟩]
 rfl
theorem V9 (xs:List V):Y6 xs (some 1) none=xs.drop 1:=Ycj xs 1
open Classical in
def Z0s (K:PySem.W.Frag):Sp:=fun vs H Q _=>∃ b ks kk,vs=[.ref b]∧H b=some (.lst ks)∧ks.length≤1000∧X2 H ks kk∧Cmp kk∧∀ H',Yc H H'→Q (.bl (decide (Adj (fun a b=>¬ KLt (kt b) (kt a)) kk))) H'
theorem Uk  (R:g.Raw "none_ahead" "none_ahead" ZI ["keys"]) (b_all:g.mg "all"=none) (b_zip:g.mg "zip"=none):g.Fn (1) "none_ahead" ["keys"] (Z0s g.K):=by
 refine R.fn Ui (fun vs H Q E h=>by obtain ⟨b,ks,kk,rfl,hb,hl,hkd,hc,q⟩:=h;rfl) fun f_ cdv A outer s H vs Q E hr h=>?_
 obtain ⟨b,ks,kk,rfl,hb,hl,hkd,hc,q⟩:=h
 refine ⟨_,(@Yg _ _ _ (@Yh _ _ _ _ (@YB _ _ _ _ _ _ _ _ _ _ b_all (Xo rfl) (@Ya _ _ _ _ _ (@X3 _ _ _ _ _ _ _ ([none,none]) ((["one","other"]:List Str)) _ (XY g.K 2 (YS (Yv 0) (YS (Yv 1) XX))) _ _ (.own (.own .nil)) rfl (@VD _ _ _ _ _ _ _ _ _ rfl b_zip (@Ya _ _ _ _ _ (pv 0) (@Ya _ _ _ _ _ (@Wz _ _ _ _ _ _ _ _ _ _ WW (pv 0) (@Wp _ _ _ Ye) VA) Yb (by rfl)) (by rfl)) (by rfl) (by rfl)) (fun cl C s₀ H₀ fp pn=>(@Xz _ _ _ _ _ (2) rfl (@YK _ _ _ _ _ (@Yp _ _ (0) _ (show List.Nodup (["one","other"]:List Str) by decide +kernel) rfl (.inl rfl) (.inr rfl)) (@YK _ _ _ _ _ (@Yp _ _ (1) _ (show List.Nodup (["one","other"]:List Str) by decide +kernel) rfl (.inl rfl) (.inr rfl)) Xm (by rfl)) (by rfl)) (by rfl) (by rfl))) (fun cl C s₀ H₀ fp pn=>Y3) (fun cl C s₀ H₀ fp pn=>(@YU _ _ _ _ _ _ _ _ (Ycr (K:=g.K) hr.units66) (pv 0) (pv 1) (Yj _))) (by intro x hx;simp at hx) (by rfl) (by decide) (by decide +kernel) (by intro _;rfl)) Yb (by rfl)) (by decide +kernel) (by rfl) (by rfl) (by decide) (by decide) (by rfl) (by rfl)))),?_⟩
 walk_at "rd"
 have hlen:=hkd.length
 rw [List.length_map] at hlen
 refine V2 (K:=g.K) (xs:=ks) (ys:=ks.drop 1) ((bz (fun a b=>¬ KLt (kt b) (kt a)) kk).map V.bl) (fun R r=>?_) (by rw [List.length_map,Ya7,List.length_drop];omega) (by omega) ?_ ?_
 ·walk_at "rd"
  exact ⟨ks,SqL.of hb,fun p hp=>r b p _ (.upd_new hp _) (SqL.of ((Yc.upd_new hp _) _ _ hb)) (SqL.of (by rw [Yd,V9]))⟩
 ·intro i x y z H' hx hy hz sm R r
  rw [List.getElem?_drop,Nat.add_comm] at hy
  obtain ⟨d1,e1,k1⟩:=hkd.at hx
  obtain ⟨d2,e2,k2⟩:=hkd.at hy
  rw [List.getElem?_map] at e1 e2
  obtain ⟨a1,f1,rfl⟩:=Option.map_eq_some_iff.mp e1
  obtain ⟨a2,f2,rfl⟩:=Option.map_eq_some_iff.mp e2
  rw [List.getElem?_map,Yb2 f1 f2] at hz
  have:V.bl _=z:=Option.some.inj hz
  subst this
  walk_at "rd"
  obtain ⟨c1,c2,c3⟩:=hc a1 (List.mem_of_getElem? f1)
  obtain ⟨c4,c5,c6⟩:=hc a2 (List.mem_of_getElem? f2)
  obtain ⟨bb,hle,hbb⟩:=(c3 a2 (List.mem_of_getElem? f2)).answerLe c1 c4
  refine ⟨_,(k1.keep (YL sm)).den,_,(k2.keep (YL sm)).den,_,hle,c2,?_⟩
  rw [show bb=@decide (¬ KLt (kt a2) (kt a1)) (Classical.propDecidable _) from Bool.eq_iff_iff.mpr (hbb.trans (@decide_eq_true_iff _ (Classical.propDecidable _)).symm)]
  exact r H' (.refl H')
 ·intro D H' hD sm hd
  refine ⟨D,rfl,_,SqL.of hd,?_⟩
  rw [U4]
  exact q H' sm
open Classical in
def Z0t (K:PySem.W.Frag):Sp:=fun vs H Q _=>∃ b ks kk,vs=[.ref b]∧H b=some (.lst ks)∧ks.length≤1000∧X2 H ks kk∧Cmp kk∧∀ H',Yc H H'→Q (.bl (decide (Adj (fun a b=>KLt (kt a) (kt b)) kk))) H'
theorem Ul  (R:g.Raw "all_behind" "all_behind" ZJ ["keys"]) (b_all:g.mg "all"=none) (b_zip:g.mg "zip"=none):g.Fn (1) "all_behind" ["keys"] (Z0t g.K):=by
 refine R.fn Uj (fun vs H Q E h=>by obtain ⟨b,ks,kk,rfl,hb,hl,hkd,hc,q⟩:=h;rfl) fun f_ cdv A outer s H vs Q E hr h=>?_
 obtain ⟨b,ks,kk,rfl,hb,hl,hkd,hc,q⟩:=h
 refine ⟨_,(@Yg _ _ _ (@Yh _ _ _ _ (@YB _ _ _ _ _ _ _ _ _ _ b_all (Xo rfl) (@Ya _ _ _ _ _ (@X3 _ _ _ _ _ _ _ ([none,none]) ((["one","other"]:List Str)) _ (XY g.K 2 (YS (Yv 0) (YS (Yv 1) XX))) _ _ (.own (.own .nil)) rfl (@VD _ _ _ _ _ _ _ _ _ rfl b_zip (@Ya _ _ _ _ _ (pv 0) (@Ya _ _ _ _ _ (@Wz _ _ _ _ _ _ _ _ _ _ WW (pv 0) (@Wp _ _ _ Ye) VA) Yb (by rfl)) (by rfl)) (by rfl) (by rfl)) (fun cl C s₀ H₀ fp pn=>(@Xz _ _ _ _ _ (2) rfl (@YK _ _ _ _ _ (@Yp _ _ (0) _ (show List.Nodup (["one","other"]:List Str) by decide +kernel) rfl (.inl rfl) (.inr rfl)) (@YK _ _ _ _ _ (@Yp _ _ (1) _ (show List.Nodup (["one","other"]:List Str) by decide +kernel) rfl (.inl rfl) (.inr rfl)) Xm (by rfl)) (by rfl)) (by rfl) (by rfl))) (fun cl C s₀ H₀ fp pn=>Y3) (fun cl C s₀ H₀ fp pn=>(@YU _ _ _ _ _ _ _ _ (Ycq (K:=g.K) hr.units66) (pv 0) (pv 1) (Yj _))) (by intro x hx;simp at hx) (by rfl) (by decide) (by decide +kernel) (by intro _;rfl)) Yb (by rfl)) (by decide +kernel) (by rfl) (by rfl) (by decide) (by decide) (by rfl) (by rfl)))),?_⟩
 walk_at "rd"
 have hltn:=hkd.length
 rw [List.length_map] at hltn
 refine V2 (K:=g.K) (xs:=ks) (ys:=ks.drop 1) ((bz (fun a b=>KLt (kt a) (kt b)) kk).map V.bl) (fun R r=>?_) (by rw [List.length_map,Ya7,List.length_drop];omega) (by omega) ?_ ?_
 ·walk_at "rd"
  exact ⟨ks,SqL.of hb,fun p hp=>r b p _ (.upd_new hp _) (SqL.of ((Yc.upd_new hp _) _ _ hb)) (SqL.of (by rw [Yd,V9]))⟩
 ·intro i x y z H' hx hy hz sm R r
  rw [List.getElem?_drop,Nat.add_comm] at hy
  obtain ⟨d1,e1,k1⟩:=hkd.at hx
  obtain ⟨d2,e2,k2⟩:=hkd.at hy
  rw [List.getElem?_map] at e1 e2
  obtain ⟨a1,f1,rfl⟩:=Option.map_eq_some_iff.mp e1
  obtain ⟨a2,f2,rfl⟩:=Option.map_eq_some_iff.mp e2
  rw [List.getElem?_map,Yb2 f1 f2] at hz
  have:V.bl _=z:=Option.some.inj hz
  subst this
  walk_at "rd"
  obtain ⟨c1,c2,c3⟩:=hc a1 (List.mem_of_getElem? f1)
  obtain ⟨c4,c5,c6⟩:=hc a2 (List.mem_of_getElem? f2)
  obtain ⟨bb,hlt,hbb⟩:=(c3 a2 (List.mem_of_getElem? f2)).answer c1 c4
  refine ⟨_,(k1.keep (YL sm)).den,_,(k2.keep (YL sm)).den,_,hlt,c2,?_⟩
  rw [show bb=@decide (KLt (kt a1) (kt a2)) (Classical.propDecidable _) from Bool.eq_iff_iff.mpr (hbb.trans (@decide_eq_true_iff _ (Classical.propDecidable _)).symm)]
  exact r H' (.refl H')
 ·intro D H' hD sm hd
  refine ⟨D,rfl,_,SqL.of hd,?_⟩
  rw [U4]
  exact q H' sm
open Classical in
def Z0C (K:PySem.W.Frag):Sp:=fun vs H Q _=>∃ b ks kk,vs=[.ref b]∧H b=some (.lst ks)∧ks.length≤1000∧X2 H ks kk∧Cmp kk∧∀ H',Yc H H'→Q (.bl (@decide (∀ k∈kk,kk.head?=some k) (Classical.propDecidable _))) H'
theorem U5  (R:g.Raw "all_alike" "all_alike" ZQ ["keys"]) (b_all:g.mg "all"=none):g.Fn (1) "all_alike" ["keys"] (Z0C g.K):=by
 refine R.fn UU (fun vs H Q E h=>by obtain ⟨b,ks,kk,rfl,hb,hl,hkd,hc,q⟩:=h;rfl) fun f_ cdv A outer s H vs Q E hr h=>?_
 obtain ⟨b,ks,kk,rfl,hb,hl,hkd,hc,q⟩:=h
 refine ⟨_,(@Yg _ _ _ (@Yh _ _ _ _ (@YB _ _ _ _ _ _ _ _ _ _ b_all (Xo rfl) (@Ya _ _ _ _ _ (@X3 _ _ _ _ _ _ _ ([none,some 0]) ((["key","keys"]:List Str)) _ (Yv 0) _ _ (.own (.cap (i:=0) rfl rfl (by first | exact .inl rfl | exact .inr rfl) .nil)) rfl (@YT _ _ _ _ (pv 0)) (fun cl C s₀ H₀ fp pn=>(@Yp _ _ (0) _ (show List.Nodup (["key","keys"]:List Str) by decide +kernel) rfl (.inl rfl) (.inr rfl))) (fun cl C s₀ H₀ fp pn=>Y3) (fun cl C s₀ H₀ fp pn=>(@YU _ _ _ _ _ _ _ _ (Yck (K:=g.K) hr.units) (pv 0) (@Yk _ _ _ _ _ _ _ (Ybp (K:=g.K)) (pv 1) Ye (fun _ _=>rfl)) (Yj _))) (by intro x hx;simp at hx;first | (subst hx;exact .inl rfl) | (rcases hx with rfl | rfl<;>exact .inl rfl) | (rcases hx with rfl | rfl | rfl<;>exact .inl rfl) | (rcases hx with rfl | rfl | rfl | rfl<;>exact .inl rfl) | (rcases hx with rfl | rfl | rfl | rfl | rfl<;>exact .inl rfl)) (by rfl) (by decide) (by decide +kernel) (by intro _;rfl)) Yb (by rfl)) (by decide +kernel) (by rfl) (by rfl) (by decide) (by decide) (by rfl) (by rfl)))),?_⟩
 walk_at "rd"
 have hlen:=hkd.length
 rw [List.length_map] at hlen
 refine VX (K:=g.K) (xs:=ks) ((kk.map fun k=>@decide (kk.head?=some k) (Classical.propDecidable _)).map V.bl) (fun R r=>by walk_at "rd";exact r b H (.refl H) (SqL.of hb)) (by simp [hlen]) (by omega) ?_ ?_
 ·intro i x y H' hx hy sm R r
  obtain ⟨d1,e1,k1⟩:=hkd.at hx
  rw [List.getElem?_map] at e1
  obtain ⟨a1,f1,rfl⟩:=Option.map_eq_some_iff.mp e1
  rw [List.getElem?_map,List.getElem?_map,f1] at hy
  have:V.bl _=y:=Option.some.inj hy
  subst this
  walk_at "rd"
  have hi:=(List.getElem?_eq_some_iff.mp hx).1
  have h0:ks[0]?=some (ks[0]'(by omega)):=List.getElem?_eq_getElem _
  obtain ⟨d0,e0,k0⟩:=hkd.at h0
  rw [List.getElem?_map] at e0
  obtain ⟨a0,f0,rfl⟩:=Option.map_eq_some_iff.mp e0
  have hh:kk.head?=some a0:=by rw [List.head?_eq_getElem?];exact f0
  refine ⟨ks,SqL.of (sm _ _ hb),_,X5 (j:=0) h0,_,(k1.keep (YL sm)).den,_,(k0.keep (YL sm)).den,(hc a1 (List.mem_of_getElem? f1)).2.1,?_⟩
  have e:PyData.eqv (kt a1) (kt a0)=@decide (kk.head?=some a1) (Classical.propDecidable _):=Bool.eq_iff_iff.mpr (((hc a1 (List.mem_of_getElem? f1)).1.eqv (hc a0 (List.mem_of_getElem? f0)).1).trans (Iff.trans ⟨fun z=>by rw [hh,UX z],fun z=>by rw [hh] at z;cases z;rfl⟩ (@decide_eq_true_iff _ (Classical.propDecidable _)).symm))
  rw [e]
  exact r H' (.refl H')
 ·intro D H' hD sm hd
  refine ⟨D,rfl,_,SqL.of hd,?_⟩
  have e:((kk.map fun k=>@decide (kk.head?=some k) (Classical.propDecidable _)).all id)=@decide (∀ k∈kk,kk.head?=some k) (Classical.propDecidable _):=by
   refine Bool.eq_iff_iff.mpr (Iff.trans ?_ (@decide_eq_true_iff _ (Classical.propDecidable _)).symm)
   rw [List.all_map,List.all_eq_true]
   exact ⟨fun z k hk=>(@decide_eq_true_iff _ (Classical.propDecidable _)).mp (z k hk),fun z k hk=>(@decide_eq_true_iff _ (Classical.propDecidable _)).mpr (z k hk)⟩
  rw [e]
  exact q H' sm
theorem Vc {H:Hp}:∀ {ks:List V} {kk:List Ky},X2 H ks kk→∀ x∈ks.zip kk,KAt H x.1 (kt x.2)
 | [],_,_,x,hx=>by simp at hx
 | v::ks,[],h,x,hx=>by simp at hx
 | v::ks,k::kk,h,x,hx=>by
  cases h with
  | cons a b =>
   rcases List.mem_cons.mp hx with rfl | hx
   ·exact a
   ·exact Vc b x hx
def WE (H:Hp) (gs:List Addr) (G:List (List (V×Ky))):Prop:=gs.length=G.length∧∀ (j:Nat) a g,gs[j]?=some a→G[j]?=some g→H a=some (.lst (g.map (·.1)))
theorem Ua (xs:List V) (x:V):atI (xs++[x]) (-1)=some x:=by
 have:ixN (xs++[x]).length (-1)=some xs.length:=by
  rw [List.length_append,List.length_singleton]
  unfold ixN
  rw [if_neg (by omega)]
  split
  ·congr 1;omega
  ·omega
 rw [atI,this,Option.bind_some,List.getElem?_append_right (Nat.le_refl _),Nat.sub_self]
 rfl
theorem Ya8 {α:Type} {f:α→Nat} {ks:List α} {g:List α} (h:g∈grp f ks):g.length≤ks.length:=by
 have:=(List.sublist_flatten_of_mem h).length_le
 rw [Xk] at this
 exact this
theorem QK {α:Type} {f:α→Nat}:∀ (ks:List α),(grp f ks).length≤ks.length
 | []=>Nat.le_refl _
 | k::ks=>by
  have ih:=QK (f:=f) ks
  unfold grp
  split
  ·rename_i e
   rw [e] at ih
   split<;>simp only [List.length_cons] at ih ⊢<;>omega
  ·simp only [List.length_cons];omega
theorem WE.mem {H:Hp} {gs:List Addr} {G:List (List (V×Ky))} (h:WE H gs G) {a:Addr} (ha:a∈gs):∃ ys,H a=some (.lst ys):=by
 obtain ⟨j,hj,rfl⟩:=List.getElem_of_mem ha
 exact ⟨_,h.2 j _ _ (List.getElem?_eq_getElem hj) (List.getElem?_eq_getElem (by rw [← h.1];exact hj))⟩
theorem Yc0 {H H':Hp} {p p1:Addr} {gs:List Addr} {G:List (List (V×Ky))} (sm:Yc H H') (hp:H' p=some (.lst (gs.map V.ref))) (hp0:H p=none) (hpn:p∉gs) (hnd:gs.Nodup) (hnew:∀ a∈gs,H a=none) (hgr:WE H' gs G) (h1:H' p1=none) :
  Yc H (upd (upd H' p1 (.lst [])) p (.lst (gs.map V.ref++[.ref p1])))∧upd (upd H' p1 (.lst [])) p (.lst (gs.map V.ref++[.ref p1])) p=some (.lst ((gs++[p1]).map V.ref))∧p∉gs++[p1]∧(gs++[p1]).Nodup∧(∀ x∈gs++[p1],H x=none)∧WE (upd (upd H' p1 (.lst [])) p (.lst (gs.map V.ref++[.ref p1]))) (gs++[p1]) (G++[[]]):=by
 have hpp:p≠p1:=fun e=>by rw [e,h1] at hp;cases hp
 have hng:p1∉gs:=fun z=>by obtain ⟨ys,e⟩:=hgr.mem z;rw [h1] at e;cases e
 refine ⟨.upd_over hp0 (sm.trans (.upd_new h1 _)) _,by rw [Yd,List.map_append];rfl,?_,?_,?_,?_⟩
 ·simp only [List.mem_append,List.mem_singleton,not_or]
  exact ⟨hpn,hpp⟩
 ·refine List.nodup_append.mpr ⟨hnd,by simp,fun a ha b hb=>?_⟩
  rw [List.mem_singleton.mp hb]
  exact fun e=>hng (e▸ha)
 ·intro x hx
  rcases List.mem_append.mp hx with hx | hx
  ·exact hnew x hx
  ·rw [List.mem_singleton.mp hx];exact sm.free h1
 ·refine ⟨by simp [hgr.1],fun j a g ha hg=>?_⟩
  rcases Nat.lt_or_ge j gs.length with c | c
  ·rw [List.getElem?_append_left c] at ha
   rw [List.getElem?_append_left (by rw [← hgr.1];exact c)] at hg
   have ham:=List.mem_of_getElem? ha
   have q1:a≠p:=fun e=>hpn (e▸ham)
   have q2:a≠p1:=fun e=>hng (e▸ham)
   rw [Yl q1,Yl q2]
   exact hgr.2 j a g ha hg
  ·have hjl:=(List.getElem?_eq_some_iff.mp ha).1
   simp only [List.length_append,List.length_singleton] at hjl
   have hj:j=gs.length:=by omega
   subst hj
   rw [List.getElem?_append_right (Nat.le_refl _),Nat.sub_self] at ha
   have ea:p1=a:=Option.some.inj ha
   rw [hgr.1,List.getElem?_append_right (Nat.le_refl _),Nat.sub_self] at hg
   have eg:[]=g:=Option.some.inj hg
   subst ea eg
   rw [Yl hpp.symm,Yd]
   rfl
def ZE (K:PySem.W.Frag):Sp:=fun vs H Q _=>∃ b ks kk,vs=[.ref b]∧H b=some (.lst ks)∧ks.length≤1000∧X2 H ks kk∧∀ p gs H',H p=none→(∀ a∈gs,H a=none)→Yc H H'→H' p=some (.lst (gs.map V.ref))→WE H' gs (grp (fun x:V×Ky=>x.2.1) (ks.zip kk))→Q (.ref p) H'
theorem Z0K  (R:g.Raw "groups_by_size" "groups_by_size" Ze ["keys"]) (b_len:g.mg "len"=none):g.Fn (1) "groups_by_size" ["keys"] (ZE g.K):=by
 refine R.fn Zb (fun vs H Q E h=>by obtain ⟨b,ks,kk,rfl,hb,hl,hkd,q⟩:=h;rfl) fun f_ cdv A outer s H vs Q E hr h=>?_
 obtain ⟨b,ks,kk,rfl,hb,hl,hkd,q⟩:=h
 refine ⟨_,(@Yf _ _ _ _ _ (@Yt _ _ (1) _ _ _ _ Zb.nd rfl (.inl rfl) (@YF _ _ _ _ Yb) (by rfl) (by first | exact .inl rfl | exact .inr rfl | assumption)) (@Yf _ _ _ _ _ (@Xg _ _ _ _ _ _ _ _ PassesOwn.never rfl (@YT _ _ _ _ (pv 0)) (@Yp _ _ (2) _ Zb.nd rfl (.inl rfl) (by first | exact .inl rfl | exact .inr rfl | assumption)) (@Yf _ _ _ _ _ (@YD _ _ _ _ _ _ _ _ (@Vf _ _ _ _ _ _ _ (@Yo _ _ _ _ _ _ _ _ YG (@YB _ _ _ _ _ _ _ _ _ _ b_len Yu (@Ya _ _ _ _ _ (pv 1) Yb (by rfl)) (by decide +kernel) (by rfl) (by rfl) (by decide) (by decide) (by rfl) (by rfl)) Ye (Yj _)) (@WI _ _ _ _ (@Yo _ _ _ _ _ _ _ _ Uo (@Yk _ _ _ _ _ _ _ Yr (@Yk _ _ _ _ _ _ _ YO (@Yk _ _ _ _ _ _ _ YO (pv 1) (@Wy _ _ _ _ _ _ X8 Ye) (fun _ _=>rfl)) Ye (fun _ _=>rfl)) Ye (fun _ _=>rfl)) (@Yk _ _ _ _ _ _ _ Yr (pv 2) Ye (fun _ _=>rfl)) (Yj _)))).pt (@Yg _ _ _ (@Xb _ _ _ _ (@XB _ _ _ _ _ _ _ _ _ _ _ _ PySem.F.plainAttrs_list PySem.F.slot_list_append PySem.F.type_list_append YY (pv 1) (@Ya _ _ _ _ _ (@YF _ _ _ _ Yb) Yb (Xu _ _ _ _)) (by rfl) (by rfl) (by rfl) (by rfl) (by rfl)) (by rfl))) Yq) (@Yg _ _ _ (@Xb _ _ _ _ (@XB _ _ _ _ _ _ _ _ _ _ _ _ PySem.F.plainAttrs_list PySem.F.slot_list_append PySem.F.type_list_append YY (@Yk _ _ _ _ _ _ _ YO (pv 1) (@Wy _ _ _ _ _ _ X8 Ye) (fun _ _=>rfl)) (@Ya _ _ _ _ _ (pv 2) Yb (by rfl)) (by rfl) (by rfl) (by rfl) (by rfl) (by rfl)) (by rfl)))) (by intro _;rfl)) (@Yg _ _ _ (@Yh _ _ _ _ (pv 1))))),?_⟩
 walk_at "rd"
 refine ⟨few (by decide),fun p hp=>?_⟩
 have s1:=Yc.upd_new hp (.lst [])
 have hlen:=hkd.length
 rw [List.length_map] at hlen
 refine WO (K:=g.K) (a:=b) (xs:=ks) (fun i σ H'=>∃ o2 gs,σ=[some (.ref b),some (.ref p),o2]∧Yc H H'∧H' p=some (.lst (gs.map V.ref))∧p∉gs∧gs.Nodup∧(∀ a∈gs,H a=none)∧WE H' gs (grp (fun x:V×Ky=>x.2.1) ((ks.zip kk).take i))) (fun R r=>by walk_at "rd";exact r) ⟨none,[],rfl,s1,Yd,by simp,.nil,by simp,rfl,by simp⟩ (fun i σ H' _ ⟨o2,gs,_,e,_⟩=>SqL.of (e _ _ hb)) ?_ ?_
 ·rintro i v σ H' hv ⟨o2,gs,rfl,sm,hp',hpn,hnd,hnew,hgr⟩
  have hi:=(List.getElem?_eq_some_iff.mp hv).1
  have hk:kk[i]?=some (kk[i]'(by omega)):=List.getElem?_eq_getElem _
  generalize kk[i]'(by omega)=k at hk
  have hz:(ks.zip kk)[i]?=some (v,k):=(List.getElem?_zip_eq_some (z:=(v,k))).mpr ⟨hv,hk⟩
  have hall:∀ x∈ks.zip kk,KAt H x.1 (kt x.2):=Vc hkd
  have hvk:=hall _ (List.mem_of_getElem? hz)
  obtain ⟨va,vr,rfl,hva⟩:=X7 hvk
  walk_at "gn"
  refine UJ (fun σ H2=>σ=[some (.ref b),some (.ref p),some (.ref va)]∧∃ gs a G' g',Yc H H2∧H2 p=some (.lst ((gs++[a]).map V.ref))∧p∉gs++[a]∧(gs++[a]).Nodup∧(∀ x∈gs++[a],H x=none)∧WE H2 (gs++[a]) (G'++[g'])∧grp (fun x:V×Ky=>x.2.1) ((ks.zip kk).take (i+1))=G'++[g'++[(.ref va,k)]]) ?_ ?_
  ·rintro σ H2 ⟨rfl,gs,a,G',g',sm2,hp2,hpn2,hnd2,hnew2,hgr2,hgq⟩
   walk_at "rd"
   have hla:gs.length=G'.length:=by have:=hgr2.1;simpa using this
   have ha:H2 a=some (.lst (g'.map (·.1))):=hgr2.2 gs.length a g' (by simp) (by rw [hla];simp)
   have hgl:(g'++[(V.ref va,k)]).length≤((ks.zip kk).take (i+1)).length:=Ya8 (f:=fun x:V×Ky=>x.2.1) (by rw [hgq];simp)
   rw [List.length_take,List.length_append,List.length_singleton] at hgl
   have h6:10000<sizeLine:=by decide
   have hap:p≠a:=fun e=>hpn2 (by rw [e];simp)
   refine ⟨_,SqL.of hp2,.ref a,by rw [List.map_append];exact Ua _ _,.inl ⟨rfl,_,SqL.of ha⟩,a,rfl,_,ha,by rw [List.length_map];omega,.upd_over (hnew2 a (by simp)) sm2 _,gs++[a],by rw [Yl hap];exact hp2,hpn2,hnd2,hnew2,?_⟩
   rw [hgq]
   refine ⟨by simp [hla],fun j a' g ha' hg=>?_⟩
   rcases Nat.lt_or_ge j gs.length with c | c
   ·rw [List.getElem?_append_left c] at ha'
    rw [List.getElem?_append_left (by rw [← hla];exact c)] at hg
    have ham:=List.mem_of_getElem? ha'
    rw [Yl fun e=>(List.nodup_append.mp hnd2).2.2 a' ham a (by simp) e]
    exact hgr2.2 j a' g (by rw [List.getElem?_append_left c];exact ha') (by rw [List.getElem?_append_left (by rw [← hla];exact c)];exact hg)
   ·have hjl:=(List.getElem?_eq_some_iff.mp ha').1
    simp only [List.length_append,List.length_singleton] at hjl
    have hj:j=gs.length:=by omega
    subst hj
    rw [List.getElem?_append_right (Nat.le_refl _),Nat.sub_self] at ha'
    have ea:a=a':=Option.some.inj ha'
    rw [hla,List.getElem?_append_right (Nat.le_refl _),Nat.sub_self] at hg
    have eg:g'++[(V.ref va,k)]=g:=Option.some.inj hg
    subst ea eg
    rw [Yd,List.map_append]
    rfl
  ·intro N hN
   walk_at "rd"
   rw [YZ hz] at hN
   have h6:10000<sizeLine:=by decide
   have hgn:gs.length≤i:=by
    rw [hgr.1]
    refine Nat.le_trans (QK _) ?_
    rw [List.length_take]
    omega
   have new:∀ G,grp (fun x:V×Ky=>x.2.1) ((ks.zip kk).take i)=G→grp (fun x:V×Ky=>x.2.1) ((ks.zip kk).take i++[(V.ref va,k)])=G++[[(V.ref va,k)]] →
     tyV g.K "list" (V.ref p) H'∧0≤sizeLine∧∀ p1,H' p1=none→∃ x,upd H' p1 (HO.lst []) p=some (HO.lst x)∧x.length<sizeLine∧N [some (V.ref b),some (V.ref p),some (V.ref va)] (upd (upd H' p1 (HO.lst [])) p (HO.lst (x++[V.ref p1]))):=fun G e1 e2=>by
    rw [e1] at hgr
    refine ⟨.inl ⟨rfl,_,SqL.of hp'⟩,Nat.zero_le _,fun p1 h1=>⟨_,(Yc.upd_new h1 _) _ _ hp',by rw [List.length_map];omega,?_⟩⟩
    obtain ⟨n1,n2,n3,n4,n5,n6⟩:=Yc0 sm hp' hp hpn hnd hnew hgr h1
    exact hN _ _ ⟨rfl,gs,p1,G,[],n1,n2,n3,n4,n5,n6,e2⟩
   rcases UY (f:=fun x:V×Ky=>x.2.1) (V.ref va,k) ((ks.zip kk).take i) with ⟨e0,e1⟩ | ⟨G0,x,g0,e1,e2,e3⟩ | ⟨G0,x,g0,e1,e2,e3⟩
   ·have eg:grp (fun x:V×Ky=>x.2.1) ((ks.zip kk).take i)=[]:=by rw [e0];rfl
    have hg0:gs=[]:=by
     have:=hgr.1
     rw [eg] at this
     exact List.eq_nil_of_length_eq_zero this
    exact ⟨_,.inl (SqL.of hp'),XE (by rw [hg0];rfl) (new [] eg e1)⟩
   all_goals
    have hgr':=hgr
    rw [e1] at hgr'
    have hl2:=hgr'.1
    rw [List.length_append,List.length_singleton] at hl2
    obtain ⟨gs0,a,rfl⟩:∃ gs0 a,gs=gs0++[a]:=⟨gs.dropLast,gs.getLast (by intro e;rw [e] at hl2;simp at hl2),(List.dropLast_concat_getLast _).symm⟩
    rw [List.length_append,List.length_singleton] at hl2
    have ha:H' a=some (.lst ((x::g0).map (·.1))):=hgr'.2 gs0.length a _ (by simp) (by rw [show gs0.length=G0.length by omega];simp)
    have hxm:x∈ks.zip kk:=by
     have:x∈(grp (fun x:V×Ky=>x.2.1) ((ks.zip kk).take i)).flatten:=List.mem_flatten.mpr ⟨x::g0,by rw [e1];simp,.head _⟩
     rw [Xk] at this
     exact List.mem_of_mem_take this
    obtain ⟨xa,xr,ex,hxa⟩:=X7 (hall x hxm)
    obtain ⟨xv,xk⟩:=x
    dsimp only at ex e2 hxa
    subst ex
    refine ⟨_,.inl (SqL.of hp'),Ym (by simp;omega) ⟨_,SqL.of hp',.ref a,by rw [List.map_append];exact Ua _ _,a,rfl,_,SqL.of ha,_,Xa _ _,xa,rfl,_,SqT.of (sm _ _ hxa),_,Xa _ _,_,SqT.of (sm _ _ hva),_,Xa _ _,rfl,?_⟩⟩
   ·refine Ym (fun z=>z (by rw [e2])) (hN _ _ ⟨rfl,gs0,a,G0,(.ref xa,xk)::g0,sm,hp',hpn,hnd,hnew,hgr',e3⟩)
   ·exact XE (fun z=>e2 (by have:=V.int.inj z;dsimp only at this ⊢;omega)) (new _ e1 e3)
 ·rintro σ H' ⟨o2,gs,rfl,sm,hp',_,_,hnew,hgr⟩
  walk_at "rd"
  refine q p gs H' hp hnew sm hp' ?_
  rw [List.take_of_length_le (by rw [List.length_zip];omega)] at hgr
  exact hgr
theorem WF {K:PySem.W.Frag} {tl:TE} {g:TG} {tb:TS} {D:Ends} {σ:St} {H:Hp} (G:Addr→List V→Hp→Prop) (ha:∀ R:V→Hp→Prop,(∀ a xs H1,SqL K H1 a xs→G a xs H1→R (.ref a) H1)→tl σ H R)
  (hb:∀ a xs H1,SqL K H1 a xs→G a xs H1→∃ Pv:Nat→St→Hp→Prop,Pv 0 σ H1∧(∀ i σ H,i≤xs.length→Pv i σ H→SqL K H a xs)∧(∀ (i:Nat) x σ H,xs[i]?=some x→Pv i σ H→g x σ H fun σ2 H2=>tb { D with nx:=Pv (i+1),ct:=Pv (i+1),bk:=D.nx } σ2 H2)∧(∀ σ H,Pv xs.length σ H→D.nx σ H)) :
  Vz (Wd K tl) g tb D σ H :=
 ha _ fun a xs H1 hS hG=>by
  obtain ⟨Pv,h0,hl,hs,hd⟩:=hb a xs H1 hS hG
  exact ⟨a,rfl,⟨xs,hS⟩,UA Pv h0 hl hs hd⟩
theorem U6:∀ (gs:List (List Ky)),(gs.flatMap blk).length≤3*gs.flatten.length
 | []=>Nat.le_refl _
 | g::gs=>by
  have ih:=U6 gs
  rw [List.flatMap_cons,List.flatten_cons,List.length_append,List.length_append]
  have:(blk g).length≤3*g.length:=by
   cases g with
   | nil=>exact Nat.le_refl _
   | cons k g=>simp only [blk,List.length_cons,List.length_reverse,List.length_map];omega
  omega
theorem Ycz {ks:List V} {kk:List Ky} (h:ks.length=kk.length):((grp (fun x:V×Ky=>x.2.1) (ks.zip kk)).map (List.map (·.2))).flatMap blk=ris kk:=by
 unfold ris
 rw [← VI (f:=fun k:Ky=>k.1) (fun x:V×Ky=>x.2),List.map_snd_zip (by omega)]
theorem YbD {G:List (List (V×Ky))} {i:Nat} {g:List (V×Ky)} (h:G[i]?=some g):((G.take (i+1)).map (List.map (·.2))).flatMap blk=((G.take i).map (List.map (·.2))).flatMap blk++blk (g.map (·.2)):=by
 rw [YZ h,List.map_append,List.flatMap_append]
 simp
theorem KAts.rev {H:Hp}:∀ {vs:List V} {ds:List PyData},KAts H vs ds→KAts H vs.reverse ds.reverse
 | _,_,.nil => .nil
 | _,_,.cons a b=>by
  rw [List.reverse_cons,List.reverse_cons]
  exact b.rev.append (.cons a .nil)
theorem QL {H:Hp}:∀ {g:List (V×Ky)},(∀ x∈g,KAt H x.1 (kt x.2))→KAts H (g.map (·.1)) ((g.map (·.2)).map kt)
 | [],_ => .nil
 | x::g,h => .cons (h x (.head _)) (QL fun y hy=>h y (.tail _ hy))
theorem Ya9 {H Hx:Hp} {ys zs ws:List V} {d:PyData} {ds es:List PyData} (h:KAts H ys (d::ds)) (tt:Tps H Hx) (k:∀ Hx,Tps H Hx→KAts Hx (zs++ws) es):KAts Hx (ys++zs++ws) (d::(ds++es)):=by
 rw [List.append_assoc,← List.cons_append]
 exact (h.keep tt).append (k Hx tt)
def Z0D (K:PySem.W.Frag):Sp:=fun vs H Q _=>∃ (n:Nat) (b:Addr) (ks:List V) (kk:List Ky),vs=[.int (n:Int),.ref b]∧H b=some (.lst ks)∧ks.length≤1000∧X2 H ks kk∧∀ t H',Yc H H'→KAt H' (.ref t) (kt (n,ris kk))→Q (.ref t) H'
theorem U7 {k:Nat}  (R:g.Raw "risen_key" "risen_key" ZR ["size","keys"]) (Z0Z:g.Fn k "groups_by_size" ["keys"] (ZE g.K)) (b_len:g.mg "len"=none) (Z1:g.mg "tuple"=none):g.Fn (k+1) "risen_key" ["size","keys"] (Z0D g.K):=by
 refine R.fn ZK (fun vs H Q E h=>by obtain ⟨n,b,ks,kk,rfl,hb,hl,hkd,q⟩:=h;rfl) fun f_ cdv A outer s H vs Q E hr h=>?_
 obtain ⟨n,b,ks,kk,rfl,hb,hl,hkd,q⟩:=h
 refine ⟨_,(@Yf _ _ _ _ _ (@Yt _ _ (2) _ _ _ _ ZK.nd rfl (.inl rfl) (@YF _ _ _ _ (@Ya _ _ _ _ _ (pv 0) Yb (by rfl))) (by rfl) (by first | exact .inl rfl | exact .inr rfl | assumption)) (@Yf _ _ _ _ _ (@Xg _ _ _ _ _ _ _ _ PassesOwn.never rfl (@YT _ _ _ _ (@YA _ _ _ _ _ _ _ _ _ _ _ _ Z0Z hr (@Ya _ _ _ _ _ (pv 1) Yb (by rfl)) (by omega) (by rfl) (by rfl) (by decide) (by rfl) (by rfl))) (@Yp _ _ (3) _ ZK.nd rfl (.inl rfl) (by first | exact .inl rfl | exact .inr rfl | assumption)) (@Yf _ _ _ _ _ (@Xb _ _ _ _ (@XB _ _ _ _ _ _ _ _ _ _ _ _ PySem.F.plainAttrs_list PySem.F.slot_list_extend PySem.F.type_list_extend VS (pv 2) (@Ya _ _ _ _ _ (@YF _ _ _ _ (@Ya _ _ _ _ _ (@Wy _ _ _ _ _ _ X8 (@Yk _ _ _ _ _ _ _ Yr (@Yk _ _ _ _ _ _ _ YO (pv 3) Ye (fun _ _=>rfl)) Ye (fun _ _=>rfl))) (@Ya _ _ _ _ _ (@YB _ _ _ _ _ _ _ _ _ _ b_len Yu (@Ya _ _ _ _ _ (pv 3) Yb (by rfl)) (by decide +kernel) (by rfl) (by rfl) (by decide) (by decide) (by rfl) (by rfl)) Yb (by rfl)) (by rfl))) Yb (Xu _ _ _ _)) (by rfl) (by rfl) (by rfl) (by rfl) (by rfl)) (by rfl)) (@Yg _ _ _ (@Xb _ _ _ _ (@XB _ _ _ _ _ _ _ _ _ _ _ _ PySem.F.plainAttrs_list PySem.F.slot_list_extend PySem.F.type_list_extend VS (pv 2) (@Ya _ _ _ _ _ (@UL _ _ _ _ _ _ _ (pv 3) (@Wy _ _ _ _ _ _ X8 Ye)) Yb (by rfl)) (by rfl) (by rfl) (by rfl) (by rfl) (by rfl)) (by rfl)))) (by intro _;rfl)) (@Yg _ _ _ (@Yh _ _ _ _ (@Xp _ _ _ _ _ _ _ _ _ _ Z1 Y8 (@Ya _ _ _ _ _ (pv 2) Yb (by rfl)) (by decide +kernel) (by rfl) (by rfl) (by decide) (by decide) (by rfl) (by rfl)))))),?_⟩
 walk_at "rd"
 refine ⟨few (by decide),fun p hp=>?_⟩
 have s1:=Yc.upd_new hp (.lst [.int (n:Int)])
 have hlen:=hkd.length
 rw [List.length_map] at hlen
 have hall:∀ x∈ks.zip kk,KAt H x.1 (kt x.2):=Vc hkd
 refine WF (fun l xs H2=>∃ gs,xs=gs.map V.ref∧l≠p∧p∉gs∧Yc (upd H p (.lst [.int (n:Int)])) H2∧H2 l=some (.lst (gs.map V.ref))∧WE H2 gs (grp (fun x:V×Ky=>x.2.1) (ks.zip kk))) (fun R r=>?_) ?_
 ·walk_at "rd"
  exact ⟨b,ks,kk,rfl,s1 _ _ hb,hl,hkd.keep (YL s1),fun l gs H' hl0 hg0 sm hl hgr=>r l _ H' (SqL.of hl) ⟨gs,rfl,fun e=>by (rw [e,Yd] at hl0;cases hl0),fun z=>by (have:=hg0 p z;rw [Yd] at this;cases this),sm,hl,hgr⟩⟩
 ·rintro l xs H2 hS ⟨gs,rfl,hlp,hpg,s2,hl2,hgr⟩
  refine ⟨fun i σ H'=>∃ o4 ys,σ=[some (.int (n:Int)),some (.ref b),some (.ref p),o4]∧Yc H H'∧H' p=some (.lst ys)∧H' l=some (.lst (gs.map V.ref))∧WE H' gs (grp (fun x:V×Ky=>x.2.1) (ks.zip kk))∧KAts H' ys (.int (n:Int)::(((grp (fun x:V×Ky=>x.2.1) (ks.zip kk)).take i).map (List.map (·.2))).flatMap blk),?_,?_,?_,?_⟩
  ·exact ⟨none,_,rfl,s1.trans s2,s2 _ _ Yd,hl2,hgr,.cons (.int _) .nil⟩
  ·rintro i σ H' hi ⟨o4,ys,rfl,e1,e2,e3,_⟩
   exact SqL.of e3
  ·rintro i y σ H' hy ⟨o4,ys,rfl,e1,e2,e3,e4,e5⟩
   have hi:i<gs.length:=by simpa using (List.getElem?_eq_some_iff.mp hy).1
   have ha:gs[i]?=some gs[i]:=List.getElem?_eq_getElem hi
   rw [List.getElem?_map,ha] at hy
   have:V.ref gs[i]=y:=Option.some.inj hy
   subst this
   have hG:(grp (fun x:V×Ky=>x.2.1) (ks.zip kk))[i]?=some ((grp (fun x:V×Ky=>x.2.1) (ks.zip kk))[i]'(by rw [← e4.1];exact hi)):=List.getElem?_eq_getElem _
   generalize (grp (fun x:V×Ky=>x.2.1) (ks.zip kk))[i]'(by rw [← e4.1];exact hi)=g0 at hG
   generalize gs[i]=a at ha
   have ham:=List.mem_of_getElem? ha
   have hgm:=List.mem_of_getElem? hG
   have hga:=e4.2 i a g0 ha hG
   have hap:a≠p:=fun e=>hpg (e▸ham)
   have hgl:=Ya8 hgm
   rw [List.length_zip] at hgl
   have hgz:∀ x∈g0,KAt H x.1 (kt x.2):=fun x hx=>hall x (by
    have:x∈(grp (fun x:V×Ky=>x.2.1) (ks.zip kk)).flatten:=List.mem_flatten.mpr ⟨g0,hgm,hx⟩
    rw [Xk] at this
    exact this)
   have hyl:=e5.length
   have hbl:=U6 ((grp (fun x:V×Ky=>x.2.1) (ks.zip kk)).take i |>.map (List.map (·.2)))
   have hfl:(((grp (fun x:V×Ky=>x.2.1) (ks.zip kk)).take i).map (List.map (·.2))).flatten.length≤ks.length:=by
    rw [← List.map_flatten,List.length_map]
    have h1:((grp (fun x:V×Ky=>x.2.1) (ks.zip kk)).take i).flatten.length+((grp (fun x:V×Ky=>x.2.1) (ks.zip kk)).drop i).flatten.length=(ks.zip kk).length:=by
     rw [← List.length_append,← List.flatten_append,List.take_append_drop,Xk]
    rw [List.length_zip] at h1
    omega
   rw [List.length_cons] at hyl
   have h6:10000<sizeLine:=by decide
   cases g0 with
   | nil=>exact (Wv hgm rfl).elim
   | cons x g0 =>
   obtain ⟨xa,xr,ex,hxa⟩:=X7 (hgz x (.head _))
   obtain ⟨xv,xk⟩:=x
   dsimp only at ex hxa
   subst ex
   walk_at "rd"
   refine ⟨.inl ⟨rfl,_,SqL.of e2⟩,_,SqL.of hga,_,Xa _ _,xa,rfl,_,SqT.of (e1 _ _ hxa),_,Xa _ _,_,rfl,_,.inl (SqL.of hga),few (by decide),fun p4 h4=>?_⟩
   have n1:=Yc.upd_new h4 (HO.lst [V.int (-(xk.1:Int)),V.int (((V.ref xa,xk)::g0).map (·.1)).length])
   have t1:Tps H' (upd (upd H' p4 (HO.lst [V.int (-(xk.1:Int)),V.int (((V.ref xa,xk)::g0).map (·.1)).length])) p (.lst (ys++[V.int (-(xk.1:Int)),V.int (((V.ref xa,xk)::g0).map (·.1)).length]))):=(YL n1).trans (.upd_lst (n1 _ _ e2))
   have hp4:p≠p4:=fun e=>by rw [← e,e2] at h4;cases h4
   have ha4:a≠p4:=fun e=>by rw [← e,hga] at h4;cases h4
   have hl4:l≠p4:=fun e=>by rw [← e,e3] at h4;cases h4
   refine ⟨p,p4,ys,_,rfl,rfl,n1 _ _ e2,Yd,by simp only [List.length_cons,List.length_nil];omega,?_⟩
   refine ⟨.inl ⟨rfl,_,SqL.of Yd⟩,_,SqL.of (by rw [Yl hap,Yl ha4];exact hga),fun p5 h5=>?_⟩
   have hp5:p≠p5:=fun e=>by rw [← e,Yd] at h5;cases h5
   have hne5:∀ z o,z≠p→H' z=some o→z≠p5:=fun z o hz ho e=>by
    have:z≠p4:=fun e=>by rw [← e,ho] at h4;cases h4
    rw [← e,Yl hz,Yl this,ho] at h5
    cases h5
   refine ⟨p,p5,_,_,rfl,rfl,by rw [Yl hp5,Yd],Yd,by simp only [List.length_append,List.length_reverse,List.length_map,List.length_cons,List.length_nil] at hgl ⊢;omega,?_⟩
   have old:∀ z o,z≠p→H' z=some o→upd (upd (upd (upd H' p4 (HO.lst [V.int (-(xk.1:Int)),V.int (((V.ref xa,xk)::g0).map (·.1)).length])) p (.lst (ys++[V.int (-(xk.1:Int)),V.int (((V.ref xa,xk)::g0).map (·.1)).length]))) p5 (.lst (((V.ref xa,xk)::g0).map (·.1)).reverse)) p (.lst (ys++[V.int (-(xk.1:Int)),V.int (((V.ref xa,xk)::g0).map (·.1)).length]++(((V.ref xa,xk)::g0).map (·.1)).reverse)) z=some o:=fun z o hz ho=>by
    have h4':z≠p4:=fun e=>by rw [← e,ho] at h4;cases h4
    rw [Yl hz,Yl (hne5 z o hz ho),Yl hz,Yl h4']
    exact ho
   have hHp:H p=none:=hp
   refine ⟨fun z o ho=>old z o (fun e=>by rw [e,hHp] at ho;cases ho) (e1 _ _ ho),_,Yd,old _ _ hlp e3,⟨e4.1,fun j a' g' h1 h2=>old _ _ (fun e=>hpg (e▸List.mem_of_getElem? h1)) (e4.2 j a' g' h1 h2)⟩,?_⟩
   rw [YbD hG]
   refine Ya9 e5 (fun z vs hz=>old z _ (fun e=>by rw [e,e2] at hz;cases hz) hz) fun Hx tt => .cons (.int _) (.cons ?_ ?_)
   ·rw [show ((((V.ref xa,xk)::g0).map (·.1)).length:Int)=((((g0.map (·.2)).length+1:Nat)):Int) from by simp]
    exact .int _
   ·exact ((QL hgz).rev).keep ((YL e1).trans tt)
  ·rintro σ H' ⟨o4,ys,rfl,e1,e2,e3,e4,e5⟩
   walk_at "rd"
   rw [List.length_map,e4.1,List.take_length,Ycz hlen] at e5
   exact ⟨_,.inl ⟨SqL.of e2,fun t ht=>q t _ (e1.trans (.upd_new ht _)) (.tup Yd (e5.keep (YL (Yc.upd_new ht _))))⟩⟩
theorem KAts.take {H:Hp}:∀ {vs:List V} {ds:List PyData} (n:Nat),KAts H vs ds→KAts H (vs.take n) (ds.take n)
 | _,_,0,_=>by simp;exact .nil
 | _,_,n+1,.nil=>by simp;exact .nil
 | _,_,n+1,.cons a b => .cons a (b.take n)
def IsL (sh:Sh):Prop:=(∃ c p,sh = .lst c p)∨∃ p n,sh = .alike p n
theorem Yba {sh:Sh} (h:IsL sh) (d d':PyData) (ks:List Ky):kz sh d ks=kz sh d' ks:=by
 rcases h with ⟨c,p,rfl⟩ | ⟨p,n,rfl⟩
 ·cases c<;>cases d<;>cases d'<;>rfl
 ·cases d<;>cases d'<;>rfl
def Z0T (K:PySem.W.Frag):Sp:=fun vs H Q _=>∃ (x:V) (sh:Sh) (d:PyData) (b:Addr) (ks:List V) (kk:List Ky),vs=[x,.ref b]∧ShAt K H x sh∧IsL sh∧H b=some (.lst ks)∧ks.length≤1000∧X2 H ks kk∧Cmp kk∧(∀ k,kz sh d kk=some k→∀ t H',Yc H H'→KAt H' (.ref t) (kt k)→Q (.ref t) H')∧(kz sh d kk=none→∀ H',Yc H H'→Q .non H')
theorem Qp {k:Nat}  (R:g.Raw "list_key" "list_key" Z09 ["shape","keys"]) (Zr:g.Fn k "sum_of_sizes" ["keys"] (Zm g.K)) (F_none_ahead:g.Fn k "none_ahead" ["keys"] (Z0s g.K)) (F_all_behind:g.Fn k "all_behind" ["keys"] (Z0t g.K)) (F_all_alike:g.Fn k "all_alike" ["keys"] (Z0C g.K)) (F_risen_key:g.Fn k "risen_key" ["size","keys"] (Z0D g.K)) (b_len:g.mg "len"=none) (Z1:g.mg "tuple"=none):g.Fn (k+1) "list_key" ["shape","keys"] (Z0T g.K):=by
 refine R.fn Zw (fun vs H Q E h=>by obtain ⟨x,sh,d,b,ks,kk,rfl,hx,hL,hb,hl,hkd,hc,q1,q2⟩:=h;rfl) fun f_ cdv A outer s H vs Q E hr h=>?_
 obtain ⟨x,sh,d,b,ks,kk,rfl,hx,hL,hb,hl,hkd,hc,q1,q2⟩:=h
 refine ⟨_,(@Yf _ _ _ _ _ (@Yt _ _ (2) _ _ _ _ Zw.nd rfl (.inl rfl) (@Yk _ _ _ _ _ _ _ Yr (pv 0) Ye (fun _ _=>rfl)) (by rfl) (by first | exact .inl rfl | exact .inr rfl | assumption)) (@Yf _ _ _ _ _ (@Yt _ _ (3) _ _ _ _ Zw.nd rfl (.inl rfl) (@Yw _ _ _ _ _ _ _ _ XV (@YB _ _ _ _ _ _ _ _ _ _ b_len Yu (@Ya _ _ _ _ _ (pv 1) Yb (by rfl)) (by decide +kernel) (by rfl) (by rfl) (by decide) (by decide) (by rfl) (by rfl)) (@YA _ _ _ _ _ _ _ _ _ _ _ _ Zr hr (@Ya _ _ _ _ _ (pv 1) Yb (by rfl)) (by omega) (by rfl) (by rfl) (by decide) (by rfl) (by rfl))) (by rfl) (by first | exact .inl rfl | exact .inr rfl | assumption)) (@Yf _ _ _ _ _ (@YD _ _ _ _ _ _ _ _ (@Yo _ _ _ _ _ _ _ _ YG (pv 2) YE (Yj _)) (@Yg _ _ _ (@Yh _ _ _ _ (@Xp _ _ _ _ _ _ _ _ _ _ Z1 Y8 (@Ya _ _ _ _ _ (@Yw _ _ _ _ _ _ _ _ Vi (@YF _ _ _ _ (@Ya _ _ _ _ _ (pv 3) Yb (by rfl))) (pv 1)) Yb (by rfl)) (by decide +kernel) (by rfl) (by rfl) (by decide) (by decide) (by rfl) (by rfl)))) Yq) (@Yf _ _ _ _ _ (@YD _ _ _ _ _ _ _ _ (@Yo _ _ _ _ _ _ _ _ YG (pv 2) YE (Yj _)) (@Yg _ _ _ (@Yh _ _ _ _ (@Wx _ _ _ _ _ _ _ _ (@Wm _ _ _ (@YA _ _ _ _ _ _ _ _ _ _ _ _ F_all_alike hr (@Ya _ _ _ _ _ (pv 1) Yb (by rfl)) (by omega) (by rfl) (by rfl) (by decide) (by rfl) (by rfl)) (by intro _;rfl)) (@Xp _ _ _ _ _ _ _ _ _ _ Z1 Y8 (@Ya _ _ _ _ _ (@Yw _ _ _ _ _ _ _ _ Vi (@YF _ _ _ _ (@Ya _ _ _ _ _ (pv 3) Yb (by rfl))) (@Wz _ _ _ _ _ _ _ _ _ _ WW (pv 1) VA (@Wp _ _ _ Ye))) Yb (by rfl)) (by decide +kernel) (by rfl) (by rfl) (by decide) (by decide) (by rfl) (by rfl)) XS))) Yq) (@Yf _ _ _ _ _ (@Yt _ _ (4) _ _ _ _ Zw.nd rfl (.inl rfl) (@Wx _ _ _ _ _ _ _ _ (@Yo _ _ _ _ _ _ _ _ YG (pv 2) YE (Yj _)) (@YA _ _ _ _ _ _ _ _ _ _ _ _ F_none_ahead hr (@Ya _ _ _ _ _ (pv 1) Yb (by rfl)) (by omega) (by rfl) (by rfl) (by decide) (by rfl) (by rfl)) (@YA _ _ _ _ _ _ _ _ _ _ _ _ F_all_behind hr (@Ya _ _ _ _ _ (pv 1) Yb (by rfl)) (by omega) (by rfl) (by rfl) (by decide) (by rfl) (by rfl))) (by rfl) (by first | exact .inl rfl | exact .inr rfl | assumption)) (@Yg _ _ _ (@Yh _ _ _ _ (@Wx _ _ _ _ _ _ _ _ (@Wm _ _ _ (pv 4) (by intro _;rfl)) (@YA _ _ _ _ _ _ _ _ _ _ _ _ F_risen_key hr (@Ya _ _ _ _ _ (pv 3) (@Ya _ _ _ _ _ (pv 1) Yb (by rfl)) (by rfl)) (by omega) (by rfl) (by rfl) (by decide) (by rfl) (by rfl)) XS)))))))),?_⟩
 have h6:10000<sizeLine:=by decide
 have hk:=hkd.keyed hl
 have hlen:=hkd.length
 rw [List.length_map] at hlen
 cases hx with
 | whole | text | row | pick | use=>rcases hL with ⟨_,_,z⟩ | ⟨_,_,z⟩<;>cases z
 | @lst a v' p c ha hp =>
  rw [Yba hL d (.list [])] at q1 q2
  walk_at "rd"
  refine ⟨_,ha,_,YQ _ _,?_⟩
  walk_at "rd"
  have hsz:((ks.length:Int)+(((kk.map (·.1)).sum:Nat):Int))=((kk.length+(kk.map (·.1)).sum:Nat):Int):=by rw [hlen,Int.natCast_add]
  cases c with
  | many =>
   refine ⟨_,.inl (SqL.of hb),b,ks,_,rfl,hb,hk,fun H2 s2=>⟨_,rfl,XE rfl ⟨few (by decide),fun p hp=>⟨_,Yd,_,(Yc.upd_new hp _) _ _ (s2 _ _ hb),by simp;omega,fun p1 hp1=>⟨_,.inl ⟨SqL.of Yd,fun l hl=>?_⟩⟩⟩⟩⟩⟩
   refine q1 _ rfl l _ (((s2.trans (.upd_new hp _)).trans (.upd_new hp1 _)).trans (.upd_new hl _)) (.tup Yd (.cons ?_ (hkd.keep (YL (((s2.trans (.upd_new hp _)).trans (.upd_new hp1 _)).trans (.upd_new hl _))))))
   rw [hsz]
   exact .int _
  | rising =>
   refine ⟨_,.inl (SqL.of hb),b,ks,_,rfl,hb,hk,fun H2 s2=>⟨_,rfl,Ym (by decide) (Ym (by decide) (XE rfl ?_))⟩⟩
   refine ⟨b,ks,kk,rfl,s2 _ _ hb,hl,hkd.keep (YL s2),hc,fun H3 s3=>?_⟩
   have s23:=s2.trans s3
   refine ⟨_,rfl,?_⟩
   refine Y7 (fun z=>?_) fun z=>?_
   ·have z:=(@decide_eq_true_iff _ (Classical.propDecidable _)).mp z
    refine ⟨kk.length+(kk.map (·.1)).sum,b,ks,kk,by rw [hsz],s23 _ _ hb,hl,hkd.keep (YL s23),fun t H4 s4 ht=>q1 _ (if_pos z) t H4 (s23.trans s4) ht⟩
   ·exact q2 (if_neg fun h=>z ((@decide_eq_true_iff _ (Classical.propDecidable _)).mpr h)) H3 s23
  | unlike =>
   refine ⟨_,.inl (SqL.of hb),b,ks,_,rfl,hb,hk,fun H2 s2=>⟨_,rfl,Ym (by decide) (Ym (by decide) (Ym (by decide) ?_))⟩⟩
   refine ⟨b,ks,kk,rfl,s2 _ _ hb,hl,hkd.keep (YL s2),hc,fun H3 s3=>?_⟩
   have s23:=s2.trans s3
   refine ⟨_,rfl,?_⟩
   refine Y7 (fun z=>?_) fun z=>?_
   ·have z:=(@decide_eq_true_iff _ (Classical.propDecidable _)).mp z
    refine ⟨kk.length+(kk.map (·.1)).sum,b,ks,kk,by rw [hsz],s23 _ _ hb,hl,hkd.keep (YL s23),fun t H4 s4 ht=>q1 _ (if_pos z) t H4 (s23.trans s4) ht⟩
   ·exact q2 (if_neg fun h=>z ((@decide_eq_true_iff _ (Classical.propDecidable _)).mpr h)) H3 s23
 | @alike a v' p n ha hp =>
  rw [Yba hL d (.list [])] at q1 q2
  walk_at "rd"
  refine ⟨_,ha,_,X4 _ _ _,?_⟩
  walk_at "rd"
  refine ⟨_,.inl (SqL.of hb),b,ks,_,rfl,hb,hk,fun H2 s2=>⟨_,rfl,?_⟩⟩
  have hsz:((ks.length:Int)+(((kk.map (·.1)).sum:Nat):Int))=((kk.length+(kk.map (·.1)).sum:Nat):Int):=by rw [hlen,Int.natCast_add]
  refine Ym (by decide) ⟨b,ks,kk,rfl,s2 _ _ hb,hl,hkd.keep (YL s2),hc,fun H3 s3=>?_⟩
  have s23:=s2.trans s3
  refine ⟨_,rfl,?_⟩
  refine Y7 (fun z=>?_) fun z=>?_
  ·have z:=(@decide_eq_true_iff _ (Classical.propDecidable _)).mp z
   refine ⟨few (by decide),fun p hp=>⟨ks,SqL.of ((Yc.upd_new hp _) _ _ (s23 _ _ hb)),fun p1 hp1=>⟨_,(Yc.upd_new hp1 _) _ _ Yd,_,Yd,?_,fun p2 hp2=>⟨_,.inl ⟨SqL.of Yd,fun l hl=>?_⟩⟩⟩⟩⟩
   ·rw [show Y6 ks none (some 1)=ks.take 1 from QF ks 1];simp;omega
   ·have sA:=(((s23.trans (.upd_new hp (.lst [.int ((ks.length:Int)+(((kk.map (·.1)).sum:Nat):Int))]))).trans (.upd_new hp1 (.lst (Y6 ks none (some 1))))).trans (.upd_new hp2 (.lst ([V.int ((ks.length:Int)+(((kk.map (·.1)).sum:Nat):Int))]++Y6 ks none (some 1))))).trans (Yc.upd_new hl (.tup ([V.int ((ks.length:Int)+(((kk.map (·.1)).sum:Nat):Int))]++Y6 ks none (some 1))))
    refine q1 _ (if_pos z) l _ sA (.tup Yd ?_)
    rw [show Y6 ks none (some 1)=ks.take 1 from QF ks 1] at sA ⊢
    refine .cons ?_ ?_
    ·rw [hsz];exact .int _
    ·have:=(hkd.keep (YL sA)).take 1
     rw [← List.map_take] at this
     exact this
  ·exact q2 (if_neg fun h=>z ((@decide_eq_true_iff _ (Classical.propDecidable _)).mpr h)) H3 s23
theorem Ybb (H:Hp) (signs:List Nat) {f:Nat→Int}:KAts H (signs.map fun c=>V.int (f c)) (signs.map fun c => .int (f c)):=by
 induction signs with
 | nil=>exact .nil
 | cons c signs ih=>exact .cons (.int _) ih
def Z0U (K:PySem.W.Frag):Sp:=fun vs H Q _=>∃ (bk:Bk) (x v:V) (sh:Sh) (d:PyData) (b:Addr) (ks:List V) (kk:List Ky),vs=[x,v,.ref b]∧ShAt K H x sh∧Vd H v d∧YM sh d=true∧Fnd bk sh∧H b=some (.lst ks)∧ks.length≤1000∧X2 H ks kk∧kk.length=(YI bk sh d).length∧(IsL sh→Cmp kk) ∧
 (∀ k,kz sh d kk=some k→∀ t H',Yc H H'→KAt H' (.ref t) (kt k)→Q (.ref t) H')∧(kz sh d kk=none→∀ H',Yc H H'→Q .non H')
theorem Qq {k:Nat}  (R:g.Raw "key_made" "key_made" Z0a ["shape","value","keys"]) (Z5:g.Fn k "branch_place" ["branches","mark"] (Z8 g.K)) (Zr:g.Fn k "sum_of_sizes" ["keys"] (Zm g.K)) (F_list_key:g.Fn k "list_key" ["shape","keys"] (Z0T g.K)) (b_len:g.mg "len"=none) (Z1:g.mg "tuple"=none):g.Fn (k+1) "key_made" ["shape","value","keys"] (Z0U g.K):=by
 refine R.fn Z0P (fun vs H Q E h=>by obtain ⟨bk,x,v,sh,d,b,ks,kk,rfl,hx,hv,hf,hfd,hb,hkl,hkd,hnl,hcm,q1,q2⟩:=h;rfl) fun f_ cdv A outer s H vs Q E hr h=>?_
 obtain ⟨bk,x,v,sh,d,b,ks,kk,rfl,hx,hv,hf,hfd,hb,hkl,hkd,hnl,hcm,q1,q2⟩:=h
 refine ⟨_,(@Yf _ _ _ _ _ (@Yt _ _ (3) _ _ _ _ Z0P.nd rfl (.inl rfl) (@Yk _ _ _ _ _ _ _ Yr (pv 0) Ye (fun _ _=>rfl)) (by rfl) (by first | exact .inl rfl | exact .inr rfl | assumption)) (@Yf _ _ _ _ _ (@YD _ _ _ _ _ _ _ _ (@Yo _ _ _ _ _ _ _ _ YG (pv 3) YE (Yj _)) (@Yg _ _ _ (@Yh _ _ _ _ (@Y2 _ _ _ _ _ (@Ya _ _ _ _ _ (@YcM _ _ _ _ _ _ _ _ _ PySem.F.plainAttrs_int PySem.F.slot_int_bit_length PySem.F.type_int_bit_length Ycl (@Yw _ _ _ _ _ _ _ _ Wo (pv 1) (@Yk _ _ _ _ _ _ _ Yr (pv 0) Ye (fun _ _=>rfl))) (by rfl) (by rfl)) (@Ya _ _ _ _ _ (pv 1) Yb (by rfl)) (by rfl))))) Yq) (@Yf _ _ _ _ _ (@YD _ _ _ _ _ _ _ _ (@Yo _ _ _ _ _ _ _ _ YG (pv 3) YE (Yj _)) (@Yg _ _ _ (@Yh _ _ _ _ (@Xp _ _ _ _ _ _ _ _ _ _ Z1 Y8 (@Ya _ _ _ _ _ (@Yw _ _ _ _ _ _ _ _ Vi (@YF _ _ _ _ (@Ya _ _ _ _ _ (@YB _ _ _ _ _ _ _ _ _ _ b_len UE (@Ya _ _ _ _ _ (pv 1) Yb (by rfl)) (by decide +kernel) (by rfl) (by rfl) (by decide) (by decide) (by rfl) (by rfl)) Yb (by rfl))) (@X3 _ _ _ _ _ _ _ ([none,some 0]) ((["sign","shape"]:List Str)) _ (Yv 0) _ _ (.own (.cap (i:=0) rfl rfl (by first | exact .inl rfl | exact .inr rfl) .nil)) rfl (@YaK _ _ _ _ (pv 1)) (fun cl C s₀ H₀ fp pn=>(@Yp _ _ (0) _ (show List.Nodup (["sign","shape"]:List Str) by decide +kernel) rfl (.inl rfl) (.inr rfl))) (fun cl C s₀ H₀ fp pn=>Y3) (fun cl C s₀ H₀ fp pn=>(@YcR _ (g.K) _ _ _ _ _ _ _ _ _ _ _ PySem.F.plainAttrs_str PySem.F.slot_str_find PySem.F.type_str_find Ycm (@Yk _ _ _ _ _ _ _ (X6 (K:=g.K)) (pv 1) Ye (fun _ _=>rfl)) (@Ya _ _ _ _ _ (pv 0) Yb (by rfl)) (by rfl) (by rfl) (by rfl) (by rfl) (by rfl) (by rfl))) (by intro x hx;simp at hx;first | (subst hx;exact .inl rfl) | (rcases hx with rfl | rfl<;>exact .inl rfl) | (rcases hx with rfl | rfl | rfl<;>exact .inl rfl) | (rcases hx with rfl | rfl | rfl | rfl<;>exact .inl rfl) | (rcases hx with rfl | rfl | rfl | rfl | rfl<;>exact .inl rfl)) (by rfl) (by decide) (by decide +kernel) (by intro _;rfl))) Yb (by rfl)) (by decide +kernel) (by rfl) (by rfl) (by decide) (by decide) (by rfl) (by rfl)))) Yq) (@Yf _ _ _ _ _ (@YD _ _ _ _ _ _ _ _ (@Yo _ _ _ _ _ _ _ _ YG (pv 3) YE (Yj _)) (@Yg _ _ _ (@Yh _ _ _ _ (@Xp _ _ _ _ _ _ _ _ _ _ Z1 Y8 (@Ya _ _ _ _ _ (@Yw _ _ _ _ _ _ _ _ Vi (@YF _ _ _ _ (@Ya _ _ _ _ _ (@YA _ _ _ _ _ _ _ _ _ _ _ _ Zr hr (@Ya _ _ _ _ _ (pv 2) Yb (by rfl)) (by omega) (by rfl) (by rfl) (by decide) (by rfl) (by rfl)) Yb (by rfl))) (pv 2)) Yb (by rfl)) (by decide +kernel) (by rfl) (by rfl) (by decide) (by decide) (by rfl) (by rfl)))) Yq) (@Yf _ _ _ _ _ (@YD _ _ _ _ _ _ _ _ (@Yo _ _ _ _ _ _ _ _ YG (pv 3) YE (Yj _)) (@Yg _ _ _ (@Yh _ _ _ _ (@Y2 _ _ _ _ _ (@Ya _ _ _ _ _ (@Yk _ _ _ _ _ _ _ Yr (@Yk _ _ _ _ _ _ _ YO (pv 2) Ye (fun _ _=>rfl)) Ye (fun _ _=>rfl)) (@Ya _ _ _ _ _ (@YA _ _ _ _ _ _ _ _ _ _ _ _ Z5 hr (@Ya _ _ _ _ _ (@Yk _ _ _ _ _ _ _ Yr (pv 0) Ye (fun _ _=>rfl)) (@Ya _ _ _ _ _ (@Yk _ _ _ _ _ _ _ Yr (pv 1) Ye (fun _ _=>rfl)) Yb (by rfl)) (by rfl)) (by omega) (by rfl) (by rfl) (by decide) (by rfl) (by rfl)) (@Ya _ _ _ _ _ (@Yk _ _ _ _ _ _ _ YO (pv 2) Ye (fun _ _=>rfl)) Yb (by rfl)) (by rfl)) (by rfl))))) Yq) (@Yf _ _ _ _ _ (@YD _ _ _ _ _ _ _ _ (@Yo _ _ _ _ _ _ _ _ YG (pv 3) YE (Yj _)) (@Yg _ _ _ (@Yh _ _ _ _ (@Y2 _ _ _ _ _ (@Ya _ _ _ _ _ (@Yw _ _ _ _ _ _ _ _ XV Ye (@Yk _ _ _ _ _ _ _ Yr (@Yk _ _ _ _ _ _ _ YO (pv 2) Ye (fun _ _=>rfl)) Ye (fun _ _=>rfl))) (@Ya _ _ _ _ _ (@Yk _ _ _ _ _ _ _ YO (pv 2) Ye (fun _ _=>rfl)) Yb (by rfl)) (by rfl))))) Yq) (@Yg _ _ _ (@Yh _ _ _ _ (@YA _ _ _ _ _ _ _ _ _ _ _ _ F_list_key hr (@Ya _ _ _ _ _ (pv 0) (@Ya _ _ _ _ _ (pv 2) Yb (by rfl)) (by rfl)) (by omega) (by rfl) (by rfl) (by decide) (by rfl) (by rfl)))))))))),?_⟩
 have h6:10000<sizeLine:=by decide
 have hk:=hkd.keyed hkl
 cases hx with
 | @whole a lo hi ha =>
  walk_at "rd"
  refine ⟨_,ha,_,X4 _ _ _,?_⟩
  walk_at "rd"
  cases hv with
  | int i =>
   walk_at "rd"
   exact ⟨_,ha,_,Ut _ _ _,_,rfl,rfl,few (by decide),fun p hp=>q1 _ rfl p _ (.upd_new hp _) (.tup Yd (.cons (.int _) (.cons (.int _) .nil)))⟩
  | _=>cases hf
 | @text a signs ha hn =>
  walk_at "rd"
  refine ⟨_,ha,_,YQ _ _,?_⟩
  walk_at "rd"
  refine Ym (by decide) ?_
  cases hv with
  | str l h hl =>
   walk_at "rd"
   refine ⟨few (by rw [Uq];omega),few (by decide),fun p hp=>?_⟩
   have s1:=Yc.upd_new hp (.lst [.int (S l).length])
   refine QG (l:=l) (l.map fun c=>V.int (Txt.find (S signs) (S [c]))) (fun R r=>by walk_at "rd";exact r) (by simp) (by omega) ?_ ?_
   ·intro i c y H' hc hy sm R r
    rw [List.getElem?_map,hc] at hy
    have:V.int (Txt.find (S signs) (S [c]))=y:=Option.some.inj hy
    subst this
    walk_at "rd"
    refine ⟨_,(s1.trans sm).tup ha,_,YX _ _,rfl,_,rfl,?_⟩
    exact r H' (.refl H')
   ·intro D H' hD sm hd
    have hpp:=sm _ _ (Yd (H:=H) (a:=p) (o := .lst [.int (S l).length]))
    refine ⟨_,rfl,_,hpp,_,hd,?_,fun p2 hp2=>⟨_,.inl ⟨SqL.of Yd,fun t ht=>?_⟩⟩⟩
    ·simp;omega
    ·refine q1 _ rfl t _ (((s1.trans sm).trans (.upd_new hp2 _)).trans (.upd_new ht _)) (.tup Yd (.cons (.int _) ?_))
     rw [XD]
     exact Ybb _ _
  | _=>cases hf
 | @row a b' vs ps ha hb' hs hn =>
  walk_at "rd"
  refine ⟨_,ha,_,YQ _ _,?_⟩
  walk_at "rd"
  have ek:kz (.row ps) d kk=some ((kk.map (·.1)).sum,kk.map kt):=by cases d<;>rfl
  refine Ym (by decide) (Ym (by decide) ?_)
  refine ⟨b,ks,_,rfl,hb,hk,fun H2 s2=>⟨few (by decide),fun p hp=>?_⟩⟩
  refine ⟨_,Yd,_,(Yc.upd_new hp _) _ _ (s2 _ _ hb),by simp;omega,fun p1 hp1=>⟨_,.inl ⟨SqL.of Yd,fun l hl=>?_⟩⟩⟩
  refine q1 _ ek l _ (((s2.trans (.upd_new hp _)).trans (.upd_new hp1 _)).trans (.upd_new hl _)) (.tup Yd (.cons (.int _) (hkd.keep (YL ?_))))
  exact (((s2.trans (.upd_new hp _)).trans (.upd_new hp1 _)).trans (.upd_new hl _))
 | @lst a v' p c ha hp =>
  have hL:IsL (.lst c p) := .inl ⟨_,_,rfl⟩
  walk_at "rd"
  refine ⟨_,ha,_,YQ _ _,?_⟩
  walk_at "rd"
  refine Ym (by cases c<;>decide) (Ym (by cases c<;>decide) (Ym (by cases c<;>decide) (Ym (by cases c<;>decide) (Ym (by cases c<;>decide) ?_))))
  exact ⟨_,_,d,b,ks,kk,rfl,.lst c ha hp,hL,hb,hkl,hkd,hcm hL,q1,q2⟩
 | @alike a v' p n ha hp =>
  have hL:IsL (.alike p n) := .inr ⟨_,_,rfl⟩
  walk_at "rd"
  refine ⟨_,ha,_,X4 _ _ _,?_⟩
  walk_at "rd"
  refine Ym (by decide) (Ym (by decide) (Ym (by decide) (Ym (by decide) (Ym (by decide) ?_))))
  exact ⟨_,_,d,b,ks,kk,rfl,.alike n ha hp,hL,hb,hkl,hkd,hcm hL,q1,q2⟩
 | @pick a b' as ms us ps ha hb' hbr hs hn =>
  walk_at "rd"
  refine ⟨_,ha,_,YQ _ _,?_⟩
  walk_at "rd"
  rw [← Xd] at hf
  rw [Xe] at hnl
  obtain ⟨x,d',i,rfl,hi⟩:=Wa hf
  cases hv with
  | @tup c vs _ h hl hds =>
  cases hds with
  | @cons v1 _ vs1 _ h1 hds1 =>
  cases hds1 with
  | @cons v2 _ vs2 _ h2 hds2 =>
  cases hds2 with
  | nil =>
  cases h1 with
  | str l hs1 hl1 =>
  have hil:=Wu hi
  have e2:=hs.length
  have b2:=hbr.2.1
  have fp:ps[i]?=some (ps[i]'(by omega)):=List.getElem?_eq_getElem _
  have ew:XJ ms ps (.tuple [.str (S l),d'])=[(ps[i]'(by omega),d')]:=by
   show (((plc ms (S l)).bind fun i=>ps[i]?).toList.map fun p=>(p,d'))=_
   rw [hi,Option.bind_some,fp]
   rfl
  rw [ew] at hnl
  obtain ⟨k0,rfl⟩:∃ n,kk=[n]:=by
   match kk,hnl with
   | [n],_=>exact ⟨n,rfl⟩
  cases hkd with
  | @cons k _ _ _ hk1 hk2 =>
  cases hk2 with
  | nil =>
  obtain ⟨ka,kr,rfl,hka⟩:=X7 hk1
  refine Ym (by decide) (Ym (by decide) (Ym (by decide) ⟨_,SqL.of hb,_,Xa _ _,_,rfl,_,SqT.of hka,_,Xa _ _,_,ha,_,YX _ _,c,rfl,_,SqT.of h,_,YQ _ _,b',as,ms,us,S l,rfl,hb',hbr,fun H' s'=>⟨_,SqL.of (s' _ _ hb),_,Xa _ _,few (by decide),fun p hp=>?_⟩⟩))
  have sm:=s'.trans (.upd_new hp (.tup [.int (k0.1:Nat),.int (i:Nat),.ref ka]))
  simp only [kz,hi,Option.getD_some] at q1
  rw [hi] at *
  exact q1 _ rfl p _ sm (.tup Yd (.cons (.int _) (.cons (.int _) (.cons (hk1.keep (YL sm)) .nil))))
 | @use a nm ha =>
  walk_at "rd"
  refine ⟨_,ha,_,YQ _ _,?_⟩
  walk_at "rd"
  obtain ⟨i,hi⟩:=hfd
  have hil:=Wu hi
  rw [List.length_map] at hil
  have fp:(bk.map (·.2))[i]?=some ((bk.map (·.2))[i]'(by rw [List.length_map];exact hil)):=List.getElem?_eq_getElem _
  rw [XG,hi,Option.bind_some,fp] at hnl
  obtain ⟨k0,rfl⟩:∃ n,kk=[n]:=by
   match kk,hnl with
   | [n],_=>exact ⟨n,rfl⟩
  cases hkd with
  | @cons k _ _ _ hk1 hk2 =>
  cases hk2 with
  | nil =>
  obtain ⟨ka,kr,rfl,hka⟩:=X7 hk1
  rw [Ya5] at q1
  refine Ym (by decide) (Ym (by decide) (Ym (by decide) (Ym (by decide) ⟨_,SqL.of hb,_,Xa _ _,_,rfl,_,SqT.of hka,_,Xa _ _,_,rfl,_,SqL.of hb,_,Xa _ _,few (by decide),fun p hp=>q1 _ rfl p _ (.upd_new hp _) (.tup Yd (.cons ?_ (.cons (hk1.keep (YL (Yc.upd_new hp _))) .nil)))⟩)))
  rw [Int.natCast_add]
  exact .int _
theorem Vt {H:Hp} {v:V} {d:PyData} {sh:Sh} (h:Vd H v d):(YI bk sh d).length≤1000:=by
 by_cases hu:∃ nm,sh = .use nm
 ·obtain ⟨nm,rfl⟩:=hu
  have e:(YI bk (.use nm) d).length≤1:=by
   cases d<;>(show ((Option.toList _).map _).length≤1;rw [List.length_map];cases (plc (bk.map (·.1)) (S nm)).bind _<;>simp)
  omega
 by_cases hp:∃ ms ps,sh = .pick ms ps
 ·obtain ⟨ms,ps,rfl⟩:=hp;rw [Xe];exact Ql
 cases h with
 | @lst a vs ds h hl hs =>
  have:=hs.length
  cases sh<;>first | exact (hp ⟨_,_,rfl⟩).elim | exact (hu ⟨_,rfl⟩).elim | (simp [YI]<;>omega)
 | @tup a vs ds h hl hs =>
  have:=hs.length
  cases sh<;>first | exact (hp ⟨_,_,rfl⟩).elim | exact (hu ⟨_,rfl⟩).elim | (simp [YI]<;>omega)
 | _=>cases sh<;>first | exact (hp ⟨_,_,rfl⟩).elim | exact (hu ⟨_,rfl⟩).elim | simp [YI]
theorem Ub {α β:Type} {f:α→Option β}:∀ {l:List α} {w:α},w∈l→f w=none→l.mapM f=none
 | x::l,w,hw,hn=>by
  rw [List.mapM_cons]
  rcases List.mem_cons.mp hw with rfl | hw
  ·rw [hn];rfl
  ·rw [Ub hw hn]
   cases f x<;>rfl
theorem Yc1 {bk:Bk} {m:Nat} {sh:Sh} {d:PyData} {kk:List Ky} (hm:m≤63) (hL:IsL sh) (hf:YM sh d=true) (h:(YI bk sh d).mapM (fun w=>ky bk m w.1 w.2)=some kk):Cmp kk:=by
 have key:∀ (p:Sh) (ds:List PyData),(ds.map fun d=>(p,d)).mapM (fun w=>ky bk m w.1 w.2)=some kk→Cmp kk:=fun p ds h k hk=>by
  have h1:∀ k∈kk,∃ d,ky bk m p d=some k:=Wb (P:=fun k=>∃ d,ky bk m p d=some k) h fun a ha b hb=>by
   obtain ⟨d,_,rfl⟩:=List.mem_map.mp ha
   exact ⟨d,hb⟩
  obtain ⟨d,hd⟩:=h1 k hk
  refine ⟨W1 hd,by have:=Vb hd;omega,fun k' hk'=>?_⟩
  obtain ⟨d',hd'⟩:=h1 k' hk'
  exact U3 p d d' k k' hd hd'
 rcases hL with ⟨c,p,rfl⟩ | ⟨p,n,rfl⟩
 ·cases d<;>simp only [YM,Bool.false_eq_true] at hf
  exact key p _ h
 ·cases d<;>simp only [YM,Bool.false_eq_true] at hf
  exact key p _ h
variable {m:Nat}
abbrev LV:Nat:=3
def ZG (K:PySem.W.Frag) (m:Nat):Sp:=fun vs H Q _=>∃ (bk:Bk) (b x v:V) (sh:Sh) (d:PyData),vs=[b,x,v]∧m≤64∧WR K H b bk∧ShAt K H x sh∧Enf bk m sh d∧Vd H v d ∧
 (∀ k,ky bk m sh d=some k→∀ p H',Yc H H'→KAt H' (.ref p) (kt k)→Q (.ref p) H')∧(ky bk m sh d=none→∀ H',Yc H H'→Q .non H')
theorem Yai {K:PySem.W.Frag} {vs:List V} {H:Hp} {Q:VK} {E:XK} (h:ZG K 0 vs H Q E):False:=by
 obtain ⟨bk,b,x,v,sh,d,_,_,_,_,h,_⟩:=h
 exact h
theorem Z0f {k:Nat}  (R:g.Raw "weighed" "weighed" Z0y ["book","shape","value"]) (F_has_form:g.Fn k "has_form" ["shape","value"] (Z0S g.K)) (Z15:g.Fn k "things_within" ["book","shape","value"] (ZM g.K)) (F_key_made:g.Fn k "key_made" ["shape","value","keys"] (Z0U g.K)) (Z0E:g.Fn k "weighed" ["book","shape","value"] (ZG g.K m)):g.Fn (k+1) "weighed" ["book","shape","value"] (ZG g.K (m+1)):=by
 refine R.fn Zl (fun vs H Q E h=>by obtain ⟨bk,b,x,v,sh,d,rfl,hm,hbk,hx,hft,hv,q1,q2⟩:=h;rfl) fun f_ cdv A outer s H vs Q E hr h=>?_
 obtain ⟨bk,b,x,v,sh,d,rfl,hm,hbk,hx,hft,hv,q1,q2⟩:=h
 refine ⟨_,(@Yf _ _ _ _ _ (@YD _ _ _ _ _ _ _ _ (@Vg _ _ _ _ (@Wm _ _ _ (@YA _ _ _ _ _ _ _ _ _ _ _ _ F_has_form hr (@Ya _ _ _ _ _ (pv 1) (@Ya _ _ _ _ _ (pv 2) Yb (by rfl)) (by rfl)) (by omega) (by rfl) (by rfl) (by decide) (by rfl) (by rfl)) (by intro _;rfl))) (@Yg _ _ _ (@Yh _ _ _ _ XS)) Yq) (@Yf _ _ _ _ _ (@Yt _ _ (3) _ _ _ _ Zl.nd rfl (.inl rfl) (@YF _ _ _ _ Yb) (by rfl) (by first | exact .inl rfl | exact .inr rfl | assumption)) (@Yf _ _ _ _ _ (@Xg _ _ _ _ _ _ _ _ PassesOwn.never rfl (@YT _ _ _ _ (@YA _ _ _ _ _ _ _ _ _ _ _ _ Z15 hr (@Ya _ _ _ _ _ (pv 0) (@Ya _ _ _ _ _ (pv 1) (@Ya _ _ _ _ _ (pv 2) Yb (by rfl)) (by rfl)) (by rfl)) (by omega) (by rfl) (by rfl) (by decide) (by rfl) (by rfl))) (@Xz _ _ _ _ _ (2) rfl (@YK _ _ _ _ _ (@Yp _ _ (4) _ Zl.nd rfl (.inl rfl) (by first | exact .inl rfl | exact .inr rfl | assumption)) (@YK _ _ _ _ _ (@Yp _ _ (5) _ Zl.nd rfl (.inl rfl) (by first | exact .inl rfl | exact .inr rfl | assumption)) Xm (by rfl)) (by rfl)) (by rfl) (by rfl)) (@Yf _ _ _ _ _ (@Yt _ _ (6) _ _ _ _ Zl.nd rfl (.inl rfl) (@YA _ _ _ _ _ _ _ _ _ _ _ _ Z0E hr (@Ya _ _ _ _ _ (pv 0) (@Ya _ _ _ _ _ (pv 4) (@Ya _ _ _ _ _ (pv 5) Yb (by rfl)) (by rfl)) (by rfl)) (by omega) (by rfl) (by rfl) (by decide) (by rfl) (by rfl)) (by rfl) (by first | exact .inl rfl | exact .inr rfl | assumption)) (@Yf _ _ _ _ _ (@YD _ _ _ _ _ _ _ _ (@Yo _ _ _ _ _ _ _ _ Yay (pv 6) XS (Yj _)) (@Yg _ _ _ (@Yh _ _ _ _ XS)) Yq) (@Yg _ _ _ (@Xb _ _ _ _ (@XB _ _ _ _ _ _ _ _ _ _ _ _ PySem.F.plainAttrs_list PySem.F.slot_list_append PySem.F.type_list_append YY (pv 3) (@Ya _ _ _ _ _ (pv 6) Yb (by rfl)) (by rfl) (by rfl) (by rfl) (by rfl) (by rfl)) (by rfl))))) (by intro _;rfl)) (@Yg _ _ _ (@Yh _ _ _ _ (@YA _ _ _ _ _ _ _ _ _ _ _ _ F_key_made hr (@Ya _ _ _ _ _ (pv 1) (@Ya _ _ _ _ _ (pv 2) (@Ya _ _ _ _ _ (pv 3) Yb (by rfl)) (by rfl)) (by rfl)) (by omega) (by rfl) (by rfl) (by decide) (by rfl) (by rfl))))))),?_⟩
 have h6:10000<sizeLine:=by decide
 have hm64:m≤63:=by omega
 refine UJ (fun σ H'=>σ=[some b,some x,some v,none,none,none,none]∧Yc H H'∧YM sh d=true) ?_ ?_
 ·rintro σ H1 ⟨rfl,sm,hf⟩
  have hff:(YM sh d&&fnd bk sh d)=true:=by rw [hf,YcZ hx hf (hft hf).1];rfl
  walk_at "rd"
  refine ⟨few (by decide),fun p hp=>?_⟩
  have s1:=Yc.upd_new hp (.lst [])
  have hx1:=hx.keep sm
  have hv1:=hv.keep sm
  refine WF (fun l xs H2=>∃ as,xs=as.map V.ref∧l≠p∧Yc (upd H1 p (.lst [])) H2∧H2 l=some (.lst (as.map V.ref))∧Uu g.K H1 H2 as (YI bk sh d)) (fun R r=>?_) ?_
  ·walk_at "rd"
   exact ⟨bk,b,x,v,sh,d,H1,rfl,s1,hbk.keep sm,(hft hf).1,hx1,hv1,hf,fun l as H' s' hl0 hl hpr=>r l _ H' (SqL.of hl) ⟨as,rfl,fun e=>by (rw [e,Yd] at hl0;cases hl0),s',hl,hpr⟩⟩
  ·rintro l xs H2 hS ⟨as,rfl,hlp,s2,hl,hpr⟩
   refine ⟨fun i σ H'=>∃ o4 o5 o6 ks kk,σ=[some b,some x,some v,some (.ref p),o4,o5,o6]∧Yc H1 H'∧H' p=some (.lst ks)∧H' l=some (.lst (as.map V.ref))∧Uu g.K H1 H' as (YI bk sh d)∧X2 H' ks kk∧ks.length=i∧((YI bk sh d).take i).mapM (fun w=>ky bk m w.1 w.2)=some kk,?_,?_,?_,?_⟩
   ·exact ⟨none,none,none,[],[],rfl,s1.trans s2,s2 _ _ Yd,hl,hpr,.nil,rfl,by simp⟩
   ·rintro i σ H' hi ⟨o4,o5,o6,ks,ns,rfl,e1,e2,e3,_⟩
    exact SqL.of e3
   ·rintro i y σ H' hy ⟨o4,o5,o6,ks,kk,rfl,e1,e2,e3,e4,e5,e6,e7⟩
    have hi:i<as.length:=by simpa using (List.getElem?_eq_some_iff.mp hy).1
    have ha:as[i]?=some as[i]:=List.getElem?_eq_getElem hi
    rw [List.getElem?_map,ha] at hy
    have:V.ref as[i]=y:=Option.some.inj hy
    subst this
    have hw:(YI bk sh d)[i]?=some ((YI bk sh d)[i]'(by rw [← e4.1];exact hi)):=List.getElem?_eq_getElem _
    generalize (YI bk sh d)[i]'(by rw [← e4.1];exact hi)=w at hw
    have hwm:=List.mem_of_getElem? hw
    obtain ⟨y',z,ht,hsy,hvz⟩:=e4.2 i _ w ha hw
    walk_at "rd"
    refine ⟨_,SqT.of ht,rfl,?_⟩
    walk_at "rd"
    refine ⟨bk,b,y',z,w.1,w.2,rfl,by omega,hbk.keep (sm.trans e1),hsy.keep e1,(hft hf).2 w hwm,hvz.keep e1,fun n hn t H4 s4 ht4=>?_,fun hn H4 s4=>?_⟩
    ·walk_at "rd"
     have s14:=e1.trans s4
     have hwl:=Vt (bk:=bk) (sh:=sh) hv
     have e41:=e4.1
     have tp:Tps H4 (upd H4 p (.lst (ks++[.ref t]))) := .upd_lst (s4 _ _ e2)
     refine Ym (by simp) ⟨.inl ⟨rfl,_,SqL.of (s4 _ _ e2)⟩,ks,s4 _ _ e2,by omega,.upd_over hp s14 _,_,Yd,?_,⟨e4.1,fun j a w h1 h2=>?_⟩,kk++[n],?_,by simp [e6],?_⟩
     ·rw [Yl hlp];exact s4 _ _ e3
     ·obtain ⟨y,z,g1,g2,g3⟩:=e4.2 j a w h1 h2
      exact ⟨y,z,by rw [Yl (Um (s4 _ _ g1) (s4 _ _ e2) (by intro z;cases z))];exact s4 _ _ g1,g2,g3⟩
     ·rw [X2,List.map_append]
      exact (e5.keep ((YL s4).trans tp)).append (.cons (ht4.keep tp) .nil)
     ·rw [YZ hw,List.mapM_append,e7]
      simp [hn]
    ·exact q2 (by
      rw [ky,Ub (f:=fun w=>ky bk m w.1 w.2) hwm hn]
      split<;>rfl) H4 ((sm.trans e1).trans s4)
   ·rintro σ H' ⟨o4,o5,o6,ks,kk,rfl,e1,e2,e3,e4,e5,e6,e7⟩
    walk_at "rd"
    rw [List.length_map,e4.1,List.take_length] at e7
    have hwl:=Vt (bk:=bk) (sh:=sh) hv
    have e41:=e4.1
    have hkn:=e5.length
    rw [List.length_map] at e6 hkn
    refine ⟨bk,x,v,sh,d,p,ks,kk,rfl,hx1.keep e1,hv1.keep e1,hf,(hft hf).1,e2,by omega,e5,by omega,fun hL=>?_,fun k hk t H4 s4 ht=>q1 k (by rw [ky,if_pos hff,e7];exact hk) t H4 ((sm.trans e1).trans s4) ht,fun hk H4 s4=>q2 (by rw [ky,if_pos hff,e7];exact hk) H4 ((sm.trans e1).trans s4)⟩
    exact Yc1 hm64 hL hf e7
 ·intro N hN
  walk_at "rd"
  refine ⟨x,v,sh,d,rfl,hx,hv,fun H' s'=>⟨_,rfl,?_⟩⟩
  by_cases hf:YM sh d=true
  ·rw [hf]
   exact Ym (by simp) (hN _ _ ⟨rfl,s',hf⟩)
  ·have hf':=Bool.eq_false_iff.mpr hf
   rw [hf']
   exact XE rfl (q2 (by rw [ky,if_neg (by rw [hf'];simp)]) H' s')
def ZF (K:PySem.W.Frag):Sp:=fun vs H Q _=>∃ (bk:Bk) (b x v:V) (sh:Sh) (d:PyData) (k:Ky),vs=[b,x,v]∧WR K H b bk∧ShAt K H x sh∧Enf bk LV sh d∧Vd H v d∧ky bk LV sh d=some k∧∀ p H',Yc H H'→KAt H' (.ref p) (kt k)→Q (.ref p) H'
theorem Z0L {k:Nat}  (R:g.Raw "key_or_refusal" "key_or_refusal" Zf ["book","shape","value"]) (Z0E:g.Fn k "weighed" ["book","shape","value"] (ZG g.K LV)):g.Fn (k+1) "key_or_refusal" ["book","shape","value"] (ZF g.K):=by
 refine R.fn ZD (fun vs H Q E h=>by obtain ⟨bk,b,x,v,sh,d,k,rfl,hbk,hx,hft,hv,hn,q⟩:=h;rfl) fun f_ cdv A outer s H vs Q E hr h=>?_
 obtain ⟨bk,b,x,v,sh,d,k,rfl,hbk,hx,hft,hv,hn,q⟩:=h
 refine ⟨_,(@Yf _ _ _ _ _ (@Yt _ _ (3) _ _ _ _ ZD.nd rfl (.inl rfl) (@YA _ _ _ _ _ _ _ _ _ _ _ _ Z0E hr (@Ya _ _ _ _ _ (pv 0) (@Ya _ _ _ _ _ (pv 1) (@Ya _ _ _ _ _ (pv 2) Yb (by rfl)) (by rfl)) (by rfl)) (by omega) (by rfl) (by rfl) (by decide) (by rfl) (by rfl)) (by rfl) (by first | exact .inl rfl | exact .inr rfl | assumption)) (@Yf _ _ _ _ _ (@YD _ _ _ _ _ _ _ _ (@Yo _ _ _ _ _ _ _ _ Yay (pv 3) XS (Yj _)) (@Yg _ _ _ Uz) Yq) (@Yg _ _ _ (@Yh _ _ _ _ (pv 3))))),?_⟩
 walk_at "rd"
 refine ⟨bk,b,x,v,sh,d,rfl,by decide,hbk,hx,hft,hv,fun n' hn' p H' s' hp=>?_,fun hn' H' s'=>?_⟩
 ·rw [hn] at hn'
  cases hn'
  walk_at "rd"
  exact Ym (by simp) (q p H' s' hp)
 ·rw [hn] at hn';cases hn'
open Classical in
noncomputable def cmpZ (k k':Ky):Int:=if k=k' then 0 else if KLt (kt k) (kt k') then -1 else 1
theorem Wc (k:Ky):cmpZ k k=0:=by unfold cmpZ;rw [if_pos rfl]
theorem WT {k k':Ky} (h:KLt (kt k) (kt k')):cmpZ k k' = -1:=by
 unfold cmpZ
 rw [if_neg (fun e=>h.irr (by rw [e])),if_pos h]
theorem Vu {k k':Ky} (h:KLt (kt k') (kt k)):cmpZ k k'=1:=by
 unfold cmpZ
 rw [if_neg (fun e=>h.irr (by rw [e])),if_neg (fun e=>(h.trans e).irr rfl)]
theorem Uc {k k':Ky} (h:KD (kt k)) (h':KD (kt k')):(k=k'∧cmpZ k k'=0∧cmpZ k' k=0)∨(k≠k'∧KLt (kt k) (kt k')∧cmpZ k k' = -1∧cmpZ k' k=1)∨(k≠k'∧KLt (kt k') (kt k)∧cmpZ k k'=1∧cmpZ k' k = -1):=by
 rcases h.tri h' with c | c | c
 ·exact .inr (.inl ⟨fun e=>c.irr (by rw [e]),c,WT c,Vu c⟩)
 ·have:=UX c
  subst this
  exact .inl ⟨rfl,Wc _,Wc _⟩
 ·exact .inr (.inr ⟨fun e=>c.irr (by rw [e]),c,Vu c,WT c⟩)
theorem YbE {k k':Ky} (h:k.1<k'.1):cmpZ k k' = -1:=WT (.tup (.here (.int (by omega))))
def Z0V (K:PySem.W.Frag):Sp:=fun vs H Q _=>∃ (bk:Bk) (b x v v':V) (sh:Sh) (d d':PyData) (k k':Ky),vs=[b,x,v,v']∧WR K H b bk∧ShAt K H x sh∧Enf bk LV sh d∧Enf bk LV sh d'∧Vd H v d∧Vd H v' d'∧ky bk LV sh d=some k∧ky bk LV sh d'=some k'∧∀ H',Yc H H'→Q (.int (cmpZ k k')) H'
theorem Qr {k:Nat}  (R:g.Raw "compared" "compared" Z0b ["book","shape","one","other"]) (ZN:g.Fn k "key_or_refusal" ["book","shape","value"] (ZF g.K)):g.Fn (k+1) "compared" ["book","shape","one","other"] (Z0V g.K):=by
 refine R.fn ZS (fun vs H Q E h=>by obtain ⟨bk,b,x,v,v',sh,d,d',k,k',rfl,hbk,hx,hft,hft',hv,hv',hk,hk',q⟩:=h;rfl) fun f_ cdv A outer s H vs Q E hr h=>?_
 obtain ⟨bk,b,x,v,v',sh,d,d',k,k',rfl,hbk,hx,hft,hft',hv,hv',hk,hk',q⟩:=h
 refine ⟨_,(@Yf _ _ _ _ _ (@Yt _ _ (4) _ _ _ _ ZS.nd rfl (.inl rfl) (@YA _ _ _ _ _ _ _ _ _ _ _ _ ZN hr (@Ya _ _ _ _ _ (pv 0) (@Ya _ _ _ _ _ (pv 1) (@Ya _ _ _ _ _ (pv 2) Yb (by rfl)) (by rfl)) (by rfl)) (by omega) (by rfl) (by rfl) (by decide) (by rfl) (by rfl)) (by rfl) (by first | exact .inl rfl | exact .inr rfl | assumption)) (@Yf _ _ _ _ _ (@Yt _ _ (5) _ _ _ _ ZS.nd rfl (.inl rfl) (@YA _ _ _ _ _ _ _ _ _ _ _ _ ZN hr (@Ya _ _ _ _ _ (pv 0) (@Ya _ _ _ _ _ (pv 1) (@Ya _ _ _ _ _ (pv 3) Yb (by rfl)) (by rfl)) (by rfl)) (by omega) (by rfl) (by rfl) (by decide) (by rfl) (by rfl)) (by rfl) (by first | exact .inl rfl | exact .inr rfl | assumption)) (@Yf _ _ _ _ _ (@YD _ _ _ _ _ _ _ _ (@Yo _ _ _ _ _ _ _ _ (UI hr.units) (pv 4) (pv 5) (Yj _)) (@Yg _ _ _ (@Yh _ _ _ _ Ye)) Yq) (@Yg _ _ _ (@Yh _ _ _ _ (@Wx _ _ _ _ _ _ _ _ (@Yo _ _ _ _ _ _ _ _ (YaW hr.units66) (pv 4) (pv 5) (Yj _)) (@Wy _ _ _ _ _ _ X8 Ye) Ye)))))),?_⟩
 walk_at "rd"
 refine ⟨bk,b,x,v,sh,d,k,rfl,hbk,hx,hft,hv,hk,fun p H1 s1 hp=>?_⟩
 refine ⟨bk,b,x,v',sh,d',k',rfl,hbk.keep s1,hx.keep s1,hft',hv'.keep s1,hk',fun p2 H2 s2 hp2=>?_⟩
 have hp1:=hp.keep (YL s2)
 have q:=q _ (s1.trans s2)
 have kd:=W1 hk
 have kd':=W1 hk'
 have dp:=Vb hk
 obtain ⟨bb,hlt,hbb⟩:=(U3 sh d d' k k' hk hk').answer kd kd'
 refine ⟨_,hp1.den,_,hp2.den,by have:LV=3:=rfl;omega,?_⟩
 refine Y7 (fun c=>?_) fun c=>?_
 ·have:=UX ((kd.eqv kd').mp c)
  subst this
  rw [Wc] at q
  exact q
 ·refine ⟨_,hp1.den,_,hp2.den,_,hlt,by have:LV=3:=rfl;omega,?_⟩
  refine Y7 (fun c2=>?_) fun c2=>?_
  ·rw [WT (hbb.mp c2)] at q
   exact q
  ·rcases Uc kd kd' with ⟨rfl,_⟩ | ⟨_,l,_⟩ | ⟨_,_,e,_⟩
   ·exact (c ((kd.eqv kd').mpr rfl)).elim
   ·exact (c2 (hbb.mpr l)).elim
   ·rw [e] at q
    exact q
inductive Pt
 | who (lo:Int)
 | txt (j:Nat)
def sgs (j:Nat):List Nat:=[[97,98,99],[98,99,97],[99,98,97],[97,99,98]].getD j []
def Pt.sh:Pt→Sh
 | .who lo => .whole lo (lo+7)
 | .txt j => .text (sgs j)
def Pt.ok:Pt→Prop
 | .who _=>True
 | .txt j=>j<4
def Wk (K:PySem.W.Frag) (H:Hp) (v:V):Pt→Prop
 | .who lo=>∃ a,v = .ref a∧SqT K H a [.str "whole",.int lo,.int (lo+7)]
 | .txt j=>∃ a,v = .ref a∧SqT K H a [.str "text",.str (S (sgs j))]∧j<4
def Z0F (K:PySem.W.Frag):Sp:=fun vs H Q _=>∃ (a:Addr) (ns:List Int),vs=[.ref a]∧SqL K H a (ns.map V.int)∧ns.length≤63∧∀ v pt H',Yc H H'→Wk K H' v pt→Q v H'
theorem Qs {k:Nat}  (R:g.Raw "_law_part" "_law_part" Z0c ["_law_script"]) (Z7:g.Fn k "_law_cell_at" ["_law_script","_law_k"] (Z9 g.K)):g.Fn (k+1) "_law_part" ["_law_script"] (Z0F g.K):=by
 refine R.fn Zx (fun vs H Q E h=>by obtain ⟨a,ns,rfl,hS,hl,q⟩:=h;rfl) fun f_ cdv A outer s H vs Q E hr h=>?_
 obtain ⟨a,ns,rfl,hS,hl,q⟩:=h
 refine ⟨_,(@Yf _ _ _ _ _ (@Yt _ _ (1) _ _ _ _ Zx.nd rfl (.inl rfl) (@YA _ _ _ _ _ _ _ _ _ _ _ _ Z7 hr (@Ya _ _ _ _ _ (pv 0) (@Ya _ _ _ _ _ Ye Yb (by rfl)) (by rfl)) (by omega) (by rfl) (by rfl) (by decide) (by rfl) (by rfl)) (by rfl) (by first | exact .inl rfl | exact .inr rfl | assumption)) (@Yf _ _ _ _ _ (@Yt _ _ (2) _ _ _ _ Zx.nd rfl (.inl rfl) (@Yw _ _ _ _ _ _ _ _ Wo (@Yw _ _ _ _ _ _ _ _ Xh (@Yw _ _ _ _ _ _ _ _ Xi (pv 1) Ye) (@Yw _ _ _ _ _ _ _ _ Yav Ye Ye)) (@Yw _ _ _ _ _ _ _ _ VE Ye (@Yw _ _ _ _ _ _ _ _ Yav Ye Ye))) (by rfl) (by first | exact .inl rfl | exact .inr rfl | assumption)) (@Yf _ _ _ _ _ (@Yt _ _ (3) _ _ _ _ Zx.nd rfl (.inl rfl) (@Yk _ _ _ _ _ _ _ YO (@YF _ _ _ _ (@Ya _ _ _ _ _ YE (@Ya _ _ _ _ _ YE (@Ya _ _ _ _ _ YE (@Ya _ _ _ _ _ YE Yb (by rfl)) (by rfl)) (by rfl)) (by rfl))) (@Yw _ _ _ _ _ _ _ _ Xh (@Yw _ _ _ _ _ _ _ _ Xi (pv 1) Ye) Ye) (fun _ _=>rfl)) (by rfl) (by first | exact .inl rfl | exact .inr rfl | assumption)) (@Yg _ _ _ (@Yh _ _ _ _ (@Yk _ _ _ _ _ _ _ YO (@YF _ _ _ _ (@Ya _ _ _ _ _ (@Y2 _ _ _ _ _ (@Ya _ _ _ _ _ YE (@Ya _ _ _ _ _ (pv 2) (@Ya _ _ _ _ _ (@Yw _ _ _ _ _ _ _ _ XV (pv 2) Ye) Yb (by rfl)) (by rfl)) (by rfl))) (@Ya _ _ _ _ _ (@Y2 _ _ _ _ _ (@Ya _ _ _ _ _ YE (@Ya _ _ _ _ _ (pv 3) Yb (by rfl)) (by rfl))) Yb (WB _ _ _ _ _)) (WB _ _ _ _ _))) (@Yw _ _ _ _ _ _ _ _ Xh (pv 1) Ye) (fun _ _=>rfl))))))),?_⟩
 walk_at "rd"
 have cd:Q9 (ns.getD 1 0) 2:=⟨by decide,by decide⟩
 refine ⟨a,ns,1,rfl,hS,hl,_,rfl,cd,?_⟩
 generalize ns.getD 1 0=c at cd
 obtain ⟨t,ht,j,hj,rfl⟩:∃ t,atI [V.str (Str.ofString "abc"),V.str (Str.ofString "bca"),V.str (Str.ofString "cba"),V.str (Str.ofString "acb")] (c / 2%4)=some t∧∃ j,j<4∧t = .str (S (sgs j)):=by
  have:c / 2%4=0∨c / 2%4=1∨c / 2%4=2∨c / 2%4=3:=by omega
  rcases this with h | h | h | h<;>rw [h]
  ·exact ⟨_,rfl,0,by decide,rfl⟩
  ·exact ⟨_,rfl,1,by decide,rfl⟩
  ·exact ⟨_,rfl,2,by decide,rfl⟩
  ·exact ⟨_,rfl,3,by decide,rfl⟩
 refine ⟨cpow,by decide,cpow,.inl (cm (m:=3) (n:=64) (by decide) (by decide)),few (by decide),fun p hp=>⟨c,rfl,cd,by decide,_,SqL.of Yd,_,ht,few (by decide),fun p1 hp1=>⟨few (by decide),fun p2 hp2=>⟨few (by decide),fun p3 hp3=>⟨c,rfl,by decide,_,SqL.of Yd,?_⟩⟩⟩⟩⟩
 have sA:=(((Yc.upd_new hp (.lst [V.str (Str.ofString "abc"),V.str (Str.ofString "bca"),V.str (Str.ofString "cba"),V.str (Str.ofString "acb")])).trans (.upd_new hp1 _)).trans (.upd_new hp2 _)).trans (.upd_new hp3 (.lst [.ref p1,.ref p2]))
 have:c%2=0∨c%2=1:=by omega
 rcases this with h | h<;>rw [h]
 ·refine ⟨_,rfl,q _ (.who _) _ sA ⟨p1,rfl,SqT.of ((Yc.upd_new hp3 _) _ _ ((Yc.upd_new hp2 _) _ _ Yd))⟩⟩
 ·refine ⟨_,rfl,q _ (.txt j) _ sA ⟨p2,rfl,SqT.of ((Yc.upd_new hp3 _) _ _ Yd),hj⟩⟩
def wid:Pt→Int→Int
 | .who _,s=>if s≤1 then 1 else if s=2 then 2 else 4
 | .txt _,s=>if s=0 then 1 else if s=1 then 3 else if s=2 then 9 else 27
def Y1 (pt:Pt) (p:Int×Int):Prop:=0≤p.1∧p.1≤3∧0≤p.2∧p.2<wid pt p.1
def Z0G (K:PySem.W.Frag):Sp:=fun vs H Q _=>∃ (v:V) (pt:Pt) (s c:Int),vs=[v,.int s,.int c]∧Wk K H v pt∧0≤s∧s≤3∧∀ t p H',Yc H H'→H t=none→H' t=some (.tup [.int p.1,.int p.2])→Y1 pt p→Q (.ref t) H'
theorem Qt  (R:g.Raw "_law_spot" "_law_spot" Z0d ["_law_part_here","_law_size","_law_cell"]):g.Fn (1) "_law_spot" ["_law_part_here","_law_size","_law_cell"] (Z0G g.K):=by
 refine R.fn Qk (fun vs H Q E h=>by obtain ⟨v,pt,s,c,rfl,hpt,hs0,hs3,q⟩:=h;rfl) fun f_ cdv A outer s H vs Q E hr h=>?_
 obtain ⟨v,pt,s,c,rfl,hpt,hs0,hs3,q⟩:=h
 refine ⟨_,(@Yf _ _ _ _ _ (@YD _ _ _ _ _ _ _ _ (@Yo _ _ _ _ _ _ _ _ YG (@Yk _ _ _ _ _ _ _ Yr (pv 0) Ye (fun _ _=>rfl)) YE (Yj _)) (@Yg _ _ _ (@Yh _ _ _ _ (@Y2 _ _ _ _ _ (@Ya _ _ _ _ _ (pv 1) (@Ya _ _ _ _ _ (@Yw _ _ _ _ _ _ _ _ Xh (pv 2) (@Yk _ _ _ _ _ _ _ YO (@YF _ _ _ _ (@Ya _ _ _ _ _ Ye (@Ya _ _ _ _ _ Ye (@Ya _ _ _ _ _ Ye (@Ya _ _ _ _ _ Ye Yb (by rfl)) (by rfl)) (by rfl)) (by rfl))) (pv 1) (fun _ _=>rfl))) Yb (by rfl)) (by rfl))))) Yq) (@Yg _ _ _ (@Yh _ _ _ _ (@Y2 _ _ _ _ _ (@Ya _ _ _ _ _ (pv 1) (@Ya _ _ _ _ _ (@Yw _ _ _ _ _ _ _ _ Xh (pv 2) (@Yk _ _ _ _ _ _ _ YO (@YF _ _ _ _ (@Ya _ _ _ _ _ Ye (@Ya _ _ _ _ _ Ye (@Ya _ _ _ _ _ Ye (@Ya _ _ _ _ _ Ye Yb (by rfl)) (by rfl)) (by rfl)) (by rfl))) (pv 1) (fun _ _=>rfl))) Yb (by rfl)) (by rfl)))))),?_⟩
 have hs:s=0∨s=1∨s=2∨s=3:=by omega
 cases pt with
 | who lo =>
  obtain ⟨a,rfl,ha⟩:=hpt
  walk_at "rd"
  refine ⟨_,ha,_,X4 _ _ _,rfl,?_⟩
  have hw:atI [V.int 1,V.int 1,V.int 2,V.int 4] s=some (.int (wid (.who lo) s)):=by rcases hs with rfl | rfl | rfl | rfl<;>rfl
  have hw0:0<wid (.who lo) s:=by rcases hs with rfl | rfl | rfl | rfl<;>simp [wid]
  refine XE rfl ⟨few (by decide),fun p hp=>⟨_,SqL.of Yd,_,hw,_,rfl,hw0,few (by decide),fun p1 hp1=>?_⟩⟩
  exact q p1 (s,c%wid (.who lo) s) _ ((Yc.upd_new hp _).trans (.upd_new hp1 _)) ((Yc.upd_new hp _).free hp1) Yd ⟨hs0,hs3,Int.emod_nonneg _ (by omega),Int.emod_lt_of_pos _ hw0⟩
 | txt j =>
  obtain ⟨a,rfl,ha,hj⟩:=hpt
  walk_at "rd"
  refine ⟨_,ha,_,YQ _ _,rfl,?_⟩
  have hw:atI [V.int 1,V.int 3,V.int 9,V.int 27] s=some (.int (wid (.txt j) s)):=by rcases hs with rfl | rfl | rfl | rfl<;>rfl
  have hw0:0<wid (.txt j) s:=by rcases hs with rfl | rfl | rfl | rfl<;>simp [wid]
  refine Ym (by decide) ⟨few (by decide),fun p hp=>⟨_,SqL.of Yd,_,hw,_,rfl,hw0,few (by decide),fun p1 hp1=>?_⟩⟩
  exact q p1 (s,c%wid (.txt j) s) _ ((Yc.upd_new hp _).trans (.upd_new hp1 _)) ((Yc.upd_new hp _).free hp1) Yd ⟨hs0,hs3,Int.emod_nonneg _ (by omega),Int.emod_lt_of_pos _ hw0⟩
def fd:Nat→Nat→List Nat
 | 0,_=>[]
 | k+1,p=>p / 3^k%3::fd k p
def off (s:Int):Int:=if s≤1 then s else if s=2 then 2 else 4
def tx (j s p:Nat):List Nat:=(fd s p).map fun d=>(sgs j).getD d 0
def YJ:Pt→Int×Int→PyData
 | .who lo,p => .int (lo+off p.1+p.2)
 | .txt j,p => .str (S (tx j p.1.toNat p.2.toNat))
theorem Yc2 {l:List Nat} (h:∀ c∈l,c<1000):PyData.strOk (S l)=true:=by
 simp only [PyData.strOk,S,Array.all_eq_true',decide_eq_true_eq]
 intro c hc
 have:=h c (by simpa using hc)
 omega
theorem Uv:∀ (k p:Nat),∀ d∈fd k p,d<3
 | 0,_,d,h=>by cases h
 | k+1,p,d,h=>by
  rcases List.mem_cons.mp h with rfl | h
  ·exact Nat.mod_lt _ (by decide)
  ·exact Uv k p d h
theorem Vv:∀ (k p:Nat),(fd k p).length=k
 | 0,_=>rfl
 | k+1,p=>congrArg (·+1) (Vv k p)
theorem Yc3 {j d:Nat} (hj:j<4) (hd:d<3):(sgs j).getD d 0<1000:=by
 have h1:j=0∨j=1∨j=2∨j=3:=by omega
 have h2:d=0∨d=1∨d=2:=by omega
 rcases h1 with rfl | rfl | rfl | rfl<;>rcases h2 with rfl | rfl | rfl<;>decide
def Z0u (K:PySem.W.Frag):Sp:=fun vs H Q _=>∃ (v:V) (pt:Pt) (a:Addr) (p:Int×Int),vs=[v,.ref a]∧Wk K H v pt∧SqT K H a [.int p.1,.int p.2]∧Y1 pt p∧∀ x H',Yc H H'→Vd H' x (YJ pt p)→Q x H'
theorem U8  (R:g.Raw "_law_thing" "_law_thing" ZU ["_law_part_here","_law_spot_here"]) (Z6:g.mg "range"=none):g.Fn (1) "_law_thing" ["_law_part_here","_law_spot_here"] (Z0u g.K):=by
 refine R.fn Z3 (fun vs H Q E h=>by obtain ⟨v,pt,a,p,rfl,hpt,hat,⟨hs0,hs3,hp0,hp3⟩,q⟩:=h;rfl) fun f_ cdv A outer s H vs Q E hr h=>?_
 obtain ⟨v,pt,a,p,rfl,hpt,hat,⟨hs0,hs3,hp0,hp3⟩,q⟩:=h
 refine ⟨_,(@Yf _ _ _ _ _ (@Yar _ _ _ _ _ _ (pv 1) (@Xz _ _ _ _ _ (2) rfl (@YK _ _ _ _ _ (@Yp _ _ (2) _ Z3.nd rfl (.inl rfl) (by first | exact .inl rfl | exact .inr rfl | assumption)) (@YK _ _ _ _ _ (@Yp _ _ (3) _ Z3.nd rfl (.inl rfl) (by first | exact .inl rfl | exact .inr rfl | assumption)) Xm (by rfl)) (by rfl)) (by rfl) (by rfl)) (by rfl) (by rfl) (by rfl)) (@Yf _ _ _ _ _ (@YD _ _ _ _ _ _ _ _ (@Yo _ _ _ _ _ _ _ _ YG (@Yk _ _ _ _ _ _ _ Yr (pv 0) Ye (fun _ _=>rfl)) YE (Yj _)) (@Yg _ _ _ (@Yh _ _ _ _ (@Yw _ _ _ _ _ _ _ _ XV (@Yw _ _ _ _ _ _ _ _ XV (@Yk _ _ _ _ _ _ _ Yr (pv 0) Ye (fun _ _=>rfl)) (@Yk _ _ _ _ _ _ _ YO (@YF _ _ _ _ (@Ya _ _ _ _ _ Ye (@Ya _ _ _ _ _ Ye (@Ya _ _ _ _ _ Ye (@Ya _ _ _ _ _ Ye Yb (by rfl)) (by rfl)) (by rfl)) (by rfl))) (pv 2) (fun _ _=>rfl))) (pv 3)))) Yq) (@Yf _ _ _ _ _ (@Yt _ _ (4) _ _ _ _ Z3.nd rfl (.inl rfl) YE (by rfl) (by first | exact .inl rfl | exact .inr rfl | assumption)) (@Yf _ _ _ _ _ (@Xg _ _ _ _ _ _ _ _ PassesOwn.never rfl (@WJ _ _ _ _ _ _ rfl Z6 (@Ya _ _ _ _ _ (pv 2) Yb (by rfl)) (by rfl)) (@Yp _ _ (5) _ Z3.nd rfl (.inl rfl) (by first | exact .inl rfl | exact .inr rfl | assumption)) (@Yf _ _ _ _ _ (@Yt _ _ (4) _ _ _ _ Z3.nd rfl (.inl rfl) (@Yw _ _ _ _ _ _ _ _ Q1 (@Yk _ _ _ _ _ _ _ YcK (@Yk _ _ _ _ _ _ _ Yr (pv 0) Ye (fun _ _=>rfl)) (@Yw _ _ _ _ _ _ _ _ Xh (pv 3) Ye) (fun _ _=>rfl)) (pv 4)) (by rfl) (by first | exact .inl rfl | exact .inr rfl | assumption)) (@Yg _ _ _ (@Yt _ _ (3) _ _ _ _ Z3.nd rfl (.inl rfl) (@Yw _ _ _ _ _ _ _ _ Xi (pv 3) Ye) (by rfl) (by first | exact .inl rfl | exact .inr rfl | assumption)))) (by intro _;rfl)) (@Yg _ _ _ (@Yh _ _ _ _ (pv 4))))))),?_⟩
 cases pt with
 | who lo =>
  have hs:p.1=0∨p.1=1∨p.1=2∨p.1=3:=by omega
  obtain ⟨b,rfl,hb⟩:=hpt
  walk_at "rd"
  refine ⟨_,hat,rfl,_,_,rfl,_,_,rfl,rfl,_,hb,_,X4 _ _ _,rfl,?_⟩
  have hw:atI [V.int 0,V.int 1,V.int 2,V.int 4] p.1=some (.int (off p.1)):=by rcases hs with h | h | h | h<;>rw [h]<;>rfl
  exact XE rfl ⟨_,hb,_,Ut _ _ _,few (by decide),fun p1 hp1=>⟨_,p.1,rfl,SqL.of Yd,_,hw,lo,rfl,_,rfl,_,rfl,q _ _ (.upd_new hp1 _) (.int _)⟩⟩
 | txt j =>
  obtain ⟨b,rfl,hb,hj⟩:=hpt
  obtain ⟨s,pp⟩:=p
  obtain ⟨s,rfl⟩:∃ n:Nat,s=n:=⟨s.toNat,by dsimp only at hs0;omega⟩
  obtain ⟨pp,rfl⟩:∃ n:Nat,pp=n:=⟨pp.toNat,by dsimp only at hp0;omega⟩
  dsimp only at hs3 hp3 hat
  walk_at "rd"
  refine ⟨_,hat,rfl,_,_,rfl,_,_,rfl,rfl,_,hb,_,YQ _ _,rfl,Ym (by decide) ?_⟩
  have h6:10000<sizeLine:=by decide
  have hsl:(sgs j).length=3:=by
   have:j=0∨j=1∨j=2∨j=3:=by omega
   rcases this with rfl | rfl | rfl | rfl<;>rfl
  refine Wj (n:=s) (fun i σ H'=>H'=H∧∃ o5,σ=[some (.ref b),some (.ref a),some (.int (s:Int)),some (.int ((pp / 3^i:Nat):Int)),some (.str (S (tx j i pp))),o5]) (fun R r=>by walk_at "rd";exact r) (by omega) ⟨rfl,none,by simp [tx,fd];rfl⟩ ?_ ?_
  ·rintro i σ H' hi ⟨rfl,o5,rfl⟩
   have hd:pp / 3^i%3<3:=Nat.mod_lt _ (by decide)
   have hat3:atI (S (sgs j)).cps.toList (((pp / 3^i:Nat):Int)%3)=some ((sgs j).getD (pp / 3^i%3) 0):=by
    rw [XD,show (((pp / 3^i:Nat):Int)%3)=((pp / 3^i%3:Nat):Int) from by omega]
    refine X5 ?_
    rw [List.getD_eq_getElem?_getD,List.getElem?_eq_getElem (by omega)]
    rfl
   have hln:(tx j i pp).length=i:=by rw [tx,List.length_map,Vv]
   walk_at "rd"
   refine ⟨_,hb,_,YX _ _,by decide,_,_,_,rfl,rfl,by rw [Uq];omega,hat3,_,rfl,?_,⟨by decide,by decide⟩,rfl,?_,?_⟩
   ·rw [Uq,hln]
    show 1+i≤sizeLine
    omega
   ·rw [Nat.pow_succ,← Nat.div_div_eq_div_mul]
    omega
   ·show S [(sgs j).getD (pp / 3^i%3) 0]++S (tx j i pp)=_
    rw [S_app]
    rfl
  ·rintro σ H' ⟨rfl,o5,rfl⟩
   walk_at "rd"
   refine q _ _ (.refl _) (.str _ ?_ ?_)
   ·refine Yc2 fun c hc=>?_
    obtain ⟨d,hd,rfl⟩:=List.mem_map.mp hc
    exact Yc3 hj (Uv _ _ d hd)
   ·show (tx j s pp).length≤1000
    rw [tx,List.length_map,Vv]
    omega
def Wl (H:Hp) (ys:List V) (ps:List (Int×Int)):Prop:=ys.length=ps.length∧∀ (i:Nat) y p,ys[i]?=some y→ps[i]?=some p→∃ a,y = .ref a∧H a=some (.tup [.int p.1,.int p.2])
theorem Wl.keep {H H':Hp} (t:Tps H H') {ys:List V} {ps:List (Int×Int)} (h:Wl H ys ps):Wl H' ys ps:=⟨h.1,fun i y p h1 h2=>by obtain ⟨a,e,ha⟩:=h.2 i y p h1 h2;exact ⟨a,e,t _ _ ha⟩⟩
theorem Wl.at' {K:PySem.W.Frag} {H:Hp} {ys:List V} {ps:List (Int×Int)} (h:Wl H ys ps):YC K H ys ps:=⟨h.1,fun i y p h1 h2=>by obtain ⟨a,e,ha⟩:=h.2 i y p h1 h2;exact ⟨a,e,SqT.of ha⟩⟩
theorem Wl.snoc {H:Hp} {ys:List V} {ps:List (Int×Int)} (h:Wl H ys ps) {a:Addr} {p:Int×Int} (ha:H a=some (.tup [.int p.1,.int p.2])):Wl H (ys++[.ref a]) (ps++[p]):=by
 refine ⟨by simp [h.1],fun i y q h1 h2=>?_⟩
 rcases Nat.lt_or_ge i ys.length with c | c
 ·rw [List.getElem?_append_left c] at h1
  rw [List.getElem?_append_left (by rw [← h.1];exact c)] at h2
  exact h.2 i y q h1 h2
 ·have hl:=(List.getElem?_eq_some_iff.mp h1).1
  simp only [List.length_append,List.length_singleton] at hl
  have:i=ys.length:=by omega
  subst this
  rw [List.getElem?_append_right (Nat.le_refl _),Nat.sub_self] at h1
  rw [h.1,List.getElem?_append_right (Nat.le_refl _),Nat.sub_self] at h2
  have e1:V.ref a=y:=Option.some.inj h1
  have e2:p=q:=Option.some.inj h2
  subst e1 e2
  exact ⟨a,rfl,ha⟩
theorem YC.keep {K:PySem.W.Frag} {H H':Hp} (s:Yc H H') {ys:List V} {ps:List (Int×Int)} (h:YC K H ys ps):YC K H' ys ps:=⟨h.1,fun i y p h1 h2=>by obtain ⟨a,e,ha⟩:=h.2 i y p h1 h2;exact ⟨a,e,s.tup ha⟩⟩
theorem Wk.keep {K:PySem.W.Frag} {H H':Hp} (s:Yc H H') {v:V} {pt:Pt} (h:Wk K H v pt):Wk K H' v pt:=by
 cases pt with
 | who lo=>obtain ⟨a,e,h⟩:=h;exact ⟨a,e,s.tup h⟩
 | txt j=>obtain ⟨a,e,h,hj⟩:=h;exact ⟨a,e,s.tup h,hj⟩
def SpL (pt:Pt) (ps:List (Int×Int)):Prop:=ps.length≤63∧ps.Pairwise pLe∧∀ p∈ps,Y1 pt p
def Tw (pt:Pt) (H0 H:Hp) (p1 p2:Addr) (xs ys:List V):Prop:=Yc H0 H∧p1≠p2∧H p1=some (.lst xs)∧H p2=some (.lst ys)∧(∃ ps,Wl H xs ps∧∀ p∈ps,Y1 pt p)∧∃ qs,Wl H ys qs∧∀ p∈qs,Y1 pt p
theorem Tw.keep {pt:Pt} {H0 H H':Hp} {p1 p2:Addr} {xs ys:List V} (s:Yc H H') (h:Tw pt H0 H p1 p2 xs ys):Tw pt H0 H' p1 p2 xs ys:=by
 obtain ⟨sm,hne,hx,hy,⟨ps,h1,h2⟩,qs,h3,h4⟩:=h
 exact ⟨sm.trans s,hne,s _ _ hx,s _ _ hy,⟨ps,h1.keep (YL s),h2⟩,qs,h3.keep (YL s),h4⟩
theorem Tw.one {pt:Pt} {H0 H:Hp} {p1 p2:Addr} {xs ys:List V} (h:Tw pt H0 H p1 p2 xs ys) (h0:H0 p1=none) {t:Addr} {p:Int×Int} (ht:H t=some (.tup [.int p.1,.int p.2])) (hp:Y1 pt p):Tw pt H0 (upd H p1 (.lst (xs++[.ref t]))) p1 p2 (xs++[.ref t]) ys:=by
 obtain ⟨sm,hne,hx,hy,⟨ps,h1,h2⟩,qs,h3,h4⟩:=h
 have tp:Tps H (upd H p1 (.lst (xs++[.ref t]))) := .upd_lst hx
 refine ⟨.upd_over h0 sm _,hne,Yd,by rw [Yl hne.symm];exact hy,⟨ps++[p],(h1.keep tp).snoc (tp _ _ ht),fun q hq=>?_⟩,qs,h3.keep tp,h4⟩
 rcases List.mem_append.mp hq with hq | hq
 ·exact h2 q hq
 ·rw [List.mem_singleton.mp hq];exact hp
theorem Tw.two {pt:Pt} {H0 H:Hp} {p1 p2:Addr} {xs ys:List V} (h:Tw pt H0 H p1 p2 xs ys) (h0:H0 p2=none) {t:Addr} {p:Int×Int} (ht:H t=some (.tup [.int p.1,.int p.2])) (hp:Y1 pt p):Tw pt H0 (upd H p2 (.lst (ys++[.ref t]))) p1 p2 xs (ys++[.ref t]):=by
 obtain ⟨sm,hne,hx,hy,⟨ps,h1,h2⟩,qs,h3,h4⟩:=h
 have tp:Tps H (upd H p2 (.lst (ys++[.ref t]))) := .upd_lst hy
 refine ⟨.upd_over h0 sm _,hne,by rw [Yl hne];exact hx,Yd,⟨ps,h1.keep tp,h2⟩,qs++[p],(h3.keep tp).snoc (tp _ _ ht),fun q hq=>?_⟩
 rcases List.mem_append.mp hq with hq | hq
 ·exact h4 q hq
 ·rw [List.mem_singleton.mp hq];exact hp
def Two (pt:Pt) (H0 H:Hp) (p1 p2:Addr) (n:Nat):Prop:=∃ xs ys,Tw pt H0 H p1 p2 xs ys∧xs.length≤n∧ys.length≤n
theorem Two.keep {pt:Pt} {H0 H H':Hp} {p1 p2:Addr} {n:Nat} (s:Yc H H') (h:Two pt H0 H p1 p2 n):Two pt H0 H' p1 p2 n:=by
 obtain ⟨xs,ys,h,l⟩:=h
 exact ⟨xs,ys,h.keep s,l⟩
theorem Two.mono {pt:Pt} {H0 H:Hp} {p1 p2:Addr} {n m:Nat} (l:n≤m) (h:Two pt H0 H p1 p2 n):Two pt H0 H p1 p2 m:=by
 obtain ⟨xs,ys,h,l1,l2⟩:=h
 exact ⟨xs,ys,h,by omega,by omega⟩
def Z0v (K:PySem.W.Frag):Sp:=fun vs H Q _=>∃ (v:V) (pt:Pt) (a:Addr) (ns:List Int),vs=[v,.ref a]∧Wk K H v pt∧SqL K H a (ns.map V.int)∧ns.length≤63∧∀ t la lb xs ys ps qs H',Yc H H'→H' t=some (.tup [.ref la,.ref lb])→H' la=some (.lst xs)→H' lb=some (.lst ys)→YC K H' xs ps→YC K H' ys qs→SpL pt ps→SpL pt qs→Q (.ref t) H'
theorem U9 {k:Nat}  (R:g.Raw "_law_spots" "_law_spots" ZV ["_law_part_here","_law_script"]) (Z7:g.Fn k "_law_cell_at" ["_law_script","_law_k"] (Z9 g.K)) (Z0g:g.Fn k "_law_spot" ["_law_part_here","_law_size","_law_cell"] (Z0G g.K)) (b_len:g.mg "len"=none) (Z6:g.mg "range"=none) (Zs:g.mg "sorted"=none):g.Fn (k+1) "_law_spots" ["_law_part_here","_law_script"] (Z0v g.K):=by
 refine R.fn Z2 (fun vs H Q E h=>by obtain ⟨v,pt,a,ns,rfl,hpt,hS,hl,q⟩:=h;rfl) fun f_ cdv A outer s H vs Q E hr h=>?_
 obtain ⟨v,pt,a,ns,rfl,hpt,hS,hl,q⟩:=h
 refine ⟨_,(@Yf _ _ _ _ _ (@Yt _ _ (2) _ _ _ _ Z2.nd rfl (.inl rfl) (@YF _ _ _ _ Yb) (by rfl) (by first | exact .inl rfl | exact .inr rfl | assumption)) (@Yf _ _ _ _ _ (@Yt _ _ (3) _ _ _ _ Z2.nd rfl (.inl rfl) (@YF _ _ _ _ Yb) (by rfl) (by first | exact .inl rfl | exact .inr rfl | assumption)) (@Yf _ _ _ _ _ (@Xg _ _ _ _ _ _ _ _ PassesOwn.never rfl (@YT _ _ _ _ (@Wz _ _ _ _ _ _ _ _ _ _ WW (pv 1) (@Wp _ _ _ Ye) (@Wp _ _ _ Ye))) (@Yp _ _ (4) _ Z2.nd rfl (.inl rfl) (by first | exact .inl rfl | exact .inr rfl | assumption)) (@Yf _ _ _ _ _ (@Yt _ _ (5) _ _ _ _ Z2.nd rfl (.inl rfl) (@YA _ _ _ _ _ _ _ _ _ _ _ _ Z0g hr (@Ya _ _ _ _ _ (pv 0) (@Ya _ _ _ _ _ (@Yw _ _ _ _ _ _ _ _ Xh (pv 4) Ye) (@Ya _ _ _ _ _ (@Yw _ _ _ _ _ _ _ _ Xi (pv 4) Ye) Yb (by rfl)) (by rfl)) (by rfl)) (by omega) (by rfl) (by rfl) (by decide) (by rfl) (by rfl)) (by rfl) (by first | exact .inl rfl | exact .inr rfl | assumption)) (@Yf _ _ _ _ _ (@Xb _ _ _ _ (@XB _ _ _ _ _ _ _ _ _ _ _ _ PySem.F.plainAttrs_list PySem.F.slot_list_append PySem.F.type_list_append YY (pv 2) (@Ya _ _ _ _ _ (pv 5) Yb (by rfl)) (by rfl) (by rfl) (by rfl) (by rfl) (by rfl)) (by rfl)) (@Yf _ _ _ _ _ (@YD _ _ _ _ _ _ _ _ (@Yo _ _ _ _ _ _ _ _ YG (@Yw _ _ _ _ _ _ _ _ Xh (@Yw _ _ _ _ _ _ _ _ Xi (pv 4) Ye) Ye) Ye (Yj _)) (@Yg _ _ _ (@Yt _ _ (5) _ _ _ _ Z2.nd rfl (.inl rfl) (@YA _ _ _ _ _ _ _ _ _ _ _ _ Z0g hr (@Ya _ _ _ _ _ (pv 0) (@Ya _ _ _ _ _ (@Yw _ _ _ _ _ _ _ _ Xh (pv 4) Ye) (@Ya _ _ _ _ _ (@Yw _ _ _ _ _ _ _ _ Xi (pv 4) Ye) Yb (by rfl)) (by rfl)) (by rfl)) (by omega) (by rfl) (by rfl) (by decide) (by rfl) (by rfl)) (by rfl) (by first | exact .inl rfl | exact .inr rfl | assumption))) Yq) (@Yg _ _ _ (@Xb _ _ _ _ (@XB _ _ _ _ _ _ _ _ _ _ _ _ PySem.F.plainAttrs_list PySem.F.slot_list_append PySem.F.type_list_append YY (pv 3) (@Ya _ _ _ _ _ (pv 5) Yb (by rfl)) (by rfl) (by rfl) (by rfl) (by rfl) (by rfl)) (by rfl)))))) (by intro _;rfl)) (@Yf _ _ _ _ _ (@Yt _ _ (4) _ _ _ _ Z2.nd rfl (.inl rfl) (@YA _ _ _ _ _ _ _ _ _ _ _ _ Z7 hr (@Ya _ _ _ _ _ (pv 1) (@Ya _ _ _ _ _ Ye Yb (by rfl)) (by rfl)) (by omega) (by rfl) (by rfl) (by decide) (by rfl) (by rfl)) (by rfl) (by first | exact .inl rfl | exact .inr rfl | assumption)) (@Yf _ _ _ _ _ (@Yt _ _ (6) _ _ _ _ Z2.nd rfl (.inl rfl) (@Yk _ _ _ _ _ _ _ YO (@YF _ _ _ _ (@Ya _ _ _ _ _ (@YF _ _ _ _ Yb) (@Ya _ _ _ _ _ (@YF _ _ _ _ (@Ya _ _ _ _ _ Ye (@Ya _ _ _ _ _ Ye (@Ya _ _ _ _ _ Ye (@Ya _ _ _ _ _ Ye Yb (by rfl)) (by rfl)) (by rfl)) (by rfl))) (@Ya _ _ _ _ _ (@YF _ _ _ _ (@Ya _ _ _ _ _ Ye (@Ya _ _ _ _ _ Ye (@Ya _ _ _ _ _ Ye (@Ya _ _ _ _ _ Ye Yb (by rfl)) (by rfl)) (by rfl)) (by rfl))) (@Ya _ _ _ _ _ (@YF _ _ _ _ (@Ya _ _ _ _ _ Ye (@Ya _ _ _ _ _ Ye (@Ya _ _ _ _ _ Ye Yb (by rfl)) (by rfl)) (by rfl))) Yb (Xu _ _ _ _)) (Xu _ _ _ _)) (Xu _ _ _ _)) (Xu _ _ _ _))) (@Yw _ _ _ _ _ _ _ _ Xh (pv 4) Ye) (fun _ _=>rfl)) (by rfl) (by first | exact .inl rfl | exact .inr rfl | assumption)) (@Yf _ _ _ _ _ (@Xg _ _ _ _ _ _ _ _ PassesOwn.never rfl (@WJ _ _ _ _ _ _ rfl Z6 (@Ya _ _ _ _ _ (@YB _ _ _ _ _ _ _ _ _ _ b_len Yu (@Ya _ _ _ _ _ (pv 6) Yb (by rfl)) (by decide +kernel) (by rfl) (by rfl) (by decide) (by decide) (by rfl) (by rfl)) Yb (by rfl)) (by rfl)) (@Yp _ _ (7) _ Z2.nd rfl (.inl rfl) (by first | exact .inl rfl | exact .inr rfl | assumption)) (@Yf _ _ _ _ _ (@Yt _ _ (5) _ _ _ _ Z2.nd rfl (.inl rfl) (@YA _ _ _ _ _ _ _ _ _ _ _ _ Z0g hr (@Ya _ _ _ _ _ (pv 0) (@Ya _ _ _ _ _ (@Yk _ _ _ _ _ _ _ YO (pv 6) (pv 7) (fun _ _=>rfl)) (@Ya _ _ _ _ _ (@Yw _ _ _ _ _ _ _ _ Xi (@Yw _ _ _ _ _ _ _ _ Xi (pv 4) Ye) (@Yw _ _ _ _ _ _ _ _ XV (@Yw _ _ _ _ _ _ _ _ VE Ye (pv 7)) Ye)) Yb (by rfl)) (by rfl)) (by rfl)) (by omega) (by rfl) (by rfl) (by decide) (by rfl) (by rfl)) (by rfl) (by first | exact .inl rfl | exact .inr rfl | assumption)) (@Yg _ _ _ (@YD _ _ _ _ _ _ _ _ (@Vf _ _ _ _ _ _ _ (@Yao _ _ _ _ _ _ _ (@Yo _ _ _ _ _ _ _ _ Vh (@Yw _ _ _ _ _ _ _ _ VE Ye (pv 7)) (@YB _ _ _ _ _ _ _ _ _ _ b_len Yu (@Ya _ _ _ _ _ (pv 6) Yb (by rfl)) (by decide +kernel) (by rfl) (by rfl) (by decide) (by decide) (by rfl) (by rfl)) (Yj _)) (@Qw _ _ _ _ (@Yo _ _ _ _ _ _ _ _ YG (@YB _ _ _ _ _ _ _ _ _ _ b_len Yu (@Ya _ _ _ _ _ (pv 6) Yb (by rfl)) (by decide +kernel) (by rfl) (by rfl) (by decide) (by decide) (by rfl) (by rfl)) Ye (Yj _)))).pt (@WI _ _ _ _ (@Yao _ _ _ _ _ _ _ (@Yo _ _ _ _ _ _ _ _ YG (@YB _ _ _ _ _ _ _ _ _ _ b_len Yu (@Ya _ _ _ _ _ (pv 6) Yb (by rfl)) (by decide +kernel) (by rfl) (by rfl) (by decide) (by decide) (by rfl) (by rfl)) Ye (Yj _)) (@Qw _ _ _ _ (@Yo _ _ _ _ _ _ _ _ YG (pv 7) Ye (Yj _)))).pt)).pt (@Yg _ _ _ (@Xb _ _ _ _ (@XB _ _ _ _ _ _ _ _ _ _ _ _ PySem.F.plainAttrs_list PySem.F.slot_list_append PySem.F.type_list_append YY (pv 2) (@Ya _ _ _ _ _ (pv 5) Yb (by rfl)) (by rfl) (by rfl) (by rfl) (by rfl) (by rfl)) (by rfl))) (@Yg _ _ _ (@Xb _ _ _ _ (@XB _ _ _ _ _ _ _ _ _ _ _ _ PySem.F.plainAttrs_list PySem.F.slot_list_append PySem.F.type_list_append YY (pv 3) (@Ya _ _ _ _ _ (pv 5) Yb (by rfl)) (by rfl) (by rfl) (by rfl) (by rfl) (by rfl)) (by rfl)))))) (by intro _;rfl)) (@Yg _ _ _ (@Yh _ _ _ _ (@Y2 _ _ _ _ _ (@Ya _ _ _ _ _ (@YB _ _ _ _ _ _ _ _ _ _ Zs (WQ (K:=g.K)) (@Ya _ _ _ _ _ (pv 2) Yb (by rfl)) (by decide +kernel) (by rfl) (by rfl) (by decide) (by decide) (by rfl) (by rfl)) (@Ya _ _ _ _ _ (@YB _ _ _ _ _ _ _ _ _ _ Zs (WQ (K:=g.K)) (@Ya _ _ _ _ _ (pv 3) Yb (by rfl)) (by decide +kernel) (by rfl) (by rfl) (by decide) (by decide) (by rfl) (by rfl)) Yb (by rfl)) (by rfl))))))))))),?_⟩
 refine cut3 (fun σ H'=>∃ p1 p2 o4 o5,H p1=none∧H p2=none∧Two pt H H' p1 p2 37∧σ=[some v,some (.ref a),some (.ref p1),some (.ref p2),o4,o5,none,none]) ?_ ?_
 ·rintro σ H' ⟨p1,p2,o4,o5,h1,h2,hT,rfl⟩
  have hsm:Yc H H':=by obtain ⟨_,_,h,_⟩:=hT;exact h.1
  refine cut2 (fun σ H2=>∃ (m:Addr) (ms:List Int) (c:Int),(∀ x∈ms,0≤x∧x≤3)∧ms.length≤4∧H2 m=some (.lst (ms.map V.int))∧m≠p1∧m≠p2∧Two pt H H2 p1 p2 37∧σ=[some v,some (.ref a),some (.ref p1),some (.ref p2),some (.int c),o5,some (.ref m),none]) ?_ ?_
  ·rintro σ H2 ⟨m,ms,c,hms,hml,hm,hm1,hm2,hT2,rfl⟩
   refine UJ (fun σ H3=>∃ o5 o7,Two pt H H3 p1 p2 41∧σ=[some v,some (.ref a),some (.ref p1),some (.ref p2),some (.int c),o5,some (.ref m),o7]) ?_ ?_
   ·rintro σ H3 ⟨o5,o7,⟨xs,ys,⟨sm3,hne,hx,hy,⟨ps,hpx,sx⟩,qs,hpy,sy⟩,lx,ly⟩,rfl⟩
    walk_at "rd"
    refine ⟨xs,SqL.of hx,by omega,ps,hpx.at',fun l1 xs' ps' g1 pm1 pw1 pr1=>⟨ys,SqL.of ((Yc.upd_new g1 _) _ _ hy),by omega,qs,YC.keep (Yc.upd_new g1 _) hpy.at',fun l2 ys' qs' g2 pm2 pw2 pr2=>⟨few (by decide),fun t g3=>?_⟩⟩⟩
    have u1:=Yc.upd_new g1 (.lst xs')
    have u2:=Yc.upd_new g2 (.lst ys')
    have u3:=Yc.upd_new g3 (.tup [.ref l1,.ref l2])
    refine q t l1 l2 xs' ys' ps' qs' _ (((sm3.trans u1).trans u2).trans u3) Yd (u3 _ _ (u2 _ _ Yd)) (u3 _ _ Yd) (YC.keep (K:=g.K) ((u1.trans u2).trans u3) pr1) (YC.keep (K:=g.K) (u2.trans u3) pr2) ⟨?_,pw1,fun p hp=>sx p (pm1.mem_iff.mp hp)⟩ ⟨?_,pw2,fun p hp=>sy p (pm2.mem_iff.mp hp)⟩
    ·rw [pm1.length_eq,← hpx.1];omega
    ·rw [pm2.length_eq,← hpy.1];omega
   ·intro N hN
    refine Wj (n:=ms.length) (fun i σ H3=>∃ o5 o7,Two pt H H3 p1 p2 (37+i)∧H3 m=some (.lst (ms.map V.int))∧σ=[some v,some (.ref a),some (.ref p1),some (.ref p2),some (.int c),o5,some (.ref m),o7]) (fun R r=>by walk_at "rd";exact ⟨_,.inl (SqL.of hm),by simpa using r⟩) (by omega) ⟨_,_,hT2,hm,rfl⟩ ?_ ?_
    ·rintro i σ H3 hi ⟨o5,o7,⟨xs,ys,hT3,lx,ly⟩,hm3,rfl⟩
     have h6:10000<sizeLine:=by decide
     have hmi:ms[i]?=some (ms[i]'hi):=List.getElem?_eq_getElem _
     have hmb:=hms _ (List.mem_of_getElem? hmi)
     generalize ms[i]'hi=mi at hmi hmb
     have c3:Yaa 3 (i:Int) := .inl (cm (m:=2) (n:=3) (by decide) (by omega))
     have c2:Yaa 2 (i:Int) := .inl (cm (m:=2) (n:=3) (by decide) (by omega))
     have cdi:Q9 (c / 4) (3*(i:Int)+1):=⟨by omega,Nat.lt_of_lt_of_le (show _<2^10 by omega) (Nat.pow_le_pow_right (by decide) (by decide))⟩
     walk_at "rd"
     refine ⟨_,SqL.of hm3,.int mi,X5 (by rw [List.getElem?_map,hmi];rfl),⟨by decide,by decide⟩,c3,cdi,v,pt,mi,_,rfl,hpt.keep hT3.1,hmb.1,hmb.2,fun t p H4 s4 ht0 ht hsp=>?_⟩
     have hT4:=hT3.keep s4
     have hm4:=s4 _ _ hm3
     have hA:tyV g.K "list" (V.ref p1) H4∧∃ x,H4 p1=some (HO.lst x)∧x.length<sizeLine∧Two pt H (upd H4 p1 (HO.lst (x++[.ref t]))) p1 p2 (37+(i+1))∧upd H4 p1 (HO.lst (x++[.ref t])) m=some (HO.lst (List.map V.int ms)) :=
      ⟨.inl ⟨rfl,_,SqL.of hT4.2.2.1⟩,xs,hT4.2.2.1,by omega,⟨_,_,hT4.one h1 ht hsp,by simp;omega,by omega⟩,by rw [Yl hm1];exact hm4⟩
     have hB:tyV g.K "list" (V.ref p2) H4∧∃ x,H4 p2=some (HO.lst x)∧x.length<sizeLine∧Two pt H (upd H4 p2 (HO.lst (x++[.ref t]))) p1 p2 (37+(i+1))∧upd H4 p2 (HO.lst (x++[.ref t])) m=some (HO.lst (List.map V.int ms)) :=
      ⟨.inl ⟨rfl,_,SqL.of hT4.2.2.2.1⟩,ys,hT4.2.2.2.1,by omega,⟨_,_,hT4.two h2 ht hsp,by omega,by simp;omega⟩,by rw [Yl hm2];exact hm4⟩
     exact ⟨c2,_,.inl (SqL.of hm4),Y7 (fun _=>⟨_,.inl (SqL.of hm4),Y7 (fun _=>hA) fun _=>⟨_,.inl (SqL.of hm4),Y7 (fun _=>Y7 (fun _=>hA) fun _=>hB) fun _=>hB⟩⟩) fun _=>⟨_,.inl (SqL.of hm4),Y7 (fun _=>Y7 (fun _=>hA) fun _=>hB) fun _=>hB⟩⟩
    ·rintro σ H3 ⟨o5,o7,hT3,hm3,rfl⟩
     exact hN _ _ ⟨o5,o7,hT3.mono (by omega),rfl⟩
  ·intro N hN
   walk_at "rd"
   refine ⟨a,ns,2,rfl,hsm.seq hS,hl,few (by decide),fun q1 g1=>⟨few (by decide),fun q2 g2=>⟨few (by decide),fun q3 g3=>⟨few (by decide),fun q4 g4=>⟨few (by decide),fun q5 g5=>⟨_,rfl,by decide,_,SqL.of Yd,?_⟩⟩⟩⟩⟩⟩
   have t1:=Yc.upd_new g1 (.lst [])
   have t2:=Yc.upd_new g2 (.lst [V.int 1,V.int 3,V.int 2,V.int 2])
   have t3:=Yc.upd_new g3 (.lst [V.int 0,V.int 3,V.int 1,V.int 2])
   have t4:=Yc.upd_new g4 (.lst [V.int 1,V.int 0,V.int 0])
   have t5:=Yc.upd_new g5 (.lst [.ref q1,.ref q2,.ref q3,.ref q4])
   have tA:=(((t1.trans t2).trans t3).trans t4).trans t5
   have hT2:Two pt H _ p1 p2 37:=hT.keep tA
   obtain ⟨xs,ys,⟨sm3,hne,hx,hy,_⟩,_⟩:=hT
   generalize ns.getD 2 0=c
   have fin:∀ (m:Addr) (ms:List Int) (Hx:Hp),Two pt H Hx p1 p2 37→H' m=none→(∀ x∈ms,0≤x∧x≤3)→ms.length≤4→Hx m=some (HO.lst (ms.map V.int))→N [some v,some (.ref a),some (.ref p1),some (.ref p2),some (.int c),o5,some (.ref m),none] Hx:=fun m ms Hx hT2 hm0 h3 h4 hm=>hN _ _ ⟨m,ms,c,h3,h4,hm,fun e=>by (rw [e,hx] at hm0;cases hm0),fun e=>by (rw [e,hy] at hm0;cases hm0),hT2,rfl⟩
   have:c%4=0∨c%4=1∨c%4=2∨c%4=3:=by omega
   rcases this with h | h | h | h<;>rw [h]
   ·exact ⟨_,rfl,fin q1 [] _ hT2 g1 (by simp) (by simp) (t5 _ _ (t4 _ _ (t3 _ _ (t2 _ _ Yd))))⟩
   ·exact ⟨_,rfl,fin q2 [1,3,2,2] _ hT2 (t1.free g2) (by decide) (by simp) (t5 _ _ (t4 _ _ (t3 _ _ Yd)))⟩
   ·exact ⟨_,rfl,fin q3 [0,3,1,2] _ hT2 ((t1.trans t2).free g3) (by decide) (by simp) (t5 _ _ (t4 _ _ Yd))⟩
   ·exact ⟨_,rfl,fin q4 [1,0,0] _ hT2 (((t1.trans t2).trans t3).free g4) (by decide) (by simp) (t5 _ _ Yd)⟩
 ·intro N hN
  walk_at "rd"
  refine ⟨few (by decide),fun p1 h1=>⟨few (by decide),fun p2 h2=>?_⟩⟩
  have t1:=Yc.upd_new h1 (.lst [])
  have t2:=Yc.upd_new h2 (.lst [])
  have hne:p1≠p2:=fun e=>by rw [← e,Yd] at h2;cases h2
  refine WF (fun l xs H2=>∃ ms:List Int,xs=ms.map V.int∧ms.length≤37∧l≠p1∧l≠p2∧H2 l=some (.lst xs)∧Two pt H H2 p1 p2 0) (fun R r=>?_) ?_
  ·walk_at "rd"
   refine ⟨_,(t1.trans t2).seq hS,fun p hp=>?_⟩
   have ec:Y6 (ns.map V.int) (some 3) (some 40)=((ns.drop 3).take 37).map V.int:=by
    rw [show Y6 (ns.map V.int) (some 3) (some 40)=((ns.map V.int).drop 3).take (40 - 3) from Yci _ 3 40,← List.map_drop,← List.map_take]
   have t3:=Yc.upd_new hp (.lst (Y6 (ns.map V.int) (some 3) (some 40)))
   refine r p _ _ (SqL.of Yd) ⟨(ns.drop 3).take 37,ec,by rw [List.length_take];omega,?_,?_,Yd,[],[],⟨(t1.trans t2).trans t3,hne,t3 _ _ (t2 _ _ Yd),t3 _ _ Yd,⟨[],⟨rfl,by simp⟩,by simp⟩,[],⟨rfl,by simp⟩,by simp⟩,by simp,by simp⟩
   ·exact fun e=>by rw [e,t2 _ _ Yd] at hp;cases hp
   ·exact fun e=>by rw [e,Yd] at hp;cases hp
  ·rintro l xs H2 hS2 ⟨ms,rfl,hml,hl1,hl2,hl,hT⟩
   refine ⟨fun i σ H3=>∃ o4 o5,Two pt H H3 p1 p2 i∧H3 l=some (.lst (ms.map V.int))∧σ=[some v,some (.ref a),some (.ref p1),some (.ref p2),o4,o5,none,none],⟨none,none,hT,hl,rfl⟩,?_,?_,?_⟩
   ·rintro i σ H3 hi ⟨o4,o5,_,e,rfl⟩
    exact SqL.of e
   ·rintro i y σ H3 hy ⟨o4,o5,⟨xs,ys,hT3,lx,ly⟩,hl3,rfl⟩
    rw [List.getElem?_map] at hy
    obtain ⟨c,hc,rfl⟩:=Option.map_eq_some_iff.mp hy
    have h6:10000<sizeLine:=by decide
    have hi:i<ms.length:=(List.getElem?_eq_some_iff.mp hc).1
    have cm0:0≤c%4:=by omega
    have cm3:c%4≤3:=by omega
    have h20:H p2=none:=t1.free h2
    walk_at "rd"
    refine ⟨by decide,⟨by decide,by decide⟩,v,pt,c%4,c / 4,rfl,hpt.keep hT3.1,cm0,cm3,fun t p H4 s4 ht0 ht hsp=>?_⟩
    have hT4:=hT3.keep s4
    have hT5:=hT4.one h1 ht hsp
    have hx4:=hT4.2.2.1
    have hl4:=s4 _ _ hl3
    refine ⟨.inl ⟨rfl,_,SqL.of hx4⟩,_,hx4,by omega,⟨by decide,by decide⟩,by decide,?_⟩
    have hl5:upd H4 p1 (.lst (xs++[.ref t])) l=some (.lst (ms.map V.int)):=by rw [Yl hl1];exact hl4
    refine Y7 (fun z=>?_) fun z=>?_
    ·refine ⟨by decide,⟨by decide,by decide⟩,v,pt,c%4,c / 324,rfl,hpt.keep hT5.1,cm0,cm3,fun t' p' H6 s6 ht0' ht' hsp'=>?_⟩
     have hT6:=hT5.keep s6
     have hT7:=hT6.two h20 ht' hsp'
     exact ⟨.inl ⟨rfl,_,SqL.of hT6.2.2.2.1⟩,_,hT6.2.2.2.1,by omega,⟨_,_,hT7,by simp;omega,by simp;omega⟩,by rw [Yl hl2];exact s6 _ _ hl5⟩
    ·have ht5:upd H4 p1 (.lst (xs++[.ref t])) t=some (.tup [.int p.1,.int p.2]):=(Tps.upd_lst hx4) _ _ ht
     have hT7:=hT5.two h20 ht5 hsp
     exact ⟨.inl ⟨rfl,_,SqL.of hT5.2.2.2.1⟩,_,hT5.2.2.2.1,by omega,⟨_,_,hT7,by simp;omega,by simp;omega⟩,by rw [Yl hl2];exact hl5⟩
   ·rintro σ H3 ⟨o4,o5,hT3,hl3,rfl⟩
    rw [List.length_map] at hT3
    exact hN _ _ ⟨p1,p2,o4,o5,h1,t1.free h2,hT3.mono (by omega),rfl⟩
theorem YbF {K:PySem.W.Frag} {H:Hp} {ys:List V} {ps:List (Int×Int)} (h:YC K H ys ps) {a:Addr} {p:Int×Int} (ha:SqT K H a [.int p.1,.int p.2]):YC K H (ys++[.ref a]) (ps++[p]):=by
 have hl:=h.1
 refine ⟨by simp [hl],fun i y q h1 h2=>?_⟩
 rcases Nat.lt_or_ge i ys.length with c | c
 ·rw [List.getElem?_append_left c] at h1
  rw [List.getElem?_append_left (by rw [← hl];exact c)] at h2
  exact h.2 i y q h1 h2
 ·have hl2:=(List.getElem?_eq_some_iff.mp h1).1
  simp only [List.length_append,List.length_singleton] at hl2
  have:i=ys.length:=by omega
  subst this
  rw [List.getElem?_append_right (Nat.le_refl _),Nat.sub_self] at h1
  rw [hl,List.getElem?_append_right (Nat.le_refl _),Nat.sub_self] at h2
  have e1:V.ref a=y:=Option.some.inj h1
  have e2:p=q:=Option.some.inj h2
  subst e1 e2
  exact ⟨a,rfl,ha⟩
def Z0H (K:PySem.W.Frag):Sp:=fun vs H Q _=>∃ (pt:Pt) (a:Addr) (xs:List V) (ps:List (Int×Int)),vs=[.ref a]∧SqL K H a xs∧YC K H xs ps∧SpL pt ps∧∀ l ys qs H',Yc H H'→H' l=some (.lst ys)→YC K H' ys qs→SpL pt qs→qs.Nodup→Q (.ref l) H'
theorem Qu  (R:g.Raw "_law_once" "_law_once" Z0e ["_law_spots_here"]):g.Fn (1) "_law_once" ["_law_spots_here"] (Z0H g.K):=by
 refine R.fn ZW (fun vs H Q E h=>by obtain ⟨pt,a,xs,ps,rfl,hS,hpr,⟨hl,hpw,hsp⟩,q⟩:=h;rfl) fun f_ cdv A outer s H vs Q E hr h=>?_
 obtain ⟨pt,a,xs,ps,rfl,hS,hpr,⟨hl,hpw,hsp⟩,q⟩:=h
 refine ⟨_,(@Yf _ _ _ _ _ (@Yt _ _ (1) _ _ _ _ ZW.nd rfl (.inl rfl) (@YF _ _ _ _ Yb) (by rfl) (by first | exact .inl rfl | exact .inr rfl | assumption)) (@Yf _ _ _ _ _ (@Xg _ _ _ _ _ _ _ _ PassesOwn.never rfl (@YT _ _ _ _ (pv 0)) (@Yp _ _ (2) _ ZW.nd rfl (.inl rfl) (by first | exact .inl rfl | exact .inr rfl | assumption)) (@Yg _ _ _ (@YD _ _ _ _ _ _ _ _ (@Yo _ _ _ _ _ _ _ _ (Ya1 hr.units) (pv 2) (pv 1) rfl) (@Yg _ _ _ (@Xb _ _ _ _ (@XB _ _ _ _ _ _ _ _ _ _ _ _ PySem.F.plainAttrs_list PySem.F.slot_list_append PySem.F.type_list_append YY (pv 1) (@Ya _ _ _ _ _ (pv 2) Yb (by rfl)) (by rfl) (by rfl) (by rfl) (by rfl) (by rfl)) (by rfl))) Yq)) (by intro _;rfl)) (@Yg _ _ _ (@Yh _ _ _ _ (pv 1))))),?_⟩
 walk_at "rd"
 refine ⟨few (by decide),fun p hp=>?_⟩
 have s1:=Yc.upd_new hp (.lst [])
 have hlx:=hpr.1
 refine WO (K:=g.K) (a:=a) (xs:=xs) (fun i σ H'=>∃ o2 ys qs,σ=[some (.ref a),some (.ref p),o2]∧Yc H H'∧H' p=some (.lst ys)∧YC g.K H ys qs∧qs.Pairwise pLe∧qs.Nodup∧(∀ q∈qs,q∈ps.take i)∧qs.length≤i) (fun R r=>by walk_at "rd";exact r) ⟨none,[],[],rfl,s1,Yd,⟨rfl,by simp⟩,.nil,.nil,by simp,by simp⟩ (fun i σ H' _ ⟨o2,ys,qs,_,e,_⟩=>e.seq hS) ?_ ?_
 ·rintro i v σ H' hv ⟨o2,ys,qs,rfl,sm,hp',hq,hw,hn,hin,hql⟩
  have hi:=(List.getElem?_eq_some_iff.mp hv).1
  have hk:ps[i]?=some (ps[i]'(by omega)):=List.getElem?_eq_getElem _
  generalize ps[i]'(by omega)=pp at hk
  obtain ⟨va,rfl,hva⟩:=hpr.2 i v pp hv hk
  have h6:10000<sizeLine:=by decide
  have hyl:=hq.1
  have htk:ps.take (i+1)=ps.take i++[pp]:=YZ hk
  walk_at "rd"
  refine ⟨ys,qs,pp,sm.tup hva,SqL.of hp',YC.keep (K:=g.K) sm hq,?_⟩
  refine Y7 (fun z=>?_) fun z=>?_
  ·refine ⟨.inl ⟨rfl,_,SqL.of hp'⟩,ys,hp',by omega,.upd_over hp sm _,_,Yd,qs++[pp],YbF hq hva,?_,?_,?_,by simp;omega⟩
   ·refine List.pairwise_append.mpr ⟨hw,by simp,fun x hx y hy=>?_⟩
    rw [List.mem_singleton.mp hy]
    have hpw':=hpw.sublist (List.take_sublist (i+1) ps)
    rw [htk] at hpw'
    exact (List.pairwise_append.mp hpw').2.2 x (hin x hx) pp (by simp)
   ·refine List.nodup_append.mpr ⟨hn,by simp,fun x hx y hy e=>?_⟩
    rw [List.mem_singleton.mp hy] at e
    exact z (e▸hx)
   ·intro x hx
    rw [htk]
    rcases List.mem_append.mp hx with hx | hx
    ·exact List.mem_append_left _ (hin x hx)
    ·exact List.mem_append_right _ hx
  ·refine ⟨sm,ys,hp',qs,hq,hw,hn,fun x hx=>?_,by omega⟩
   rw [htk]
   exact List.mem_append_left _ (hin x hx)
 ·rintro σ H' ⟨o2,ys,qs,rfl,sm,hp',hq,hw,hn,hin,hql⟩
  walk_at "rd"
  exact q p ys qs H' sm hp' (YC.keep (K:=g.K) sm hq) ⟨by have:=List.length_take (i:=xs.length) (l:=ps);omega,hw,fun x hx=>hsp x (List.mem_of_mem_take (hin x hx))⟩ hn
theorem Vw {src:List (Option Nat)} {te:TE} {σ:St} {H:Hp} {Q:VK} {K:PySem.W.Frag} {tl:TE} {b:Addr} {xs:List V} (ps:List (V×V)) (ys:List V) (ha:∀ R:V→Hp→Prop,R (.ref b) H→tl σ H R) (hS:SqL K H b xs) (hp:∀ (i:Nat) x p,xs[i]?=some x→ps[i]?=some p→∃ T,x = .ref T∧SqT K H T [p.1,p.2]) (hl:ps.length=xs.length) (hl2:ys.length=xs.length) (hlen:xs.length≤100000)
  (step:∀ (i:Nat) p y H',ps[i]?=some p→ys[i]?=some y→Yc H H'→∀ R:VK,(∀ H'',Yc H' H''→R y H'')→te (some p.1::some p.2::Yz src σ) H' R)
  (fin:∀ D H',H D=none→Yc H H'→H' D=some (.lst ys)→Q (.ref D) H'):tLC (none::none::src) (Wd K tl) (XY K 2 (YS (Yv 0) (YS (Yv 1) XX))) Xt te σ H Q:=by
 refine ha _ ⟨b,rfl,⟨xs,hS⟩,fun D hD=>?_⟩
 have h6:100000<sizeLine:=by decide
 refine Up (XC.imp fun H' (e:Yc H H')=>e.seq hS) (fun i zs σ' H'=>zs=ys.take i∧(∃ o o',σ'=o::o'::Yz src σ)∧Yc H H'∧H' D=some (.lst zs)) ⟨by simp,⟨none,none,rfl⟩,.upd_new hD _,Yd⟩ (fun i zs σ' H' p=>⟨p.2.2.1,p.2.2.2⟩) (W3 K 0 1) ?_ ?_
 ·rintro i zs σ' H' x hx ⟨rfl,⟨o,o',rfl⟩,sm,hd⟩
  have hi:=(List.getElem?_eq_some_iff.mp hx).1
  have hy:ys[i]?=some (ys[i]'(by omega)):=List.getElem?_eq_getElem _
  have hpi:ps[i]?=some (ps[i]'(by omega)):=List.getElem?_eq_getElem _
  obtain ⟨T,rfl,hT⟩:=hp i x _ hx hpi
  refine ⟨T,_,rfl,sm.tup hT,rfl,_,_,rfl,_,_,rfl,rfl,?_⟩
  refine step i _ _ H' hpi hy sm _ fun H'' s2=>⟨s2 _ _ hd,?_,(YZ hy).symm,⟨_,_,rfl⟩,.upd_over hD (sm.trans s2) _,Yd⟩
  rw [List.length_take];omega
 ·rintro zs σ' H' ⟨rfl,_,sm,hd⟩
  rw [← hl2,List.take_length] at hd
  exact fin D H' hD sm hd
def sel (p:Int×Int→Bool) (xs:List V) (ps:List (Int×Int)):List V:=((xs.zip ps).filter fun z=>p z.2).map (·.1)
theorem Ud {src:List (Option Nat)} {te:TE} {σ:St} {H:Hp} {Q:VK} {K:PySem.W.Frag} {tl:TE} {tt:TT} {xs:List V} {ps:List (Int×Int)} (hxp:xs.length=ps.length) (p:Int×Int→Bool) (ha:∀ R:V→Hp→Prop,(∀ a H1,Yc H H1→SqL K H1 a xs→R (.ref a) H1)→tl σ H R) (hlen:xs.length≤100000)
  (test:∀ (i:Nat) x q H',xs[i]?=some x→ps[i]?=some q→Yc H H'→∀ R:Bool→Hp→Prop,(∀ H'',Yc H' H''→R (p q) H'')→tt (some x::Yz src σ) H' R)
  (step:∀ (i:Nat) x q H',xs[i]?=some x→ps[i]?=some q→Yc H H'→∀ R:VK,(∀ H'',Yc H' H''→R x H'')→te (some x::Yz src σ) H' R)
  (fin:∀ D H',H D=none→Yc H H'→H' D=some (.lst (sel p xs ps))→Q (.ref D) H'):tLC (none::src) (Wd K tl) (Yv 0) tt te σ H Q:=by
 refine ha _ fun a H1 s1 hS=>⟨a,rfl,⟨xs,hS⟩,fun D hD=>?_⟩
 have h6:100000<sizeLine:=by decide
 have take1:∀ i x q,xs[i]?=some x→ps[i]?=some q→sel p (xs.take (i+1)) (ps.take (i+1))=sel p (xs.take i) (ps.take i)++(if p q=true then [x] else []):=fun i x q hx hq=>by
  have hi:=(List.getElem?_eq_some_iff.mp hx).1
  unfold sel
  rw [YZ hx,YZ hq,List.zip_append (by rw [List.length_take,List.length_take];omega),List.filter_append,List.map_append]
  by_cases c:p q=true
  ·simp [c]
  ·simp [c]
 refine YbT (XC.imp fun H' (e:Yc H1 H')=>e.seq hS) (fun i zs σ' H'=>zs=sel p (xs.take i) (ps.take i)∧(∃ o,σ'=o::Yz src σ)∧Yc H1 H'∧H' D=some (.lst zs)) ⟨by simp [sel],⟨none,rfl⟩,.upd_new hD _,Yd⟩ (fun i zs σ' H' q=>⟨q.2.2.1,q.2.2.2⟩) ?_ ?_
 ·rintro i zs σ' H' x hx ⟨rfl,⟨o,rfl⟩,sm,hd⟩
  have hi:=(List.getElem?_eq_some_iff.mp hx).1
  have hq:ps[i]?=some (ps[i]'(by omega)):=List.getElem?_eq_getElem _
  generalize ps[i]'(by omega)=qq at hq
  have ht:=take1 i x qq hx hq
  show tt (some x::Yz src σ) H' _
  refine test i x qq H' hx hq (s1.trans sm) _ fun H2 s2=>?_
  cases e:p qq with
  | true =>
   refine Wi ?_
   rw [if_pos e] at ht
   refine step i x qq H2 hx hq ((s1.trans sm).trans s2) _ fun H3 s3=>⟨s3 _ _ (s2 _ _ hd),?_,ht.symm,⟨_,rfl⟩,.upd_over hD ((sm.trans s2).trans s3) _,Yd⟩
   unfold sel
   rw [List.length_map]
   refine Nat.lt_of_le_of_lt (List.length_filter_le _ _) ?_
   rw [List.length_zip,List.length_take,List.length_take]
   omega
  | false =>
   refine Wh ?_
   rw [if_neg (by rw [e];simp),List.append_nil] at ht
   exact ⟨ht.symm,⟨_,rfl⟩,sm.trans s2,s2 _ _ hd⟩
 ·rintro zs σ' H' ⟨rfl,_,sm,hd⟩
  rw [List.take_length,List.take_of_length_le (by omega)] at hd
  exact fin D H' (s1.free hD) (s1.trans sm) hd
theorem QM {K:PySem.W.Frag} {H:Hp} {xs:List V} {ps:List (Int×Int)}:YC K H xs ps↔xs.length=ps.length∧∀ z∈xs.zip ps,PrAt K H z.1 z.2:=by
 refine ⟨fun h=>⟨h.1,fun z hz=>?_⟩,fun h=>⟨h.1,fun i y p h1 h2=>h.2 (y,p) (List.mem_of_getElem? ((List.getElem?_zip_eq_some (z:=(y,p))).mpr ⟨h1,h2⟩))⟩⟩
 obtain ⟨i,hi⟩:=List.mem_iff_getElem?.mp hz
 have:=List.getElem?_zip_eq_some.mp hi
 exact h.2 i z.1 z.2 this.1 this.2
theorem QN {K:PySem.W.Frag} {H:Hp} {xs:List V} {ps:List (Int×Int)} (p:Int×Int→Bool) (h:YC K H xs ps):YC K H (sel p xs ps) (ps.filter p):=by
 have hl:=h.1
 have h2:=(QM.mp h).2
 have e:ps.filter p=((xs.zip ps).filter fun z=>p z.2).map (·.2):=by
  rw [show (fun z:V×(Int×Int)=>p z.2)=p ∘ (fun z:V×(Int×Int)=>z.2) from rfl,← List.filter_map,List.map_snd_zip (by omega)]
 rw [e]
 unfold sel
 refine QM.mpr ⟨by simp,fun z hz=>?_⟩
 have zz:∀ F:List (V×(Int×Int)),(F.map (·.1)).zip (F.map (·.2))=F:=fun F=>by
  induction F with
  | nil=>rfl
  | cons x F ih=>simp [ih]
 rw [zz] at hz
 exact h2 z (List.mem_filter.mp hz).1
theorem QO {K:PySem.W.Frag} {H:Hp} {xs:List V} {ps:List (Int×Int)} (h:YC K H xs ps):YC K H xs.reverse ps.reverse:=by
 have hl:=h.1
 refine ⟨by simp [hl],fun i y p h1 h2=>?_⟩
 have hi:=(List.getElem?_eq_some_iff.mp h1).1
 rw [List.length_reverse] at hi
 rw [List.getElem?_reverse hi] at h1
 rw [List.getElem?_reverse (by omega),← hl] at h2
 exact h.2 _ y p h1 h2
def sg (x y:Int):Int:=(if y<x then 1 else 0) - (if x<y then 1 else 0)
def tot (ps:List (Int×Int)):Int:=(ps.map fun p=>1+p.1).sum
def fl (s:Int) (ps:List (Int×Int)):List (Int×Int):=ps.filter fun p=>decide (p.1=s)
def fdf:List (Int×Int)→List (Int×Int)→Option Int
 | x::xs,y::ys=>if x≠y then some (sg x.2 y.2) else fdf xs ys
 | _,_=>none
def VM:List Int→List (Int×Int)→List (Int×Int)→Int
 | [],_,_=>0
 | s::ss,ps,qs=>if (fl s ps).length≠(fl s qs).length then sg (fl s ps).length (fl s qs).length else match fdf (fl s ps).reverse (fl s qs).reverse with
  | some r=>r
  | none=>VM ss ps qs
def due (ps qs:List (Int×Int)):Int:=if tot ps≠tot qs then sg (tot ps) (tot qs) else VM [0,1,2,3] ps qs
theorem Yc4 {x y:Int} {Q:VK} {H:Hp} (q:Q (.int (sg x y)) H):(∃ i,V.bl (decide (y<x))=V.int i∧((∃ i_1,V.bl (decide (x<y))=V.int i_1∧Q (V.int (i - i_1)) H)∨Q (V.int (i - if x<y then 1 else 0)) H))∨(∃ i,V.bl (decide (x<y))=V.int i∧Q (V.int ((if y<x then 1 else 0) - i)) H)∨Q (V.int ((if y<x then 1 else 0) - if x<y then 1 else 0)) H := .inr (.inr q)
theorem Ue {K:PySem.W.Frag} {H:Hp} {xs:List V} {ps:List (Int×Int)} (h:YC K H xs ps):(∀ (i:Nat) x p,xs[i]?=some x→(ps.map fun p=>(V.int p.1,V.int p.2))[i]?=some p→∃ T,x = .ref T∧SqT K H T [p.1,p.2]):=fun i x p h1 h2=>by
 rw [List.getElem?_map] at h2
 obtain ⟨q,hq,rfl⟩:=Option.map_eq_some_iff.mp h2
 exact h.2 i x q h1 hq
def Z0W (K:PySem.W.Frag):Sp:=fun vs H Q _=>∃ (a b:Addr) (xs ys:List V) (ps qs:List (Int×Int)),vs=[.ref a,.ref b]∧SqL K H a xs∧SqL K H b ys∧YC K H xs ps∧YC K H ys qs∧ps.length≤63∧qs.length≤63∧∀ H',Yc H H'→Q (.int (due ps qs)) H'
theorem Yaj  (R:g.Raw "_law_due" "_law_due" Z0z ["_law_one","_law_other"]) (b_int:g.mg "int"=none) (b_len:g.mg "len"=none) (Z6:g.mg "range"=none) (b_sum:g.mg "sum"=none) (b_zip:g.mg "zip"=none):g.Fn (1) "_law_due" ["_law_one","_law_other"] (Z0W g.K):=by
 refine R.fn Z4 (fun vs H Q E h=>by obtain ⟨a,b,xs,ys,ps,qs,rfl,hA,hB,hpa,hpb,hl1,hl2,q⟩:=h;rfl) fun f_ cdv A outer s H vs Q E hr h=>?_
 obtain ⟨a,b,xs,ys,ps,qs,rfl,hA,hB,hpa,hpb,hl1,hl2,q⟩:=h
 refine ⟨_,(@Yf _ _ _ _ _ (@Yt _ _ (2) _ _ _ _ Z4.nd rfl (.inl rfl) (@YB _ _ _ _ _ _ _ _ _ _ b_sum XZ (@Ya _ _ _ _ _ (@X3 _ _ _ _ _ _ _ ([none,none]) ((["_law_size","_law_place"]:List Str)) _ (XY g.K 2 (YS (Yv 0) (YS (Yv 1) XX))) _ _ (.own (.own .nil)) rfl (@YT _ _ _ _ (pv 0)) (fun cl C s₀ H₀ fp pn=>(@Xz _ _ _ _ _ (2) rfl (@YK _ _ _ _ _ (@Yp _ _ (0) _ (show List.Nodup (["_law_size","_law_place"]:List Str) by decide +kernel) rfl (.inl rfl) (.inr rfl)) (@YK _ _ _ _ _ (@Yp _ _ (1) _ (show List.Nodup (["_law_size","_law_place"]:List Str) by decide +kernel) rfl (.inl rfl) (.inr rfl)) Xm (by rfl)) (by rfl)) (by rfl) (by rfl))) (fun cl C s₀ H₀ fp pn=>Y3) (fun cl C s₀ H₀ fp pn=>(@Yw _ _ _ _ _ _ _ _ XV Ye (pv 0))) (by intro x hx;simp at hx) (by rfl) (by decide) (by decide +kernel) (by intro _;rfl)) Yb (by rfl)) (by decide +kernel) (by rfl) (by rfl) (by decide) (by decide) (by rfl) (by rfl)) (by rfl) (by first | exact .inl rfl | exact .inr rfl | assumption)) (@Yf _ _ _ _ _ (@Yt _ _ (3) _ _ _ _ Z4.nd rfl (.inl rfl) (@YB _ _ _ _ _ _ _ _ _ _ b_sum XZ (@Ya _ _ _ _ _ (@X3 _ _ _ _ _ _ _ ([none,none]) ((["_law_size","_law_place"]:List Str)) _ (XY g.K 2 (YS (Yv 0) (YS (Yv 1) XX))) _ _ (.own (.own .nil)) rfl (@YT _ _ _ _ (pv 1)) (fun cl C s₀ H₀ fp pn=>(@Xz _ _ _ _ _ (2) rfl (@YK _ _ _ _ _ (@Yp _ _ (0) _ (show List.Nodup (["_law_size","_law_place"]:List Str) by decide +kernel) rfl (.inl rfl) (.inr rfl)) (@YK _ _ _ _ _ (@Yp _ _ (1) _ (show List.Nodup (["_law_size","_law_place"]:List Str) by decide +kernel) rfl (.inl rfl) (.inr rfl)) Xm (by rfl)) (by rfl)) (by rfl) (by rfl))) (fun cl C s₀ H₀ fp pn=>Y3) (fun cl C s₀ H₀ fp pn=>(@Yw _ _ _ _ _ _ _ _ XV Ye (pv 0))) (by intro x hx;simp at hx) (by rfl) (by decide) (by decide +kernel) (by intro _;rfl)) Yb (by rfl)) (by decide +kernel) (by rfl) (by rfl) (by decide) (by decide) (by rfl) (by rfl)) (by rfl) (by first | exact .inl rfl | exact .inr rfl | assumption)) (@Yf _ _ _ _ _ (@YD _ _ _ _ _ _ _ _ (@Yo _ _ _ _ _ _ _ _ Uo (pv 2) (pv 3) (Yj _)) (@Yg _ _ _ (@Yh _ _ _ _ (@Yw _ _ _ _ _ _ _ _ Wo (@Xp _ _ _ _ _ _ _ _ _ _ b_int Xv (@Ya _ _ _ _ _ (@YU _ _ _ _ _ _ _ _ Q0 (pv 2) (pv 3) (Yj _)) Yb (by rfl)) (by decide +kernel) (by rfl) (by rfl) (by decide) (by decide) (by rfl) (by rfl)) (@Xp _ _ _ _ _ _ _ _ _ _ b_int Xv (@Ya _ _ _ _ _ (@YU _ _ _ _ _ _ _ _ Vh (pv 2) (pv 3) (Yj _)) Yb (by rfl)) (by decide +kernel) (by rfl) (by rfl) (by decide) (by decide) (by rfl) (by rfl))))) Yq) (@Yf _ _ _ _ _ (@Xg _ _ _ _ _ _ _ _ PassesOwn.never rfl (@WJ _ _ _ _ _ _ rfl Z6 (@Ya _ _ _ _ _ Ye Yb (by rfl)) (by rfl)) (@Yp _ _ (4) _ Z4.nd rfl (.inr rfl) (by first | exact .inl rfl | exact .inr rfl | assumption)) (@Yf _ _ _ _ _ (@WX _ (5) _ _ _ _ _ _ _ _ _ ([none,some 4]) ((["_law_spot_here","_law_size"]:List Str)) _ (Yv 0) _ _ Z4.nd rfl (.inl rfl) (.own (.cap (i:=4) rfl rfl (by first | exact .inl rfl | exact .inr rfl) .nil)) rfl (@YT _ _ _ _ (pv 0)) (fun cl C s₀ H₀ fp pn=>(@Yp _ _ (0) _ (show List.Nodup (["_law_spot_here","_law_size"]:List Str) by decide +kernel) rfl (.inl rfl) (.inr rfl))) (fun cl C s₀ H₀ fp pn=>(@QC _ _ _ (@Yo _ _ _ _ _ _ _ _ YG (@Yk _ _ _ _ _ _ _ (X6 (K:=g.K)) (pv 0) Ye (fun _ _=>rfl)) (pv 1) (Yj _)))) (fun cl C s₀ H₀ fp pn=>(pv 0)) (by intro x hx;simp at hx;first | (subst hx;exact .inl rfl) | (rcases hx with rfl | rfl<;>exact .inl rfl) | (rcases hx with rfl | rfl | rfl<;>exact .inl rfl) | (rcases hx with rfl | rfl | rfl | rfl<;>exact .inl rfl) | (rcases hx with rfl | rfl | rfl | rfl | rfl<;>exact .inl rfl)) (by rfl) (by decide) (by decide +kernel) (by intro _;rfl) (by rfl) (by first | exact .inl rfl | exact .inr rfl | assumption)) (@Yf _ _ _ _ _ (@WX _ (6) _ _ _ _ _ _ _ _ _ ([none,some 4]) ((["_law_spot_here","_law_size"]:List Str)) _ (Yv 0) _ _ Z4.nd rfl (.inl rfl) (.own (.cap (i:=4) rfl rfl (by first | exact .inl rfl | exact .inr rfl) .nil)) rfl (@YT _ _ _ _ (pv 1)) (fun cl C s₀ H₀ fp pn=>(@Yp _ _ (0) _ (show List.Nodup (["_law_spot_here","_law_size"]:List Str) by decide +kernel) rfl (.inl rfl) (.inr rfl))) (fun cl C s₀ H₀ fp pn=>(@QC _ _ _ (@Yo _ _ _ _ _ _ _ _ YG (@Yk _ _ _ _ _ _ _ (X6 (K:=g.K)) (pv 0) Ye (fun _ _=>rfl)) (pv 1) (Yj _)))) (fun cl C s₀ H₀ fp pn=>(pv 0)) (by intro x hx;simp at hx;first | (subst hx;exact .inl rfl) | (rcases hx with rfl | rfl<;>exact .inl rfl) | (rcases hx with rfl | rfl | rfl<;>exact .inl rfl) | (rcases hx with rfl | rfl | rfl | rfl<;>exact .inl rfl) | (rcases hx with rfl | rfl | rfl | rfl | rfl<;>exact .inl rfl)) (by rfl) (by decide) (by decide +kernel) (by intro _;rfl) (by rfl) (by first | exact .inl rfl | exact .inr rfl | assumption)) (@Yf _ _ _ _ _ (@YD _ _ _ _ _ _ _ _ (@Yo _ _ _ _ _ _ _ _ Uo (@YB _ _ _ _ _ _ _ _ _ _ b_len Yu (@Ya _ _ _ _ _ (pv 5) Yb (by rfl)) (by decide +kernel) (by rfl) (by rfl) (by decide) (by decide) (by rfl) (by rfl)) (@YB _ _ _ _ _ _ _ _ _ _ b_len Yu (@Ya _ _ _ _ _ (pv 6) Yb (by rfl)) (by decide +kernel) (by rfl) (by rfl) (by decide) (by decide) (by rfl) (by rfl)) (Yj _)) (@Yg _ _ _ (@Yh _ _ _ _ (@Yw _ _ _ _ _ _ _ _ Wo (@Xp _ _ _ _ _ _ _ _ _ _ b_int Xv (@Ya _ _ _ _ _ (@YU _ _ _ _ _ _ _ _ Q0 (@YB _ _ _ _ _ _ _ _ _ _ b_len Yu (@Ya _ _ _ _ _ (pv 5) Yb (by rfl)) (by decide +kernel) (by rfl) (by rfl) (by decide) (by decide) (by rfl) (by rfl)) (@YB _ _ _ _ _ _ _ _ _ _ b_len Yu (@Ya _ _ _ _ _ (pv 6) Yb (by rfl)) (by decide +kernel) (by rfl) (by rfl) (by decide) (by decide) (by rfl) (by rfl)) (Yj _)) Yb (by rfl)) (by decide +kernel) (by rfl) (by rfl) (by decide) (by decide) (by rfl) (by rfl)) (@Xp _ _ _ _ _ _ _ _ _ _ b_int Xv (@Ya _ _ _ _ _ (@YU _ _ _ _ _ _ _ _ Vh (@YB _ _ _ _ _ _ _ _ _ _ b_len Yu (@Ya _ _ _ _ _ (pv 5) Yb (by rfl)) (by decide +kernel) (by rfl) (by rfl) (by decide) (by decide) (by rfl) (by rfl)) (@YB _ _ _ _ _ _ _ _ _ _ b_len Yu (@Ya _ _ _ _ _ (pv 6) Yb (by rfl)) (by decide +kernel) (by rfl) (by rfl) (by decide) (by decide) (by rfl) (by rfl)) (Yj _)) Yb (by rfl)) (by decide +kernel) (by rfl) (by rfl) (by decide) (by decide) (by rfl) (by rfl))))) Yq) (@Yg _ _ _ (@Xg _ _ _ _ _ _ _ _ PassesOwn.never rfl (@VD _ _ _ _ _ _ _ _ _ rfl b_zip (@Ya _ _ _ _ _ (@UL _ _ _ _ _ _ _ (pv 5) (@Wy _ _ _ _ _ _ X8 Ye)) (@Ya _ _ _ _ _ (@UL _ _ _ _ _ _ _ (pv 6) (@Wy _ _ _ _ _ _ X8 Ye)) Yb (by rfl)) (by rfl)) (by rfl) (by rfl)) (@Xz _ _ _ _ _ (2) rfl (@YK _ _ _ _ _ (@Yp _ _ (7) _ Z4.nd rfl (.inl rfl) (by first | exact .inl rfl | exact .inr rfl | assumption)) (@YK _ _ _ _ _ (@Yp _ _ (8) _ Z4.nd rfl (.inl rfl) (by first | exact .inl rfl | exact .inr rfl | assumption)) Xm (by rfl)) (by rfl)) (by rfl) (by rfl)) (@Yg _ _ _ (@YD _ _ _ _ _ _ _ _ (@Yo _ _ _ _ _ _ _ _ (YcP hr.units) (pv 7) (pv 8) (Yj _)) (@Yg _ _ _ (@Yh _ _ _ _ (@Yw _ _ _ _ _ _ _ _ Wo (@Xp _ _ _ _ _ _ _ _ _ _ b_int Xv (@Ya _ _ _ _ _ (@YU _ _ _ _ _ _ _ _ Q0 (@Yk _ _ _ _ _ _ _ Yr (pv 7) Ye (fun _ _=>rfl)) (@Yk _ _ _ _ _ _ _ Yr (pv 8) Ye (fun _ _=>rfl)) (Yj _)) Yb (by rfl)) (by decide +kernel) (by rfl) (by rfl) (by decide) (by decide) (by rfl) (by rfl)) (@Xp _ _ _ _ _ _ _ _ _ _ b_int Xv (@Ya _ _ _ _ _ (@YU _ _ _ _ _ _ _ _ Vh (@Yk _ _ _ _ _ _ _ Yr (pv 7) Ye (fun _ _=>rfl)) (@Yk _ _ _ _ _ _ _ Yr (pv 8) Ye (fun _ _=>rfl)) (Yj _)) Yb (by rfl)) (by decide +kernel) (by rfl) (by rfl) (by decide) (by decide) (by rfl) (by rfl))))) Yq)) (by intro _;rfl)))))) (by intro _;rfl)) (@Yg _ _ _ (@Yh _ _ _ _ Ye)))))),?_⟩
 refine cut2 (fun σ H1=>Yc H H1∧σ=[some (.ref a),some (.ref b),some (.int (tot ps)),some (.int (tot qs)),none,none,none,none,none]) ?_ ?_
 ·rintro σ H1 ⟨sm,rfl⟩
  refine UJ (fun σ H2=>Yc H H2∧tot ps=tot qs∧σ=[some (.ref a),some (.ref b),some (.int (tot ps)),some (.int (tot qs)),none,none,none,none,none]) ?_ ?_
  ·rintro σ H2 ⟨sm2,ht,rfl⟩
   have la:=hpa.1
   have lb:=hpb.1
   walk_at "rd"
   refine Wj (n:=4) (fun i σ H3=>Yc H H3∧due ps qs=VM ([0,1,2,3].drop i) ps qs∧∃ o4 o5 o6 o7 o8,σ=[some (.ref a),some (.ref b),some (.int (tot ps)),some (.int (tot qs)),o4,o5,o6,o7,o8]) (fun R r=>by walk_at "rd";exact r) (by omega) ⟨sm2,by rw [due,if_neg (fun z=>z ht)];rfl,_,_,_,_,_,rfl⟩ ?_ ?_
   ·rintro i σ H3 hi ⟨sm3,hdue,o4,o5,o6,o7,o8,rfl⟩
    have hdr:[(0:Int),1,2,3].drop i=(i:Int)::[(0:Int),1,2,3].drop (i+1):=by
     have:i=0∨i=1∨i=2∨i=3:=by omega
     rcases this with rfl | rfl | rfl | rfl<;>rfl
    rw [hdr,VM] at hdue
    walk_at "gn"
    refine cut2 (fun σ H4=>∃ x y,Yc H H4∧H4 x=some (.lst (sel (fun p=>decide (p.1=(i:Int))) xs ps))∧H4 y=some (.lst (sel (fun p=>decide (p.1=(i:Int))) ys qs))∧σ=[some (.ref a),some (.ref b),some (.int (tot ps)),some (.int (tot qs)),some (.int (i:Int)),some (.ref x),some (.ref y),o7,o8]) ?_ ?_
    ·rintro σ H4 ⟨x,y,sm4,hx,hy,rfl⟩
     have hpx:=QN (fun p=>decide (p.1=(i:Int))) (YC.keep (K:=g.K) sm4 hpa)
     have hpy:=QN (fun p=>decide (p.1=(i:Int))) (YC.keep (K:=g.K) sm4 hpb)
     have lx:=hpx.1
     have ly:=hpy.1
     refine UJ (fun σ H5=>H5=H4∧(fl i ps).length=(fl i qs).length∧σ=[some (.ref a),some (.ref b),some (.int (tot ps)),some (.int (tot qs)),some (.int (i:Int)),some (.ref x),some (.ref y),o7,o8]) ?_ ?_
     ·rintro σ H5 ⟨rfl,hln,rfl⟩
      rw [if_neg (fun z=>z hln)] at hdue
      have hrx:=QO hpx
      have hry:=QO hpy
      have hrl:(sel (fun p=>decide (p.1=(i:Int))) xs ps).reverse.length=(fl i ps).reverse.length:=hrx.1
      have hrm:(sel (fun p=>decide (p.1=(i:Int))) ys qs).reverse.length=(fl i qs).reverse.length:=hry.1
      refine YaQ (K:=g.K) 7 8 (xs:=(sel (fun p=>decide (p.1=(i:Int))) xs ps).reverse) (ys:=(sel (fun p=>decide (p.1=(i:Int))) ys qs).reverse) (fun a' b' n σ H6=>Yc H5 H6∧SqL g.K H6 a' (sel (fun p=>decide (p.1=(i:Int))) xs ps).reverse∧SqL g.K H6 b' (sel (fun p=>decide (p.1=(i:Int))) ys qs).reverse∧fdf (fl i ps).reverse (fl i qs).reverse=fdf ((fl i ps).reverse.drop n) ((fl i qs).reverse.drop n)∧∃ o7 o8,σ=[some (V.ref a),some (V.ref b),some (V.int (tot ps)),some (V.int (tot qs)),some (V.int (i:Int)),some (V.ref x),some (V.ref y),o7,o8]) (fun R r=>?_) (fun a' b' n σ H6 _ h=>⟨h.2.1,h.2.2.1⟩) ?_ ?_
      ·walk_at "rd"
       refine ⟨_,SqL.of hx,fun r1 g1=>⟨_,SqL.of ((Yc.upd_new g1 _) _ _ hy),fun r2 g2=>?_⟩⟩
       exact r r1 r2 _ ⟨(Yc.upd_new g1 _).trans (.upd_new g2 _),SqL.of ((Yc.upd_new g2 _) _ _ Yd),SqL.of Yd,rfl,_,_,rfl⟩
      ·rintro a' b' n u w σ H6 T hu hw ⟨sm6,ha6,hb6,hfd,o7,o8,rfl⟩ hT
       have hn1:=(List.getElem?_eq_some_iff.mp hu).1
       have hn2:=(List.getElem?_eq_some_iff.mp hw).1
       have e1:(fl i ps).reverse[n]?=some ((fl i ps).reverse[n]'(by omega)):=List.getElem?_eq_getElem _
       have e2:(fl i qs).reverse[n]?=some ((fl i qs).reverse[n]'(by omega)):=List.getElem?_eq_getElem _
       rw [List.drop_eq_getElem_cons (show n<(fl i ps).reverse.length by omega),List.drop_eq_getElem_cons (show n<(fl i qs).reverse.length by omega),fdf] at hfd
       generalize (fl i ps).reverse[n]'(by omega)=pu at e1 hfd
       generalize (fl i qs).reverse[n]'(by omega)=pw at e2 hfd
       obtain ⟨Tu,rfl,hTu⟩:=hrx.2 n u pu hu e1
       obtain ⟨Tw,rfl,hTw⟩:=hry.2 n w pw hw e2
       have s7:=sm6.trans (Yc.upd_new hT (.tup [V.ref Tu,V.ref Tw]))
       have d1:Den g.K (upd H6 T (.tup [V.ref Tu,V.ref Tw])) (.ref Tu) (.tuple [.int pu.1,.int pu.2]) := .tup (s7.tup hTu) (.cons (.int _) (.cons (.int _) .nil))
       have d2:Den g.K (upd H6 T (.tup [V.ref Tu,V.ref Tw])) (.ref Tw) (.tuple [.int pw.1,.int pw.2]) := .tup (s7.tup hTw) (.cons (.int _) (.cons (.int _) .nil))
       have eqq:PyData.eqv (.tuple [.int pu.1,.int pu.2]) (.tuple [.int pw.1,.int pw.2])=decide (pu=pw):=by
        obtain ⟨p1,p2⟩:=pu
        obtain ⟨q1,q2⟩:=pw
        simp only [PyData.eqv,PyData.eqvAll,Bool.and_true]
        rw [Bool.eq_iff_iff]
        simp
       walk_at "rd"
       refine ⟨_,d1,_,d2,by simp [PyData.depth,PyData.depthAll],?_⟩
       rw [eqq]
       refine Y7 (fun z=>?_) fun z=>?_
       ·have hne:pu≠pw:=of_decide_eq_false z
        rw [if_pos hne] at hfd
        rw [hfd] at hdue
        have t1:=s7.tup hTu
        have t2:=s7.tup hTw
        refine ⟨_,t1,_,YX _ _,_,t2,_,YX _ _,_,rfl,_,rfl,.inr ⟨_,t1,_,YX _ _,_,t2,_,YX _ _,_,rfl,_,rfl,.inr ?_⟩⟩
        have:=q _ (sm4.trans s7)
        rw [hdue] at this
        exact this
       ·have he:pu=pw:=by
         have:decide (pu=pw)=true:=by simpa using z
         exact of_decide_eq_true this
        rw [if_neg (fun y=>y he)] at hfd
        exact ⟨s7,(Yc.upd_new hT _).seq ha6,(Yc.upd_new hT _).seq hb6,hfd⟩
      ·rintro a' b' σ H6 ⟨sm6,ha6,hb6,hfd,o7,o8,rfl⟩
       have e:fdf (fl i ps).reverse (fl i qs).reverse=none:=by
        rw [hfd,hrl,hrm]
        simp only [List.length_reverse] at *
        rw [List.drop_eq_nil_of_le (by simp;omega)]
        rfl
       rw [e] at hdue
       exact ⟨sm4.trans sm6,hdue,_,_,_,_,_,rfl⟩
     ·intro N hN
      walk_at "rd"
      refine ⟨_,.inl (SqL.of hx),_,.inl (SqL.of hy),?_⟩
      rw [lx,ly]
      refine Y7 (fun z=>⟨_,.inl (SqL.of hx),_,.inl (SqL.of hy),.inr ⟨_,.inl (SqL.of hx),_,.inl (SqL.of hy),.inr ?_⟩⟩) fun z=>hN _ _ ⟨rfl,Decidable.of_not_not fun y=>z fun w=>y (by unfold fl;omega),rfl⟩
      rw [lx,ly]
      have:=q H4 sm4
      rw [hdue,if_pos (fun w=>z (by unfold fl at w;omega))] at this
      exact this
    ·intro N hN
     walk_at "rd"
     refine Ud (K:=g.K) hpa.1 (fun p=>decide (p.1=(i:Int))) (fun R r=>by walk_at "rd";exact r a H3 (.refl _) (sm3.seq hA)) (by omega) ?_ ?_ ?_
     ·intro j x q0 H' hx hq sm R r
      obtain ⟨T,rfl,hT⟩:=hpa.2 j x q0 hx hq
      walk_at "rd"
      refine ⟨_,(sm3.trans sm).tup hT,_,YQ _ _,rfl,?_⟩
      rw [show decide (V.int q0.1=V.int (i:Int))=decide (q0.1=(i:Int)) from decide_eq_decide.mpr ⟨V.int.inj,fun z=>by rw [z]⟩]
      exact r H' (.refl H')
     ·intro j x q0 H' hx hq sm R r
      walk_at "rd"
      exact r H' (.refl H')
     intro D1 H4 hD1 sm4 hd1
     have s34:=sm3.trans sm4
     refine Ud (K:=g.K) hpb.1 (fun p=>decide (p.1=(i:Int))) (fun R r=>by walk_at "rd";exact r b H4 (.refl _) (s34.seq hB)) (by omega) ?_ ?_ ?_
     ·intro j x q0 H' hx hq sm R r
      obtain ⟨T,rfl,hT⟩:=hpb.2 j x q0 hx hq
      walk_at "rd"
      refine ⟨_,(s34.trans sm).tup hT,_,YQ _ _,rfl,?_⟩
      rw [show decide (V.int q0.1=V.int (i:Int))=decide (q0.1=(i:Int)) from decide_eq_decide.mpr ⟨V.int.inj,fun z=>by rw [z]⟩]
      exact r H' (.refl H')
     ·intro j x q0 H' hx hq sm R r
      walk_at "rd"
      exact r H' (.refl H')
     intro D2 H5 hD2 sm5 hd2
     exact hN _ _ ⟨D1,D2,s34.trans sm5,sm5 _ _ hd1,hd2,rfl⟩
   ·rintro σ H3 ⟨sm3,hdue,o4,o5,o6,o7,o8,rfl⟩
    walk_at "rd"
    have:=q H3 sm3
    rw [hdue] at this
    exact this
  ·intro N hN
   walk_at "rd"
   refine Y7 (fun z=>Yc4 ?_) fun z=>hN _ _ ⟨sm,Decidable.of_not_not z,rfl⟩
   have:=q H1 sm
   rw [due,if_pos z] at this
   exact this
 ·intro N hN
  walk_at "rd"
  have la:=hpa.1
  have lb:=hpb.1
  refine Vw (K:=g.K) (ps.map fun p=>(V.int p.1,V.int p.2)) (ps.map fun p=>V.int (1+p.1)) (fun R r=>by walk_at "rd";exact r) hA (Ue hpa) (by simp [la]) (by simp [la]) (by omega) ?_ ?_
  ·intro i p y H' h1 h2 sm R r
   rw [List.getElem?_map] at h1 h2
   obtain ⟨q0,hq,rfl⟩:=Option.map_eq_some_iff.mp h1
   rw [hq] at h2
   have:V.int (1+q0.1)=y:=Option.some.inj h2
   subst this
   walk_at "rd"
   exact r H' (.refl H')
  intro D1 H1 hD1 sm1 hd1
  refine ⟨D1,rfl,ps.map fun p=>1+p.1,SqL.of (by rw [List.map_map];exact hd1),?_⟩
  refine Vw (K:=g.K) (qs.map fun p=>(V.int p.1,V.int p.2)) (qs.map fun p=>V.int (1+p.1)) (fun R r=>by walk_at "rd";exact r) (sm1.seq hB) (Ue (YC.keep (K:=g.K) sm1 hpb)) (by simp [lb]) (by simp [lb]) (by omega) ?_ ?_
  ·intro i p y H' h1 h2 sm R r
   rw [List.getElem?_map] at h1 h2
   obtain ⟨q0,hq,rfl⟩:=Option.map_eq_some_iff.mp h1
   rw [hq] at h2
   have:V.int (1+q0.1)=y:=Option.some.inj h2
   subst this
   walk_at "rd"
   exact r H' (.refl H')
  intro D2 H2 hD2 sm2 hd2
  exact ⟨D2,rfl,qs.map fun p=>1+p.1,SqL.of (by rw [List.map_map];exact hd2),hN _ _ ⟨sm1.trans sm2,rfl⟩⟩
mutual
theorem Vd.eqv_self {H:Hp}:∀ {v:V} {d:PyData},Vd H v d→PyData.eqv d d=true
 | _,_,.non=>by simp [PyData.eqv]
 | _,_,.bl b=>by simp [PyData.eqv]
 | _,_,.int i=>by simp [PyData.eqv]
 | _,_,.str x h hl=>by simp [PyData.eqv]
 | _,_,.lst h hn hs=>by rw [PyData.eqv];exact hs.eqv_self
 | _,_,.tup h hn hs=>by rw [PyData.eqv];exact hs.eqv_self
theorem Vds.eqv_self {H:Hp}:∀ {vs:List V} {ds:List PyData},Vds H vs ds→PyData.eqvAll ds ds=true
 | _,_,.nil=>by simp [PyData.eqvAll]
 | _,_,.cons h hs=>by rw [PyData.eqvAll,h.eqv_self,hs.eqv_self];rfl
end
def Z0w (K:PySem.W.Frag):Sp:=fun vs H Q _=>∃ (x:V) (sh:Sh) (a b:Addr) (xs ys:List V) (ds es:List PyData) (k k':Ky),vs=[x,.ref a,.ref b,.int (cmpZ k k')]∧ShAt K H x sh∧H a=some (.lst xs)∧H b=some (.lst ys)∧xs.length≤63∧ys.length≤63∧Vds H xs ds∧Vds H ys es∧(PyData.list ds).depth≤60∧(PyData.list es).depth≤60∧Enf [] LV sh (.list ds)∧Enf [] LV sh (.list es)∧ky [] LV sh (.list ds)=some k∧ky [] LV sh (.list es)=some k'∧∀ H',Yc H H'→Q (.bl true) H'
theorem Qa {k:Nat}  (R:g.Raw "_law_asked" "_law_asked" ZX ["_law_shape","_law_one","_law_other","_law_due_here"]) (F_compared:g.Fn k "compared" ["book","shape","one","other"] (Z0V g.K)) (F_law_whole:g.Fn k "_law_whole" ["_law_found"] (Z0A)) (b_list:g.mg "list"=none):g.Fn (k+1) "_law_asked" ["_law_shape","_law_one","_law_other","_law_due_here"] (Z0w g.K):=by
 refine R.fn ZL (fun vs H Q E h=>by obtain ⟨x,sh,a,b,xs,ys,ds,es,k,k',rfl,hx,ha,hb,la,lb,hds,hes,dd,de,en1,en2,hk,hk',q⟩:=h;rfl) fun f_ cdv A outer s H vs Q E hr h=>?_
 obtain ⟨x,sh,a,b,xs,ys,ds,es,k,k',rfl,hx,ha,hb,la,lb,hds,hes,dd,de,en1,en2,hk,hk',q⟩:=h
 refine ⟨_,(@Yf _ _ _ _ _ (@Yt _ _ (4) _ _ _ _ ZL.nd rfl (.inl rfl) (@YF _ _ _ _ (@Ya _ _ _ _ _ (@Xp _ _ _ _ _ _ _ _ _ _ b_list WM (@Ya _ _ _ _ _ (pv 1) Yb (by rfl)) (by decide +kernel) (by rfl) (by rfl) (by decide) (by decide) (by rfl) (by rfl)) (@Ya _ _ _ _ _ (@Xp _ _ _ _ _ _ _ _ _ _ b_list WM (@Ya _ _ _ _ _ (pv 2) Yb (by rfl)) (by decide +kernel) (by rfl) (by rfl) (by decide) (by decide) (by rfl) (by rfl)) Yb (by rfl)) (by rfl))) (by rfl) (by first | exact .inl rfl | exact .inr rfl | assumption)) (@Yf _ _ _ _ _ (@Yt _ _ (5) _ _ _ _ ZL.nd rfl (.inl rfl) (@YA _ _ _ _ _ _ _ _ _ _ _ _ F_compared hr (@Ya _ _ _ _ _ (@YF _ _ _ _ Yb) (@Ya _ _ _ _ _ (pv 0) (@Ya _ _ _ _ _ (@Yk _ _ _ _ _ _ _ YO (pv 4) Ye (fun _ _=>rfl)) (@Ya _ _ _ _ _ (@Yk _ _ _ _ _ _ _ YO (pv 4) Ye (fun _ _=>rfl)) Yb (by rfl)) (by rfl)) (by rfl)) (Xu _ _ _ _)) (by omega) (by rfl) (by rfl) (by decide) (by rfl) (by rfl)) (by rfl) (by first | exact .inl rfl | exact .inr rfl | assumption)) (@Yg _ _ _ (@Yh _ _ _ _ (@Xy _ _ _ _ _ _ _ (@YA _ _ _ _ _ _ _ _ _ _ _ _ F_law_whole hr (@Ya _ _ _ _ _ (pv 5) Yb (by rfl)) (by omega) (by rfl) (by rfl) (by decide) (by rfl) (by rfl)) (@Xy _ _ _ _ _ _ _ (@YU _ _ _ _ _ _ _ _ YG (pv 5) (pv 3) (Yj _)) (@XU _ _ _ _ _ (@YU _ _ _ _ _ _ _ _ (UI hr.units) (pv 4) (@YF _ _ _ _ (@Ya _ _ _ _ _ (pv 1) (@Ya _ _ _ _ _ (pv 2) Yb (by rfl)) (by rfl))) (Yj _))))))))),?_⟩
 walk_at "rd"
 refine ⟨xs,.inl (SqL.of ha),fun l1 g1=>⟨ys,.inl (SqL.of ((Yc.upd_new g1 _) _ _ hb)),fun l2 g2=>⟨few (by decide),fun l3 g3=>⟨few (by decide),fun l4 g4=>?_⟩⟩⟩⟩
 have t1:=Yc.upd_new g1 (.lst xs)
 have t2:=Yc.upd_new g2 (.lst ys)
 have t3:=Yc.upd_new g3 (.lst [.ref l1,.ref l2])
 have t4:=Yc.upd_new g4 (.lst [])
 have tA:=((t1.trans t2).trans t3).trans t4
 have h3:=t4 _ _ (Yd (H:=upd (upd H l1 (.lst xs)) l2 (.lst ys)) (a:=l3) (o := .lst [.ref l1,.ref l2]))
 have h1:=((t2.trans t3).trans t4) _ _ (Yd (H:=H) (a:=l1) (o := .lst xs))
 have h2:=(t3.trans t4) _ _ (Yd (H:=upd H l1 (.lst xs)) (a:=l2) (o := .lst ys))
 have v1:Vd _ (.ref l1) (.list ds) := .lst h1 (by omega) (hds.keep tA)
 have v2:Vd _ (.ref l2) (.list es) := .lst h2 (by omega) (hes.keep tA)
 refine ⟨_,SqL.of h3,_,YQ _ _,_,SqL.of h3,_,YX _ _,[],.ref l4,x,.ref l1,.ref l2,sh,.list ds,.list es,k,k',rfl,⟨l4,[],[],rfl,SqL.of Yd,⟨rfl,rfl,fun j a m v h=>by simp at h⟩,.nil⟩,hx.keep tA,en1,en2,v1,v2,hk,hk',fun H5 s5=>⟨_,rfl,true,rfl,Wi ⟨rfl,XE rfl ⟨few (by decide),fun l6 g6=>?_⟩⟩⟩⟩
 have t6:=Yc.upd_new g6 (.lst [.ref a,.ref b])
 have tB:=(tA.trans s5).trans t6
 have w1:Vd _ (.ref a) (.list ds) := .lst (tB _ _ ha) (by omega) (hds.keep tB)
 have w2:Vd _ (.ref b) (.list es) := .lst (tB _ _ hb) (by omega) (hes.keep tB)
 have d1:Vd _ (.ref l3) (.list [.list ds,.list es]) := .lst ((s5.trans t6) _ _ h3) (by simp) (.cons (v1.keep (s5.trans t6)) (.cons (v2.keep (s5.trans t6)) .nil))
 have d2:Vd _ (.ref l6) (.list [.list ds,.list es]) := .lst Yd (by simp) (.cons w1 (.cons w2 .nil))
 refine ⟨_,d1.den,_,d2.den,?_,?_⟩
 ·simp only [PyData.depth,PyData.depthAll] at dd de ⊢
  omega
 ·rw [d1.eqv_self]
  exact q _ tB
def kth:Pt→Int×Int→Ky
 | .who lo,p=>(p.1.toNat,[.int (lo+off p.1+p.2)])
 | .txt _,p=>(p.1.toNat,(fd p.1.toNat p.2.toNat).map fun d:Nat => .int (d:Int))
theorem Wg (pt:Pt) (p:Int×Int):(kth pt p).1=p.1.toNat:=by cases pt<;>rfl
theorem YcA:∀ j:Nat,j<4→∀ d:Nat,d<3→Txt.find (S (sgs j)) (S [(sgs j).getD d 0])=(d:Int):=by decide +kernel
theorem Yc5:∀ j:Nat,j<4→∀ d:Nat,d<3→(sgs j).getD d 0∈sgs j:=by decide +kernel
theorem YbG {pt:Pt} {p:Int×Int} {n:Nat} (hpt:pt.ok) (h:Y1 pt p):ky [] (n+1) pt.sh (YJ pt p)=some (kth pt p):=by
 obtain ⟨h0,h3,h4,h5⟩:=h
 cases pt with
 | who lo =>
  have hs:p.1=0∨p.1=1∨p.1=2∨p.1=3:=by omega
  have hb:off p.1+p.2≤7∧0≤off p.1+p.2∧Builtin.Int.intBits (off p.1+p.2)=p.1.toNat:=by
   obtain ⟨s,q⟩:=p
   dsimp only at hs h4 h5 ⊢
   rcases hs with rfl | rfl | rfl | rfl
   ·have:q=0:=by simp [wid] at h5;omega
    subst this;decide
   ·have:q=0:=by simp [wid] at h5;omega
    subst this;decide
   ·have:q=0∨q=1:=by simp [wid] at h5;omega
    rcases this with rfl | rfl<;>decide
   ·have:q=0∨q=1∨q=2∨q=3:=by simp [wid] at h5;omega
    rcases this with rfl | rfl | rfl | rfl<;>decide
  have hf:(YM (Pt.who lo).sh (YJ (.who lo) p)&&fnd [] (Pt.who lo).sh (YJ (.who lo) p))=true:=by
   show ((decide (lo≤lo+off p.1+p.2)&&decide (lo+off p.1+p.2≤lo+7))&&true)=true
   rw [decide_eq_true (by omega),decide_eq_true (by omega)]
   rfl
  rw [ky,if_pos hf]
  show some (Builtin.Int.intBits (lo+off p.1+p.2 - lo),_)=_
  rw [show lo+off p.1+p.2 - lo=off p.1+p.2 by omega,hb.2.2]
  rfl
 | txt j =>
  have hj:j<4:=hpt
  have hf:(YM (Pt.txt j).sh (YJ (.txt j) p)&&fnd [] (Pt.txt j).sh (YJ (.txt j) p))=true:=by
   show (((S (tx j p.1.toNat p.2.toNat)).cps.toList.all fun c=>decide (c∈sgs j))&&true)=true
   rw [XD,Bool.and_true,List.all_eq_true]
   intro c hc
   obtain ⟨d,hd,rfl⟩:=List.mem_map.mp hc
   exact decide_eq_true (Yc5 j hj d (Uv _ _ d hd))
  rw [ky,if_pos hf]
  show some ((S (tx j p.1.toNat p.2.toNat)).length,(S (tx j p.1.toNat p.2.toNat)).cps.toList.map fun c=>PyData.int (Txt.find (S (sgs j)) (S [c])))=_
  rw [Uq,XD]
  show some ((tx j p.1.toNat p.2.toNat).length,_)=some (p.1.toNat,(fd p.1.toNat p.2.toNat).map fun d:Nat=>PyData.int (d:Int))
  rw [tx,List.length_map,Vv,List.map_map]
  congr 2
  refine List.map_congr_left fun d hd=>?_
  show PyData.int (Txt.find (S (sgs j)) (S [(sgs j).getD d 0]))=_
  rw [YcA j hj d (Uv _ _ d hd)]
def lxl:List Nat→List Nat→Bool
 | a::as,b::bs=>decide (a<b)||(decide (a=b)&&lxl as bs)
 | [],_::_=>true
 | _,[]=>false
theorem QP:∀ {as bs:List Nat},lxl as bs=true→KLs (as.map fun d:Nat=>PyData.int (d:Int)) (bs.map fun d:Nat=>PyData.int (d:Int))
 | [],[],h=>by cases h
 | [],_::_,_ => .nil
 | _::_,[],h=>by cases h
 | a::as,b::bs,h=>by
  unfold lxl at h
  rcases Bool.or_eq_true _ _ |>.mp h with h | h
  ·exact .here (.int (by have:=of_decide_eq_true h;omega))
  ·rw [Bool.and_eq_true] at h
   have:=of_decide_eq_true h.1
   subst this
   exact .there (QP h.2)
theorem fd_lx:∀ s:Nat,s<4→∀ q:Nat,q<27→q<3^s→∀ p:Nat,p<q→lxl (fd s p) (fd s q)=true:=by decide +kernel
theorem Vx {pt:Pt} {p q:Int×Int} (hp:Y1 pt p) (hq:Y1 pt q) (h:p.1<q.1∨p.1=q.1∧p.2<q.2):KLt (kt (kth pt p)) (kt (kth pt q)):=by
 obtain ⟨a0,a3,a4,a5⟩:=hp
 obtain ⟨b0,b3,b4,b5⟩:=hq
 rcases h with h | ⟨h,h'⟩
 ·refine .tup (.here ?_)
  rw [Wg,Wg]
  exact .int (by omega)
 ·obtain ⟨p1,p2⟩:=p
  obtain ⟨q1,q2⟩:=q
  dsimp only at h h' a0 a3 a4 a5 b0 b3 b4 b5
  subst h
  cases pt with
  | who lo=>exact .tup (.there (.here (.int (by dsimp only;omega))))
  | txt j =>
   refine .tup (.there (QP (fd_lx p1.toNat (by omega) q2.toNat ?_ ?_ p2.toNat (by omega))))
   ·have hs:p1=0∨p1=1∨p1=2∨p1=3:=by omega
    rcases hs with rfl | rfl | rfl | rfl<;>simp [wid] at b5<;>omega
   ·have hs:p1=0∨p1=1∨p1=2∨p1=3:=by omega
    rcases hs with rfl | rfl | rfl | rfl<;>simp [wid] at b5<;>simp<;>omega
def C3 (r:Int) (A B:List PyData):Prop:=r=0∧A=B∨r = -1∧KLs A B∨r=1∧KLs B A
theorem C3.cons {r:Int} {A B:List PyData} (d:PyData) (h:C3 r A B):C3 r (d::A) (d::B):=by
 rcases h with ⟨h,e⟩ | ⟨h,e⟩ | ⟨h,e⟩
 ·exact .inl ⟨h,by rw [e]⟩
 ·exact .inr (.inl ⟨h,.there e⟩)
 ·exact .inr (.inr ⟨h,.there e⟩)
theorem C3.app {r:Int} {A B:List PyData} (h:C3 r A B):∀ P:List PyData,C3 r (P++A) (P++B)
 | []=>h
 | d::P=>(h.app P).cons d
def rzI (pt:Pt) (ss:List Int) (ps:List (Int×Int)):List PyData:=ss.flatMap fun s=>blk ((fl s ps).map (kth pt))
theorem WU {pt:Pt} {s:Int} {ps:List (Int×Int)} (hs:∀ p∈ps,Y1 pt p) (h:fl s ps≠[]):blk ((fl s ps).map (kth pt)) = .int (-s) :: .int (((fl s ps).length:Nat):Int)::((fl s ps).reverse.map fun p=>kt (kth pt p)):=by
 have hm:∀ p∈fl s ps,p.1=s∧Y1 pt p:=fun p hp=>⟨of_decide_eq_true (List.mem_filter.mp hp).2,hs p (List.mem_filter.mp hp).1⟩
 cases e:fl s ps with
 | nil=>exact (h e).elim
 | cons p F =>
  have hp:=hm p (by rw [e];exact .head _)
  rw [List.map_cons,blk,Wg]
  have h0:=hp.2.1
  rw [show -((p.1.toNat:Nat):Int) = -s by have:=hp.1;omega,List.length_map,← List.map_cons,List.map_map,← List.map_reverse]
  rfl
theorem QQ {pt:Pt} {ps:List (Int×Int)} (hs:∀ p∈ps,Y1 pt p):∀ (ss:List Int),rzI pt ss ps=[]∨∃ s∈ss,∃ tl,rzI pt ss ps = .int (-s)::tl
 | [] => .inl rfl
 | s::ss=>by
  have e:rzI pt (s::ss) ps=blk ((fl s ps).map (kth pt))++rzI pt ss ps:=List.flatMap_cons
  by_cases c:fl s ps=[]
  ·rw [e,c]
   rcases QQ hs ss with h | ⟨s',hs',tl,h⟩
   ·exact .inl h
   ·exact .inr ⟨s',.tail _ hs',tl,h⟩
  ·rw [e,WU hs c]
   exact .inr ⟨s,.head _,_,rfl⟩
theorem Ybc {pt:Pt} {s:Int} {X Y:List PyData}:∀ {as bs:List (Int×Int)},as.length=bs.length→(∀ p∈as,p.1=s∧Y1 pt p)→(∀ p∈bs,p.1=s∧Y1 pt p)→(match fdf as bs with | some r=>C3 r (as.map (fun p=>kt (kth pt p))++X) (bs.map (fun p=>kt (kth pt p))++Y) | none=>as=bs)
 | [],[],_,_,_=>rfl
 | [],_::_,h,_,_=>by cases h
 | _::_,[],h,_,_=>by cases h
 | x::as,y::bs,hl,h1,h2=>by
  have ih:=Ybc (X:=X) (Y:=Y) (Nat.succ.inj hl) (fun p hp=>h1 p (.tail _ hp)) fun p hp=>h2 p (.tail _ hp)
  obtain ⟨x1,xs⟩:=h1 x (.head _)
  obtain ⟨y1,ys⟩:=h2 y (.head _)
  unfold fdf
  by_cases c:x=y
  ·subst c
   rw [if_neg (fun z=>z rfl)]
   cases e:fdf as bs with
   | none=>rw [e] at ih;exact congrArg (x::·) ih
   | some r=>rw [e] at ih;exact ih.cons _
  ·rw [if_pos c]
   have hne:x.2≠y.2:=fun z=>c (Prod.ext (x1.trans y1.symm) z)
   show C3 (sg x.2 y.2) _ _
   rcases Int.lt_trichotomy x.2 y.2 with h | h | h
   ·exact .inr (.inl ⟨by unfold sg;rw [if_neg (by omega),if_pos h];rfl,.here (Vx xs ys (.inr ⟨x1.trans y1.symm,h⟩))⟩)
   ·exact (hne h).elim
   ·exact .inr (.inr ⟨by unfold sg;rw [if_pos h,if_neg (by omega)];rfl,.here (Vx ys xs (.inr ⟨y1.trans x1.symm,h⟩))⟩)
theorem QR {pt:Pt} {ps qs:List (Int×Int)} (hp:∀ p∈ps,Y1 pt p) (hq:∀ p∈qs,Y1 pt p):∀ (ss:List Int),ss.Pairwise (·<·)→C3 (VM ss ps qs) (rzI pt ss ps) (rzI pt ss qs)
 | [],_ => .inl ⟨rfl,rfl⟩
 | s::ss,hss=>by
  have hs':=(List.pairwise_cons.mp hss)
  have ih:=QR hp hq ss hs'.2
  have ep:rzI pt (s::ss) ps=blk ((fl s ps).map (kth pt))++rzI pt ss ps:=List.flatMap_cons
  have eq:rzI pt (s::ss) qs=blk ((fl s qs).map (kth pt))++rzI pt ss qs:=List.flatMap_cons
  have less:∀ {ps qs:List (Int×Int)},(∀ p∈ps,Y1 pt p)→(∀ p∈qs,Y1 pt p)→(fl s ps).length<(fl s qs).length→KLs (blk ((fl s ps).map (kth pt))++rzI pt ss ps) (blk ((fl s qs).map (kth pt))++rzI pt ss qs):=fun {ps qs} hp hq hl=>by
   have hqn:fl s qs≠[]:=fun e=>by rw [e] at hl;cases hl
   rw [WU hq hqn]
   by_cases c:fl s ps=[]
   ·rw [c]
    show KLs (rzI pt ss ps) _
    rcases QQ hp ss with h | ⟨s2,hs2,tl,h⟩
    ·rw [h];exact .nil
    ·rw [h]
     have:=hs'.1 s2 hs2
     exact .here (.int (by omega))
   ·rw [WU hp c]
    exact .there (.here (.int (by omega)))
  rw [ep,eq,VM]
  by_cases c:(fl s ps).length=(fl s qs).length
  ·rw [if_neg (fun z=>z c)]
   by_cases c0:fl s ps=[]
   ·have c1:fl s qs=[]:=by rw [c0] at c;exact List.eq_nil_of_length_eq_zero c.symm
    rw [c0,c1]
    exact ih
   ·have c1:fl s qs≠[]:=fun e=>by rw [e] at c;exact c0 (List.eq_nil_of_length_eq_zero c)
    rw [WU hp c0,WU hq c1,c]
    have hf:=Ybc (pt:=pt) (s:=s) (X:=rzI pt ss ps) (Y:=rzI pt ss qs) (as:=(fl s ps).reverse) (bs:=(fl s qs).reverse) (by simp [c]) (fun p h=>by
     have:=List.mem_filter.mp (List.mem_reverse.mp h)
     exact ⟨of_decide_eq_true this.2,hp p this.1⟩) (fun p h=>by
     have:=List.mem_filter.mp (List.mem_reverse.mp h)
     exact ⟨of_decide_eq_true this.2,hq p this.1⟩)
    cases e:fdf (fl s ps).reverse (fl s qs).reverse with
    | some r=>rw [e] at hf;exact (hf.cons _).cons _
    | none =>
     rw [e] at hf
     dsimp only at hf ⊢
     rw [hf]
     exact ((ih.app _).cons _).cons _
  ·rw [if_pos c]
   rcases Nat.lt_or_gt_of_ne c with h | h
   ·exact .inr (.inl ⟨by unfold sg;rw [if_neg (by omega),if_pos (by omega)];rfl,less hp hq h⟩)
   ·exact .inr (.inr ⟨by unfold sg;rw [if_pos (by omega),if_neg (by omega)];rfl,less hq hp h⟩)
theorem Vy {α:Type} {f:α→Nat} {a:Nat}:∀ {ps:List α},ps.Pairwise (fun x y=>f x≤f y)→(∀ p∈ps,a≤f p)→ps=ps.filter (fun p=>decide (f p=a))++ps.filter (fun p => !decide (f p=a))
 | [],_,_=>rfl
 | x::ps,hw,ha=>by
  obtain ⟨h1,h2⟩:=List.pairwise_cons.mp hw
  have ih:=Vy (a:=a) h2 fun p hp=>ha p (.tail _ hp)
  by_cases c:f x=a
  ·rw [List.filter_cons_of_pos (by simp [c]),List.filter_cons_of_neg (by simp [c]),List.cons_append,← ih]
  ·have hx:=ha x (.head _)
   have e:ps.filter (fun p=>decide (f p=a))=[]:=List.filter_eq_nil_iff.mpr fun p hp=>by
    have:=h1 p hp
    simp;omega
   rw [e,List.nil_append] at ih
   rw [List.filter_cons_of_neg (by simp [c]),List.filter_cons_of_pos (by simp [c]),e,List.nil_append,← ih]
theorem QS {α:Type} {f:α→Nat} {a:Nat} {R:List α} (hR:∀ x∈R,f x≠a):∀ {P:List α},P≠[]→(∀ x∈P,f x=a)→grp f (P++R)=P::grp f R
 | [],h,_=>(h rfl).elim
 | [x],_,hP=>by
  have hx:=hP x (.head _)
  show grp f (x::R)=_
  have hfl:=Xk (f:=f) R
  rw [grp]
  cases e:grp f R with
  | nil=>rfl
  | cons g gs =>
   cases g with
   | nil=>rfl
   | cons y g =>
    rw [e] at hfl
    have hy:y∈R:=by rw [← hfl];simp
    show (if f y=f x then _ else _)=_
    rw [if_neg (fun z=>hR y hy (z.trans hx))]
 | x::x'::P,_,hP=>by
  have ih:=QS hR (P:=x'::P) (by simp) fun y hy=>hP y (.tail _ hy)
  have e1:=hP x (.head _)
  have e2:=hP x' (.tail _ (.head _))
  show grp f (x::(x'::P++R))=_
  rw [grp,ih]
  show (if f x'=f x then _ else _)=_
  rw [if_pos (e2.trans e1.symm)]
theorem Ybd {α:Type} {f:α→Nat} {β:Type} {B:List α→List β} (hB:B []=[]):∀ (n a:Nat) (ps:List α),ps.Pairwise (fun x y=>f x≤f y)→(∀ p∈ps,a≤f p∧f p<a+n)→(grp f ps).flatMap B=(List.range' a n).flatMap fun s=>B (ps.filter fun p=>decide (f p=s))
 | 0,a,ps,_,h=>by
  have:ps=[]:=by
   cases ps with
   | nil=>rfl
   | cons p ps=>have:=h p (.head _);omega
  subst this
  rfl
 | n+1,a,ps,hw,h=>by
  have hsp:=Vy (a:=a) hw fun p hp=>(h p hp).1
  have hRm:∀ p∈ps.filter (fun p => !decide (f p=a)),p∈ps∧f p≠a:=fun p hp=>by
   have:=List.mem_filter.mp hp
   exact ⟨this.1,by simpa using this.2⟩
  have hPm:∀ p∈ps.filter (fun p=>decide (f p=a)),f p=a:=fun p hp=>of_decide_eq_true (List.mem_filter.mp hp).2
  have ih:=Ybd hB n (a+1) (ps.filter (fun p => !decide (f p=a))) (hw.filter _) fun p hp=>by
   have h1:=hRm p hp
   have h2:=h p h1.1
   omega
  have ef:∀ s,a+1≤s→ps.filter (fun p=>decide (f p=s))=(ps.filter (fun p => !decide (f p=a))).filter fun p=>decide (f p=s):=fun s hs=>by
   rw [List.filter_filter]
   refine List.filter_congr fun p hp=>?_
   by_cases c:f p=s
   ·have:f p≠a:=by omega
    simp [c];omega
   ·simp [c]
  rw [List.range'_succ,List.flatMap_cons]
  have e2:(List.range' (a+1) n).flatMap (fun s=>B (ps.filter fun p=>decide (f p=s)))=(List.range' (a+1) n).flatMap fun s=>B ((ps.filter (fun p => !decide (f p=a))).filter fun p=>decide (f p=s)):=by
   rw [List.flatMap_def,List.flatMap_def]
   congr 1
   refine List.map_congr_left fun s hs=>?_
   rw [ef s (List.mem_range'_1.mp hs).1]
  rw [e2,← ih]
  by_cases c:ps.filter (fun p=>decide (f p=a))=[]
  ·rw [c,List.nil_append] at hsp
   rw [c,hB,List.nil_append]
   exact congrArg (fun l=>(grp f l).flatMap B) hsp
  ·conv=>lhs;rw [hsp]
   rw [QS (fun p hp=>(hRm p hp).2) c hPm,List.flatMap_cons]
theorem Ybe {pt:Pt} {ps:List (Int×Int)} (h:SpL pt ps):ris (ps.map (kth pt))=rzI pt [0,1,2,3] ps:=by
 obtain ⟨_,hw,hs⟩:=h
 unfold ris
 rw [VI (f:=fun k:Ky=>k.1) (kth pt),List.flatMap_map]
 have hpw:ps.Pairwise (fun x y=>(kth pt x).1≤(kth pt y).1):=hw.imp_of_mem fun {x y} hx hy h=>by
  rw [Wg,Wg]
  rcases h with h | h<;>omega
 rw [Ybd (B:=fun g=>blk (g.map (kth pt))) rfl 4 0 ps hpw fun p hp=>by
  have h1:=hs p hp
  have h2:=h1.1
  have h3:=h1.2.1
  rw [Wg];omega]
 unfold rzI
 have ef:∀ s:Nat,ps.filter (fun p=>decide ((kth pt p).1=s))=fl (s:Int) ps:=fun s=>by
  unfold fl
  refine List.filter_congr fun p hp=>decide_eq_decide.mpr ?_
  have h1:=(hs p hp).1
  rw [Wg]
  omega
 show ([0,1,2,3]:List Nat).flatMap _=_
 simp only [List.flatMap_cons,List.flatMap_nil,ef]
 rfl
noncomputable def keyL (pt:Pt) (ps:List (Int×Int)):Ky:=((ps.map (kth pt)).length+((ps.map (kth pt)).map (·.1)).sum,ris (ps.map (kth pt)))
theorem Ve {pt:Pt}:∀ {ps:List (Int×Int)},(∀ p∈ps,Y1 pt p)→(((ps.map (kth pt)).length+((ps.map (kth pt)).map (·.1)).sum:Nat):Int)=tot ps
 | [],_=>rfl
 | p::ps,h=>by
  have ih:=Ve (pt:=pt) fun q hq=>h q (.tail _ hq)
  have h0:=(h p (.head _)).1
  unfold tot at ih ⊢
  simp only [List.map_cons,List.length_cons,List.sum_cons,Wg]
  omega
theorem YcB {pt:Pt} {ps qs:List (Int×Int)} (hp:SpL pt ps) (hq:SpL pt qs):cmpZ (keyL pt ps) (keyL pt qs)=due ps qs:=by
 have tp:=Ve hp.2.2
 have tq:=Ve hq.2.2
 unfold due
 by_cases c:tot ps=tot qs
 ·rw [if_neg (fun z=>z c)]
  have h:=QR hp.2.2 hq.2.2 [0,1,2,3] (by decide)
  rw [← Ybe hp,← Ybe hq] at h
  have e1:(keyL pt ps).1=(keyL pt qs).1:=by unfold keyL;dsimp only;omega
  rcases h with ⟨h,e⟩ | ⟨h,e⟩ | ⟨h,e⟩
  ·rw [h,show keyL pt ps=keyL pt qs from Prod.ext e1 e,Wc]
  ·rw [h]
   refine WT (.tup ?_)
   rw [e1]
   exact .there e
  ·rw [h]
   refine Vu (.tup ?_)
   rw [e1]
   exact .there e
 ·rw [if_pos c]
  rcases Int.lt_or_gt_of_ne c with h | h
  ·rw [YbE (by show ((ps.map (kth pt)).length+((ps.map (kth pt)).map (·.1)).sum)<((qs.map (kth pt)).length+((qs.map (kth pt)).map (·.1)).sum);omega)]
   unfold sg;rw [if_neg (by omega),if_pos h];rfl
  ·rw [Vu (.tup (.here (.int (by show ((((qs.map (kth pt)).length+((qs.map (kth pt)).map (·.1)).sum):Nat):Int)<((((ps.map (kth pt)).length+((ps.map (kth pt)).map (·.1)).sum):Nat):Int);omega))))]
   unfold sg;rw [if_pos h,if_neg (by omega)];rfl
theorem W7 {pt:Pt} (hpt:pt.ok) {n:Nat}:∀ {ps:List (Int×Int)},(∀ p∈ps,Y1 pt p)→((ps.map (YJ pt)).map fun d=>(pt.sh,d)).mapM (fun w=>ky [] (n+1) w.1 w.2)=some (ps.map (kth pt))
 | [],_=>rfl
 | p::ps,h=>by
  rw [List.map_cons,List.map_cons,List.mapM_cons,W7 hpt fun q hq=>h q (.tail _ hq)]
  dsimp only
  rw [YbG hpt (h p (.head _))]
  rfl
theorem QT {pt:Pt} (hpt:pt.ok) {n:Nat} {ps:List (Int×Int)} (h:SpL pt ps) {c:LK} (hc:c = .rising∨c = .unlike∧ps.Nodup):ky [] (n+2) (.lst c pt.sh) (.list (ps.map (YJ pt)))=some (keyL pt ps):=by
 obtain ⟨hl,hw,hs⟩:=h
 have hpair:∀ (i:Nat) a b,(ps.map (kth pt))[i]?=some a→(ps.map (kth pt))[i+1]?=some b→∃ p q,p∈ps∧q∈ps∧a=kth pt p∧b=kth pt q∧pLe p q∧(ps.Nodup→p≠q):=fun i a b h1 h2=>by
  rw [List.getElem?_map] at h1 h2
  obtain ⟨p,hp,rfl⟩:=Option.map_eq_some_iff.mp h1
  obtain ⟨q,hq,rfl⟩:=Option.map_eq_some_iff.mp h2
  obtain ⟨i1,rfl⟩:=List.getElem?_eq_some_iff.mp hp
  obtain ⟨i2,rfl⟩:=List.getElem?_eq_some_iff.mp hq
  exact ⟨_,_,List.getElem_mem _,List.getElem_mem _,rfl,rfl,List.pairwise_iff_getElem.mp hw _ _ _ _ (by omega),fun hn=>List.pairwise_iff_getElem.mp hn _ _ _ _ (by omega)⟩
 rw [ky,if_pos (show (YM (.lst c pt.sh) (.list (ps.map (YJ pt)))&&fnd [] (.lst c pt.sh) (.list (ps.map (YJ pt))))=true from rfl)]
 show (((ps.map (YJ pt)).map fun d=>(pt.sh,d)).mapM (fun w=>ky [] (n+1) w.1 w.2)).bind _=_
 rw [W7 hpt hs,Option.bind_some]
 rcases hc with rfl | ⟨rfl,hn⟩
 ·refine if_pos (VJ.mpr fun i a b h1 h2 hlt=>?_)
  obtain ⟨p,q,hp,hq,rfl,rfl,hle,_⟩:=hpair i a b h1 h2
  by_cases e:p=q
  ·subst e;exact hlt.irr rfl
  ·refine (hlt.trans (Vx (hs p hp) (hs q hq) ?_)).irr rfl
   rcases hle with h | ⟨h,h'⟩
   ·exact .inl h
   ·refine .inr ⟨h,?_⟩
    have:p.2≠q.2:=fun z=>e (Prod.ext h z)
    omega
 ·refine if_pos (VJ.mpr fun i a b h1 h2=>?_)
  obtain ⟨p,q,hp,hq,rfl,rfl,hle,hne⟩:=hpair i a b h1 h2
  refine Vx (hs p hp) (hs q hq) ?_
  rcases hle with h | ⟨h,h'⟩
  ·exact .inl h
  ·refine .inr ⟨h,?_⟩
   have:p.2≠q.2:=fun z=>hne hn (Prod.ext h z)
   omega
theorem XM {pt:Pt} {ps:List (Int×Int)} {c:LK}:Enf [] LV (.lst c pt.sh) (.list (ps.map (YJ pt))):=by
 show YM _ _=true→_∧_
 intro _
 refine ⟨trivial,fun w hw=>?_⟩
 obtain ⟨d,_,rfl⟩:=List.mem_map.mp (show w∈(ps.map (YJ pt)).map fun d=>(pt.sh,d) from hw)
 show YM _ _=true→_∧_
 intro _
 cases pt with
 | who lo=>exact ⟨trivial,fun w hw=>by rw [show (Pt.who lo).sh = .whole lo (lo+7) from rfl,WS] at hw;cases hw⟩
 | txt j=>exact ⟨trivial,fun w hw=>by rw [show (Pt.txt j).sh = .text (sgs j) from rfl,W6] at hw;cases hw⟩
theorem Xq {pt:Pt} {ps:List (Int×Int)}:(PyData.list (ps.map (YJ pt))).depth≤60:=by
 have:PyData.depthAll (ps.map (YJ pt))≤1:=V4 fun d hd=>by
  obtain ⟨p,_,rfl⟩:=List.mem_map.mp hd
  cases pt<;>simp [YJ,PyData.depth]
 simp only [PyData.depth]
 omega
theorem Wk.shAt {K:PySem.W.Frag} {H:Hp} {v:V} {pt:Pt} (h:Wk K H v pt):ShAt K H v pt.sh∧pt.ok:=by
 cases pt with
 | who lo=>obtain ⟨a,rfl,h⟩:=h;exact ⟨.whole h,trivial⟩
 | txt j =>
  obtain ⟨a,rfl,h,hj⟩:=h
  refine ⟨.text h ?_,hj⟩
  have:j=0∨j=1∨j=2∨j=3:=by omega
  rcases this with rfl | rfl | rfl | rfl<;>decide
theorem QU {pt:Pt} {p:Int×Int} {H:Hp} {x:V} (h:Vd H x (YJ pt p)) (H':Hp):Vd H' x (YJ pt p):=by
 cases pt with
 | who lo=>cases h;exact .int _
 | txt j =>
  generalize e:YJ (.txt j) p=d at h
  cases h with
  | str l h hl=>exact .str l h hl
  | _=>simp [YJ] at e
theorem Qb {pt:Pt} {H:Hp}:∀ {ys:List V} {ps:List (Int×Int)},ys.length=ps.length→(∀ (j:Nat) y,ys[j]?=some y→∀ H p,ps[j]?=some p→Vd H y (YJ pt p))→Vds H ys (ps.map (YJ pt))
 | [],[],_,_ => .nil
 | [],_::_,h,_=>by cases h
 | _::_,[],h,_=>by cases h
 | y::ys,p::ps,hl,h => .cons (h 0 y rfl H p rfl) (Qb (Nat.succ.inj hl) fun j y hy H q hq=>h (j+1) y (by simpa using hy) H q (by simpa using hq))
theorem YcC {k k':Ky} (h:KD (kt k)) (h':KD (kt k')):cmpZ k' k=0 - cmpZ k k':=by
 rcases Uc h h' with ⟨rfl,e,_⟩ | ⟨_,_,e1,e2⟩ | ⟨_,_,e1,e2⟩
 ·rw [e];rfl
 ·rw [e1,e2];rfl
 ·rw [e1,e2];rfl
theorem YbH {k:Nat}  (Z7:g.Fn k "_law_cell_at" ["_law_script","_law_k"] (Z9 g.K)) (F_law_part:g.Fn k "_law_part" ["_law_script"] (Z0F g.K)) (Z0X:g.Fn k "_law_thing" ["_law_part_here","_law_spot_here"] (Z0u g.K)) (F_law_spots:g.Fn k "_law_spots" ["_law_part_here","_law_script"] (Z0v g.K)) (Z16:g.Fn k "_law_once" ["_law_spots_here"] (Z0H g.K)) (F_law_due:g.Fn k "_law_due" ["_law_one","_law_other"] (Z0W g.K)) (ZY:g.Fn k "_law_asked" ["_law_shape","_law_one","_law_other","_law_due_here"] (Z0w g.K)):Q8 g k ["_law_script","_law_part_here","_law_one","_law_other","_law_shape","_law_due_here","_law_near","_law_far"] "law" Us (Vm g.K):=by
 refine fun f_ cdv A outer s H vs Q E hr h=>?_
 obtain ⟨a,ns,rfl,hS,hl,q⟩:=h
 refine ⟨_,(@Yf _ _ _ _ _ (@Yt _ _ (1) _ _ _ _ Xj.nd rfl (.inr rfl) (@YA _ _ _ _ _ _ _ _ _ _ _ _ F_law_part hr (@Ya _ _ _ _ _ (pv 0) Yb (by rfl)) (by omega) (by rfl) (by rfl) (by decide) (by rfl) (by rfl)) (by rfl) (by first | exact .inl rfl | exact .inr rfl | assumption)) (@Yf _ _ _ _ _ (@Yar _ _ _ _ _ _ (@YA _ _ _ _ _ _ _ _ _ _ _ _ F_law_spots hr (@Ya _ _ _ _ _ (pv 1) (@Ya _ _ _ _ _ (pv 0) Yb (by rfl)) (by rfl)) (by omega) (by rfl) (by rfl) (by decide) (by rfl) (by rfl)) (@Xz _ _ _ _ _ (2) rfl (@YK _ _ _ _ _ (@Yp _ _ (2) _ Xj.nd rfl (.inl rfl) (by first | exact .inl rfl | exact .inr rfl | assumption)) (@YK _ _ _ _ _ (@Yp _ _ (3) _ Xj.nd rfl (.inl rfl) (by first | exact .inl rfl | exact .inr rfl | assumption)) Xm (by rfl)) (by rfl)) (by rfl) (by rfl)) (by rfl) (by rfl) (by rfl)) (@Yf _ _ _ _ _ (@Yt _ _ (4) _ _ _ _ Xj.nd rfl (.inl rfl) (@Y2 _ _ _ _ _ (@Ya _ _ _ _ _ YE (@Ya _ _ _ _ _ (pv 1) Yb (by rfl)) (by rfl))) (by rfl) (by first | exact .inl rfl | exact .inr rfl | assumption)) (@Yf _ _ _ _ _ (@YD _ _ _ _ _ _ _ _ (@Yo _ _ _ _ _ _ _ _ YG (@Yw _ _ _ _ _ _ _ _ Xh (@YA _ _ _ _ _ _ _ _ _ _ _ _ Z7 hr (@Ya _ _ _ _ _ (pv 0) (@Ya _ _ _ _ _ Ye Yb (by rfl)) (by rfl)) (by omega) (by rfl) (by rfl) (by decide) (by rfl) (by rfl)) Ye) Ye (Yj _)) (@Yf _ _ _ _ _ (@Yt _ _ (4) _ _ _ _ Xj.nd rfl (.inl rfl) (@Y2 _ _ _ _ _ (@Ya _ _ _ _ _ YE (@Ya _ _ _ _ _ (pv 1) Yb (by rfl)) (by rfl))) (by rfl) (by first | exact .inl rfl | exact .inr rfl | assumption)) (@Yf _ _ _ _ _ (@Yt _ _ (2) _ _ _ _ Xj.nd rfl (.inl rfl) (@YA _ _ _ _ _ _ _ _ _ _ _ _ Z16 hr (@Ya _ _ _ _ _ (pv 2) Yb (by rfl)) (by omega) (by rfl) (by rfl) (by decide) (by rfl) (by rfl)) (by rfl) (by first | exact .inl rfl | exact .inr rfl | assumption)) (@Yg _ _ _ (@Yt _ _ (3) _ _ _ _ Xj.nd rfl (.inl rfl) (@YA _ _ _ _ _ _ _ _ _ _ _ _ Z16 hr (@Ya _ _ _ _ _ (pv 3) Yb (by rfl)) (by omega) (by rfl) (by rfl) (by decide) (by rfl) (by rfl)) (by rfl) (by first | exact .inl rfl | exact .inr rfl | assumption))))) Yq) (@Yf _ _ _ _ _ (@Yt _ _ (5) _ _ _ _ Xj.nd rfl (.inl rfl) (@YA _ _ _ _ _ _ _ _ _ _ _ _ F_law_due hr (@Ya _ _ _ _ _ (pv 2) (@Ya _ _ _ _ _ (pv 3) Yb (by rfl)) (by rfl)) (by omega) (by rfl) (by rfl) (by decide) (by rfl) (by rfl)) (by rfl) (by first | exact .inl rfl | exact .inr rfl | assumption)) (@Yf _ _ _ _ _ (@WX _ (6) _ _ _ _ _ _ _ _ _ ([none,some 1]) ((["_law_spot_here","_law_part_here"]:List Str)) _ (Yv 0) _ _ Xj.nd rfl (.inl rfl) (.own (.cap (i:=1) rfl rfl (by first | exact .inl rfl | exact .inr rfl) .nil)) rfl (@YT _ _ _ _ (pv 2)) (fun cl C s₀ H₀ fp pn=>(@Yp _ _ (0) _ (show List.Nodup (["_law_spot_here","_law_part_here"]:List Str) by decide +kernel) rfl (.inl rfl) (.inr rfl))) (fun cl C s₀ H₀ fp pn=>Y3) (fun cl C s₀ H₀ fp pn=>(@YA _ _ _ _ _ _ _ _ _ _ _ _ Z0X hr (@Ya _ _ _ _ _ (pv 1) (@Ya _ _ _ _ _ (pv 0) Yb (by rfl)) (by rfl)) (by omega) (by rfl) (by rfl) (by decide) (by rfl) (by rfl))) (by intro x hx;simp at hx;first | (subst hx;exact .inl rfl) | (rcases hx with rfl | rfl<;>exact .inl rfl) | (rcases hx with rfl | rfl | rfl<;>exact .inl rfl) | (rcases hx with rfl | rfl | rfl | rfl<;>exact .inl rfl) | (rcases hx with rfl | rfl | rfl | rfl | rfl<;>exact .inl rfl)) (by rfl) (by decide) (by decide +kernel) (by intro _;rfl) (by rfl) (by first | exact .inl rfl | exact .inr rfl | assumption)) (@Yf _ _ _ _ _ (@WX _ (7) _ _ _ _ _ _ _ _ _ ([none,some 1]) ((["_law_spot_here","_law_part_here"]:List Str)) _ (Yv 0) _ _ Xj.nd rfl (.inl rfl) (.own (.cap (i:=1) rfl rfl (by first | exact .inl rfl | exact .inr rfl) .nil)) rfl (@YT _ _ _ _ (pv 3)) (fun cl C s₀ H₀ fp pn=>(@Yp _ _ (0) _ (show List.Nodup (["_law_spot_here","_law_part_here"]:List Str) by decide +kernel) rfl (.inl rfl) (.inr rfl))) (fun cl C s₀ H₀ fp pn=>Y3) (fun cl C s₀ H₀ fp pn=>(@YA _ _ _ _ _ _ _ _ _ _ _ _ Z0X hr (@Ya _ _ _ _ _ (pv 1) (@Ya _ _ _ _ _ (pv 0) Yb (by rfl)) (by rfl)) (by omega) (by rfl) (by rfl) (by decide) (by rfl) (by rfl))) (by intro x hx;simp at hx;first | (subst hx;exact .inl rfl) | (rcases hx with rfl | rfl<;>exact .inl rfl) | (rcases hx with rfl | rfl | rfl<;>exact .inl rfl) | (rcases hx with rfl | rfl | rfl | rfl<;>exact .inl rfl) | (rcases hx with rfl | rfl | rfl | rfl | rfl<;>exact .inl rfl)) (by rfl) (by decide) (by decide +kernel) (by intro _;rfl) (by rfl) (by first | exact .inl rfl | exact .inr rfl | assumption)) (@Yf _ _ _ _ _ (@YD _ _ _ _ _ _ _ _ (@Vf _ _ _ _ _ _ _ (@Vg _ _ _ _ (@Wm _ _ _ (@YA _ _ _ _ _ _ _ _ _ _ _ _ ZY hr (@Ya _ _ _ _ _ (pv 4) (@Ya _ _ _ _ _ (pv 6) (@Ya _ _ _ _ _ (pv 7) (@Ya _ _ _ _ _ (pv 5) Yb (by rfl)) (by rfl)) (by rfl)) (by rfl)) (by omega) (by rfl) (by rfl) (by decide) (by rfl) (by rfl)) (by intro _;rfl))) (@WI _ _ _ _ (@Vg _ _ _ _ (@Wm _ _ _ (@YA _ _ _ _ _ _ _ _ _ _ _ _ ZY hr (@Ya _ _ _ _ _ (pv 4) (@Ya _ _ _ _ _ (pv 7) (@Ya _ _ _ _ _ (pv 6) (@Ya _ _ _ _ _ (@Yw _ _ _ _ _ _ _ _ Wo Ye (pv 5)) Yb (by rfl)) (by rfl)) (by rfl)) (by rfl)) (by omega) (by rfl) (by rfl) (by decide) (by rfl) (by rfl)) (by intro _;rfl))))).pt (@Yg _ _ _ (@Yh _ _ _ _ QV)) Yq) (@Yg _ _ _ (@Yh _ _ _ _ (@YA _ _ _ _ _ _ _ _ _ _ _ _ ZY hr (@Ya _ _ _ _ _ (pv 4) (@Ya _ _ _ _ _ (pv 6) (@Ya _ _ _ _ _ (pv 6) (@Ya _ _ _ _ _ Ye Yb (by rfl)) (by rfl)) (by rfl)) (by rfl)) (by omega) (by rfl) (by rfl) (by decide) (by rfl) (by rfl)))))))))))),?_⟩
 refine cut4 (fun σ H'=>∃ (v:V) (pt:Pt) (l1 l2 t:Addr) (xs ys:List V) (ps qs:List (Int×Int)) (c:LK),σ=[some (.ref a),some v,some (.ref l1),some (.ref l2),some (.ref t),none,none,none]∧Yc H H'∧Wk g.K H' v pt∧H' l1=some (.lst xs)∧H' l2=some (.lst ys)∧YC g.K H' xs ps∧YC g.K H' ys qs∧SpL pt ps∧SpL pt qs∧(c = .rising∨c = .unlike∧ps.Nodup)∧(c = .rising∨c = .unlike∧qs.Nodup)∧SqT g.K H' t [.str c.nm,v]) ?_ ?_
 ·rintro σ H1 ⟨v,pt,l1,l2,t,xs,ys,ps,qs,c,rfl,s1,hpt,h1,h2,hp1,hp2,hs1,hs2,hc1,hc2,ht⟩
  have lx:=hp1.1
  have ly:=hp2.1
  have hk1:=hs1.1
  have hk2:=hs2.1
  obtain ⟨hsh,hok⟩:=hpt.shAt
  walk_at "rd"
  refine ⟨l1,l2,xs,ys,ps,qs,rfl,SqL.of h1,SqL.of h2,hp1,hp2,hk1,hk2,fun H2 s2=>?_⟩
  refine QH (K:=g.K) (xs:=xs) (fun i y _=>∀ H p,ps[i]?=some p→Vd H y (YJ pt p)) (fun i y H H' h _=>h) (fun i y H p zs zs' h _=>h) (fun R r=>by walk_at "rd";exact r l1 H2 (.refl _) (SqL.of (s2 _ _ h1))) (by omega) ?_ ?_
  ·intro i x H' hx sm R r
   have hi:=(List.getElem?_eq_some_iff.mp hx).1
   have hp:ps[i]?=some (ps[i]'(by omega)):=List.getElem?_eq_getElem _
   generalize ps[i]'(by omega)=pp at hp
   obtain ⟨T,rfl,hT⟩:=hp1.2 i x pp hx hp
   walk_at "rd"
   exact ⟨v,pt,T,pp,rfl,hpt.keep (s2.trans sm),(s2.trans sm).tup hT,hs1.2.2 pp (List.mem_of_getElem? hp),fun y H'' s' hy=>r y H'' s' fun H0 p' hp'=>by rw [hp] at hp';cases hp';exact QU hy H0⟩
  intro D1 zs H3 hD1 s3 hd1 hzl hz
  have s23:=s2.trans s3
  refine QH (K:=g.K) (xs:=ys) (fun i y _=>∀ H p,qs[i]?=some p→Vd H y (YJ pt p)) (fun i y H H' h _=>h) (fun i y H p zs zs' h _=>h) (fun R r=>by walk_at "rd";exact r l2 H3 (.refl _) (SqL.of (s23 _ _ h2))) (by omega) ?_ ?_
  ·intro i x H' hx sm R r
   have hi:=(List.getElem?_eq_some_iff.mp hx).1
   have hp:qs[i]?=some (qs[i]'(by omega)):=List.getElem?_eq_getElem _
   generalize qs[i]'(by omega)=pp at hp
   obtain ⟨T,rfl,hT⟩:=hp2.2 i x pp hx hp
   walk_at "rd"
   exact ⟨v,pt,T,pp,rfl,hpt.keep (s23.trans sm),(s23.trans sm).tup hT,hs2.2.2 pp (List.mem_of_getElem? hp),fun y H'' s' hy=>r y H'' s' fun H0 p' hp'=>by rw [hp] at hp';cases hp';exact QU hy H0⟩
  intro D2 ws H4 hD2 s4 hd2 hwl hw
  have s24:=s23.trans s4
  have v1:∀ H,Vds H zs (ps.map (YJ pt)):=fun H=>Qb (by omega) fun j y hy=>hz j y hy
  have v2:∀ H,Vds H ws (qs.map (YJ pt)):=fun H=>Qb (by omega) fun j y hy=>hw j y hy
  have k1:ky [] LV (.lst c pt.sh) (.list (ps.map (YJ pt)))=some (keyL pt ps):=QT hok hs1 hc1
  have k2:ky [] LV (.lst c pt.sh) (.list (qs.map (YJ pt)))=some (keyL pt qs):=QT hok hs2 hc2
  have e12:=YcB hs1 hs2
  have e21:=YcC (W1 k1) (W1 k2)
  rw [e12] at e21
  have shT:∀ H5,Yc H4 H5→ShAt g.K H5 (.ref t) (.lst c pt.sh):=fun H5 s5 => .lst c ((s24.trans s5).tup ht) (hsh.keep (s24.trans s5))
  have g1:=s4 _ _ hd1
  refine ⟨_,_,D1,D2,zs,ws,_,_,keyL pt ps,keyL pt qs,by rw [e12],shT H4 (.refl _),g1,hd2,by omega,by omega,v1 _,v2 _,Xq,Xq,XM,XM,k1,k2,fun H5 s5=>⟨true,rfl,Ym (by decide) ?_⟩⟩
  refine ⟨_,rfl,_,_,D2,D1,ws,zs,_,_,keyL pt qs,keyL pt ps,by rw [e21],shT H5 s5,s5 _ _ hd2,s5 _ _ g1,by omega,by omega,v2 _,v1 _,Xq,Xq,XM,XM,k2,k1,fun H6 s6=>⟨true,rfl,Ym (by decide) ?_⟩⟩
  have s46:=s5.trans s6
  exact ⟨_,_,D1,D1,zs,zs,_,_,keyL pt ps,keyL pt ps,by rw [Wc],shT H6 s46,s46 _ _ g1,s46 _ _ g1,by omega,by omega,v1 _,v1 _,Xq,Xq,XM,XM,k1,k1,fun H7 s7=>q _⟩
 ·intro N hN
  walk_at "rd"
  refine ⟨a,ns,rfl,hS,hl,fun v pt H1 s1 hpt=>⟨v,pt,a,ns,rfl,hpt,s1.seq hS,hl,fun t l1 l2 xs ys ps qs H2 s2 ht h1 h2 hp1 hp2 hs1 hs2=>⟨t,rfl,_,SqT.of ht,rfl,_,_,rfl,_,_,rfl,rfl,few (by decide),fun p hp=>?_⟩⟩⟩
  have u1:=Yc.upd_new hp (.tup [V.str (Str.ofString "rising"),v])
  have s12:=s1.trans s2
  refine ⟨a,ns,0,rfl,(s12.trans u1).seq hS,hl,_,rfl,by decide,?_⟩
  refine Y7 (fun _=>⟨few (by decide),fun p2 hp2'=>?_⟩) fun _=>?_
  ·have u2:=Yc.upd_new hp2' (.tup [V.str (Str.ofString "unlike"),v])
   have u12:=u1.trans u2
   refine ⟨pt,l1,xs,ps,rfl,SqL.of (u12 _ _ h1),YC.keep (K:=g.K) u12 hp1,hs1,fun m1 xs' ps' H3 s3 hm1 hpr1 hsl1 hn1=>?_⟩
   refine ⟨pt,l2,ys,qs,rfl,SqL.of ((u12.trans s3) _ _ h2),YC.keep (K:=g.K) (u12.trans s3) hp2,hs2,fun m2 ys' qs' H4 s4 hm2 hpr2 hsl2 hn2=>?_⟩
   exact hN _ _ ⟨v,pt,m1,m2,p2,xs',ys',ps',qs',.unlike,rfl,((s12.trans u12).trans s3).trans s4,hpt.keep (((s2.trans u12).trans s3).trans s4),s4 _ _ hm1,hm2,YC.keep (K:=g.K) s4 hpr1,hpr2,hsl1,hsl2,.inr ⟨rfl,hn1⟩,.inr ⟨rfl,hn2⟩,SqT.of ((s3.trans s4) _ _ Yd)⟩
  ·exact hN _ _ ⟨v,pt,l1,l2,p,xs,ys,ps,qs,.rising,rfl,s12.trans u1,hpt.keep (s2.trans u1),u1 _ _ h1,u1 _ _ h2,YC.keep (K:=g.K) u1 hp1,YC.keep (K:=g.K) u1 hp2,hs1,hs2,.inl rfl,.inl rfl,SqT.of Yd⟩
theorem us1 {α:Type} {us:List α} (h:us.length=1):∃ a0,us=[a0]:=by
 match us,h with
 | [a0],_=>exact ⟨_,rfl⟩
theorem us2 {α:Type} {us:List α} (h:us.length=2):∃ a0 a1,us=[a0,a1]:=by
 match us,h with
 | [a0,a1],_=>exact ⟨_,_,rfl⟩
theorem us3 {α:Type} {us:List α} (h:us.length=3):∃ a0 a1 a2,us=[a0,a1,a2]:=by
 match us,h with
 | [a0,a1,a2],_=>exact ⟨_,_,_,rfl⟩
theorem us4 {α:Type} {us:List α} (h:us.length=4):∃ a0 a1 a2 a3,us=[a0,a1,a2,a3]:=by
 match us,h with
 | [a0,a1,a2,a3],_=>exact ⟨_,_,_,_,rfl⟩
structure Top (K:PySem.W.Frag) (mg:Str→Option Value) :Prop where
 ZZ:∀ P w base,(Gx.mk P w K mg base).Raw "_law_whole" "_law_whole" ZT ["_law_found"]
 ZA:∀ P w base,(Gx.mk P w K mg base).Raw "_law_cell_at" "_law_cell_at" Zz ["_law_script","_law_k"]
 Zc:∀ P w base,(Gx.mk P w K mg base).Raw "is_whole_number" "is_whole_number" Za ["thing"]
 Zt:∀ P w base,(Gx.mk P w K mg base).Raw "branch_place" "branch_place" Zp ["branches","mark"]
 Z0h:∀ P w base,(Gx.mk P w K mg base).Raw "shape_of" "shape_of" Z06 ["book","name"]
 Z0i:∀ P w base,(Gx.mk P w K mg base).Raw "has_mark" "has_mark" Z07 ["branches","value"]
 Z0j:∀ P w base,(Gx.mk P w K mg base).Raw "has_form" "has_form" Z08 ["shape","value"]
 Zn:∀ P w base,(Gx.mk P w K mg base).Raw "things_within" "things_within" Zk ["book","shape","value"]
 Zu:∀ P w base,(Gx.mk P w K mg base).Raw "sum_of_sizes" "sum_of_sizes" Zq ["keys"]
 ZO:∀ P w base,(Gx.mk P w K mg base).Raw "none_ahead" "none_ahead" ZI ["keys"]
 ZP:∀ P w base,(Gx.mk P w K mg base).Raw "all_behind" "all_behind" ZJ ["keys"]
 Z00:∀ P w base,(Gx.mk P w K mg base).Raw "all_alike" "all_alike" ZQ ["keys"]
 Zg:∀ P w base,(Gx.mk P w K mg base).Raw "groups_by_size" "groups_by_size" Ze ["keys"]
 Z01:∀ P w base,(Gx.mk P w K mg base).Raw "risen_key" "risen_key" ZR ["size","keys"]
 Z0k:∀ P w base,(Gx.mk P w K mg base).Raw "list_key" "list_key" Z09 ["shape","keys"]
 Z0l:∀ P w base,(Gx.mk P w K mg base).Raw "key_made" "key_made" Z0a ["shape","value","keys"]
 Zi:∀ P w base,(Gx.mk P w K mg base).Raw "weighed" "weighed" Z0y ["book","shape","value"]
 Zh:∀ P w base,(Gx.mk P w K mg base).Raw "key_or_refusal" "key_or_refusal" Zf ["book","shape","value"]
 Z0m:∀ P w base,(Gx.mk P w K mg base).Raw "compared" "compared" Z0b ["book","shape","one","other"]
 Z0n:∀ P w base,(Gx.mk P w K mg base).Raw "_law_part" "_law_part" Z0c ["_law_script"]
 Z0o:∀ P w base,(Gx.mk P w K mg base).Raw "_law_spot" "_law_spot" Z0d ["_law_part_here","_law_size","_law_cell"]
 Z02:∀ P w base,(Gx.mk P w K mg base).Raw "_law_thing" "_law_thing" ZU ["_law_part_here","_law_spot_here"]
 Z03:∀ P w base,(Gx.mk P w K mg base).Raw "_law_spots" "_law_spots" ZV ["_law_part_here","_law_script"]
 Z0p:∀ P w base,(Gx.mk P w K mg base).Raw "_law_once" "_law_once" Z0e ["_law_spots_here"]
 Z0I:∀ P w base,(Gx.mk P w K mg base).Raw "_law_due" "_law_due" Z0z ["_law_one","_law_other"]
 Z04:∀ P w base,(Gx.mk P w K mg base).Raw "_law_asked" "_law_asked" ZX ["_law_shape","_law_one","_law_other","_law_due_here"]
 ZC:∀ P w base,(Gx.mk P w K mg base).ConT "OF_ONE_PART" ([.str "many",.str "rising",.str "unlike"])
 b_all:mg "all"=none
 b_bool:mg "bool"=none
 Zd:mg "enumerate"=none
 b_int:mg "int"=none
 Z0:mg "isinstance"=none
 b_len:mg "len"=none
 b_list:mg "list"=none
 Z6:mg "range"=none
 Zs:mg "sorted"=none
 b_str:mg "str"=none
 b_sum:mg "sum"=none
 Z1:mg "tuple"=none
 b_zip:mg "zip"=none
theorem YbI {K:PySem.W.Frag} {mg:Str→Option Value}   (t:Top K mg ) (P:Program) (w:World) (base:Heap) :
  Q8 (Gx.mk P w K mg base) 10 ["_law_script","_law_part_here","_law_one","_law_other","_law_shape","_law_due_here","_law_near","_law_far"] "law" Us (Vm K):=by
 have G_law_whole:=UW (g:=Gx.mk P w K mg base) (t.ZZ P w base) t.b_bool t.b_int t.Z0
 have ZB:=Z18 (g:=Gx.mk P w K mg base) (t.ZA P w base) t.b_len
 have Z0M:=Z0B (g:=Gx.mk P w K mg base) (t.Zc P w base) t.b_bool t.b_int t.Z0
 have Zv:=Z13 (g:=Gx.mk P w K mg base) (t.Zt P w base) t.Zd
 have G_shape_of:=Qm (g:=Gx.mk P w K mg base) (t.Z0h P w base)
 have G_has_mark:=Qn (g:=Gx.mk P w K mg base) (k:=1) (t.Z0i P w base) (Zv.mono (by decide)) t.Z0 t.b_len t.b_str t.Z1
 have Z0q:=Qo (g:=Gx.mk P w K mg base) (k:=2) (t.Z0j P w base) (Z0M.mono (by decide)) (G_has_mark.mono (by decide)) t.b_all t.Z0 t.b_len t.b_list t.b_str t.Z1 (t.ZC P w base)
 have Zo:=Z0Y (g:=Gx.mk P w K mg base) (k:=1) (t.Zn P w base) (G_shape_of.mono (by decide)) (Zv.mono (by decide)) t.b_list t.b_zip (t.ZC P w base)
 have Z05:=Z14 (g:=Gx.mk P w K mg base) (t.Zu P w base) t.b_sum
 have G_none_ahead:=Uk (g:=Gx.mk P w K mg base) (t.ZO P w base) t.b_all t.b_zip
 have G_all_behind:=Ul (g:=Gx.mk P w K mg base) (t.ZP P w base) t.b_all t.b_zip
 have G_all_alike:=U5 (g:=Gx.mk P w K mg base) (t.Z00 P w base) t.b_all
 have Z10:=Z0K (g:=Gx.mk P w K mg base) (t.Zg P w base) t.b_len
 have G_risen_key:=U7 (g:=Gx.mk P w K mg base) (k:=1) (t.Z01 P w base) (Z10.mono (by decide)) t.b_len t.Z1
 have G_list_key:=Qp (g:=Gx.mk P w K mg base) (k:=2) (t.Z0k P w base) (Z05.mono (by decide)) (G_none_ahead.mono (by decide)) (G_all_behind.mono (by decide)) (G_all_alike.mono (by decide)) (G_risen_key.mono (by decide)) t.b_len t.Z1
 have Z0r:=Qq (g:=Gx.mk P w K mg base) (k:=3) (t.Z0l P w base) (Zv.mono (by decide)) (Z05.mono (by decide)) (G_list_key.mono (by decide)) t.b_len t.Z1
 have G_weighed_1:=Z0f (g:=Gx.mk P w K mg base) (m:=0) (k:=4) (t.Zi P w base) (Z0q.mono (by decide)) (Zo.mono (by decide)) (Z0r.mono (by decide)) ((t.Zi P w base).none (fun _ _ _ _ h=>Yai h))
 have G_weighed_2:=Z0f (g:=Gx.mk P w K mg base) (m:=1) (k:=5) (t.Zi P w base) (Z0q.mono (by decide)) (Zo.mono (by decide)) (Z0r.mono (by decide)) (G_weighed_1.mono (by decide))
 have G_weighed:=Z0f (g:=Gx.mk P w K mg base) (m:=2) (k:=6) (t.Zi P w base) (Z0q.mono (by decide)) (Zo.mono (by decide)) (Z0r.mono (by decide)) (G_weighed_2.mono (by decide))
 have Z11:=Z0L (g:=Gx.mk P w K mg base) (k:=7) (t.Zh P w base) (G_weighed.mono (by decide))
 have G_compared:=Qr (g:=Gx.mk P w K mg base) (k:=8) (t.Z0m P w base) (Z11.mono (by decide))
 have G_law_part:=Qs (g:=Gx.mk P w K mg base) (k:=1) (t.Z0n P w base) (ZB.mono (by decide))
 have G_law_spot:=Qt (g:=Gx.mk P w K mg base) (t.Z0o P w base)
 have G_law_thing:=U8 (g:=Gx.mk P w K mg base) (t.Z02 P w base) t.Z6
 have G_law_spots:=U9 (g:=Gx.mk P w K mg base) (k:=1) (t.Z03 P w base) (ZB.mono (by decide)) (G_law_spot.mono (by decide)) t.b_len t.Z6 t.Zs
 have G_law_once:=Qu (g:=Gx.mk P w K mg base) (t.Z0p P w base)
 have G_law_due:=Yaj (g:=Gx.mk P w K mg base) (t.Z0I P w base) t.b_int t.b_len t.Z6 t.b_sum t.b_zip
 have G_law_asked:=Qa (g:=Gx.mk P w K mg base) (k:=9) (t.Z04 P w base) (G_compared.mono (by decide)) (G_law_whole.mono (by decide)) t.b_list
 exact YbH (g:=Gx.mk P w K mg base) (k:=10) (ZB.mono (by decide)) (G_law_part.mono (by decide)) (G_law_thing.mono (by decide)) (G_law_spots.mono (by decide)) (G_law_once.mono (by decide)) (G_law_due.mono (by decide)) (G_law_asked.mono (by decide))
end KW
theorem PySem.W.Fast.tw6912657422828472248:True:=trivial
theorem PySem.W.Fast.tw12451953375680438194:True:=trivial
theorem PySem.W.Fast.tw6490358502887005466:True:=trivial
theorem PySem.W.Fast.tw8389810789874221426:True:=trivial
theorem PySem.W.Fast.tw3658551824738468487:True:=trivial
theorem PySem.W.Fast.tw17641021815364661403:True:=trivial
theorem PySem.W.Fast.tw7476358069173439650:True:=trivial
theorem PySem.W.Fast.tw7300536720523445513:True:=trivial
theorem PySem.W.Fast.tw8848360906275807633:True:=trivial
theorem PySem.W.Fast.tw9273159395496133576:True:=trivial
theorem PySem.W.Fast.tw5556339502478975045:True:=trivial
theorem PySem.W.Fast.tw16295683450425377576:True:=trivial
theorem PySem.W.Fast.tw4485525320642124637:True:=trivial
theorem PySem.W.Fast.tw4964283999294435419:True:=trivial
theorem PySem.W.Fast.tw6679862144824648439:True:=trivial
theorem PySem.W.Fast.tw4014629373587787130:True:=trivial
open PySem PySem.W PyProof.Rows
set_option maxRecDepth 100000 in
set_option maxHeartbeats 0 in
theorem PySem.Challenge.cw_countgen_k25_lists_in_order_compared_holds : PySem.Challenge.rw_countgen_k25_lists_in_order_compared.Holds := by
 w_on;o_law;k_head;(case hw=>w_witness2)
 k_fill
 refine L2.Ycf (l:=PySem.Challenge.rw_countgen_k25_lists_in_order_compared) 10 "_law_script" KW.Us ["_law_script","_law_part_here","_law_one","_law_other","_law_shape","_law_due_here","_law_near","_law_far"] rfl rfl ⟨rfl,by decide,by decide,rfl⟩ KW.Xj (fun w h Y=>by first | exact PySem.W.kIn_of Y | exact PySem.W.km_in_of Y) ?F
 case F =>
  intro w mg h KX G
  refine' ⟨L2.YaO KX G ?a ?l ?c ?k (fun _ _ _ _ _ _ _ _ => .of_eq rfl),fun base=>KW.YbI ⟨?ZZ,?ZA,?Zc,?Zt,?Z0h,?Z0i,?Z0j,?Zn,?Zu,?ZO,?ZP,?Z00,?Zg,?Z01,?Z0k,?Z0l,?Zi,?Zh,?Z0m,?Z0n,?Z0o,?Z02,?Z03,?Z0p,?Z0I,?Z04,?ZC,?b_all,?b_bool,?Zd,?b_int,?Z0,?b_len,?b_list,?Z6,?Zs,?b_str,?b_sum,?Z1,?b_zip⟩ _ w base⟩
  (case a=>k_is)
  (case l=>k_is)
  (case c=>k_is)
  (case k=>k_is)
  case ZZ =>
   refine' L2.YH KX G ["_law_found"] ?a ?l ?c ?k (fun _ _ _ _ _ _ us hl=>by obtain ⟨_,rfl⟩:=KW.us1 hl;rfl)
   (case a=>k_is)
   (case l=>k_is)
   (case c=>k_is)
   (case k=>k_is)
  case ZA =>
   refine' L2.YH KX G ["_law_script","_law_k"] ?a ?l ?c ?k (fun _ _ _ _ _ _ us hl=>by obtain ⟨_,_,rfl⟩:=KW.us2 hl;rfl)
   (case a=>k_is)
   (case l=>k_is)
   (case c=>k_is)
   (case k=>k_is)
  case Zc =>
   refine' L2.YH KX G ["thing"] ?a ?l ?c ?k (fun _ _ _ _ _ _ us hl=>by obtain ⟨_,rfl⟩:=KW.us1 hl;rfl)
   (case a=>k_is)
   (case l=>k_is)
   (case c=>k_is)
   (case k=>k_is)
  case Zt =>
   refine' L2.YH KX G ["branches","mark"] ?a ?l ?c ?k (fun _ _ _ _ _ _ us hl=>by obtain ⟨_,_,rfl⟩:=KW.us2 hl;rfl)
   (case a=>k_is)
   (case l=>k_is)
   (case c=>k_is)
   (case k=>k_is)
  case Z0h =>
   refine' L2.YH KX G ["book","name"] ?a ?l ?c ?k (fun _ _ _ _ _ _ us hl=>by obtain ⟨_,_,rfl⟩:=KW.us2 hl;rfl)
   (case a=>k_is)
   (case l=>k_is)
   (case c=>k_is)
   (case k=>k_is)
  case Z0i =>
   refine' L2.YH KX G ["branches","value"] ?a ?l ?c ?k (fun _ _ _ _ _ _ us hl=>by obtain ⟨_,_,rfl⟩:=KW.us2 hl;rfl)
   (case a=>k_is)
   (case l=>k_is)
   (case c=>k_is)
   (case k=>k_is)
  case Z0j =>
   refine' L2.YH KX G ["shape","value"] ?a ?l ?c ?k (fun _ _ _ _ _ _ us hl=>by obtain ⟨_,_,rfl⟩:=KW.us2 hl;rfl)
   (case a=>k_is)
   (case l=>k_is)
   (case c=>k_is)
   (case k=>k_is)
  case Zn =>
   refine' L2.YH KX G ["book","shape","value"] ?a ?l ?c ?k (fun _ _ _ _ _ _ us hl=>by obtain ⟨_,_,_,rfl⟩:=KW.us3 hl;rfl)
   (case a=>k_is)
   (case l=>k_is)
   (case c=>k_is)
   (case k=>k_is)
  case Zu =>
   refine' L2.YH KX G ["keys"] ?a ?l ?c ?k (fun _ _ _ _ _ _ us hl=>by obtain ⟨_,rfl⟩:=KW.us1 hl;rfl)
   (case a=>k_is)
   (case l=>k_is)
   (case c=>k_is)
   (case k=>k_is)
  case ZO =>
   refine' L2.YH KX G ["keys"] ?a ?l ?c ?k (fun _ _ _ _ _ _ us hl=>by obtain ⟨_,rfl⟩:=KW.us1 hl;rfl)
   (case a=>k_is)
   (case l=>k_is)
   (case c=>k_is)
   (case k=>k_is)
  case ZP =>
   refine' L2.YH KX G ["keys"] ?a ?l ?c ?k (fun _ _ _ _ _ _ us hl=>by obtain ⟨_,rfl⟩:=KW.us1 hl;rfl)
   (case a=>k_is)
   (case l=>k_is)
   (case c=>k_is)
   (case k=>k_is)
  case Z00 =>
   refine' L2.YH KX G ["keys"] ?a ?l ?c ?k (fun _ _ _ _ _ _ us hl=>by obtain ⟨_,rfl⟩:=KW.us1 hl;rfl)
   (case a=>k_is)
   (case l=>k_is)
   (case c=>k_is)
   (case k=>k_is)
  case Zg =>
   refine' L2.YH KX G ["keys"] ?a ?l ?c ?k (fun _ _ _ _ _ _ us hl=>by obtain ⟨_,rfl⟩:=KW.us1 hl;rfl)
   (case a=>k_is)
   (case l=>k_is)
   (case c=>k_is)
   (case k=>k_is)
  case Z01 =>
   refine' L2.YH KX G ["size","keys"] ?a ?l ?c ?k (fun _ _ _ _ _ _ us hl=>by obtain ⟨_,_,rfl⟩:=KW.us2 hl;rfl)
   (case a=>k_is)
   (case l=>k_is)
   (case c=>k_is)
   (case k=>k_is)
  case Z0k =>
   refine' L2.YH KX G ["shape","keys"] ?a ?l ?c ?k (fun _ _ _ _ _ _ us hl=>by obtain ⟨_,_,rfl⟩:=KW.us2 hl;rfl)
   (case a=>k_is)
   (case l=>k_is)
   (case c=>k_is)
   (case k=>k_is)
  case Z0l =>
   refine' L2.YH KX G ["shape","value","keys"] ?a ?l ?c ?k (fun _ _ _ _ _ _ us hl=>by obtain ⟨_,_,_,rfl⟩:=KW.us3 hl;rfl)
   (case a=>k_is)
   (case l=>k_is)
   (case c=>k_is)
   (case k=>k_is)
  case Zi =>
   refine' L2.YH KX G ["book","shape","value"] ?a ?l ?c ?k (fun _ _ _ _ _ _ us hl=>by obtain ⟨_,_,_,rfl⟩:=KW.us3 hl;rfl)
   (case a=>k_is)
   (case l=>k_is)
   (case c=>k_is)
   (case k=>k_is)
  case Zh =>
   refine' L2.YH KX G ["book","shape","value"] ?a ?l ?c ?k (fun _ _ _ _ _ _ us hl=>by obtain ⟨_,_,_,rfl⟩:=KW.us3 hl;rfl)
   (case a=>k_is)
   (case l=>k_is)
   (case c=>k_is)
   (case k=>k_is)
  case Z0m =>
   refine' L2.YH KX G ["book","shape","one","other"] ?a ?l ?c ?k (fun _ _ _ _ _ _ us hl=>by obtain ⟨_,_,_,_,rfl⟩:=KW.us4 hl;rfl)
   (case a=>k_is)
   (case l=>k_is)
   (case c=>k_is)
   (case k=>k_is)
  case Z0n =>
   refine' L2.YH KX G ["_law_script"] ?a ?l ?c ?k (fun _ _ _ _ _ _ us hl=>by obtain ⟨_,rfl⟩:=KW.us1 hl;rfl)
   (case a=>k_is)
   (case l=>k_is)
   (case c=>k_is)
   (case k=>k_is)
  case Z0o =>
   refine' L2.YH KX G ["_law_part_here","_law_size","_law_cell"] ?a ?l ?c ?k (fun _ _ _ _ _ _ us hl=>by obtain ⟨_,_,_,rfl⟩:=KW.us3 hl;rfl)
   (case a=>k_is)
   (case l=>k_is)
   (case c=>k_is)
   (case k=>k_is)
  case Z02 =>
   refine' L2.YH KX G ["_law_part_here","_law_spot_here"] ?a ?l ?c ?k (fun _ _ _ _ _ _ us hl=>by obtain ⟨_,_,rfl⟩:=KW.us2 hl;rfl)
   (case a=>k_is)
   (case l=>k_is)
   (case c=>k_is)
   (case k=>k_is)
  case Z03 =>
   refine' L2.YH KX G ["_law_part_here","_law_script"] ?a ?l ?c ?k (fun _ _ _ _ _ _ us hl=>by obtain ⟨_,_,rfl⟩:=KW.us2 hl;rfl)
   (case a=>k_is)
   (case l=>k_is)
   (case c=>k_is)
   (case k=>k_is)
  case Z0p =>
   refine' L2.YH KX G ["_law_spots_here"] ?a ?l ?c ?k (fun _ _ _ _ _ _ us hl=>by obtain ⟨_,rfl⟩:=KW.us1 hl;rfl)
   (case a=>k_is)
   (case l=>k_is)
   (case c=>k_is)
   (case k=>k_is)
  case Z0I =>
   refine' L2.YH KX G ["_law_one","_law_other"] ?a ?l ?c ?k (fun _ _ _ _ _ _ us hl=>by obtain ⟨_,_,rfl⟩:=KW.us2 hl;rfl)
   (case a=>k_is)
   (case l=>k_is)
   (case c=>k_is)
   (case k=>k_is)
  case Z04 =>
   refine' L2.YH KX G ["_law_shape","_law_one","_law_other","_law_due_here"] ?a ?l ?c ?k (fun _ _ _ _ _ _ us hl=>by obtain ⟨_,_,_,_,rfl⟩:=KW.us4 hl;rfl)
   (case a=>k_is)
   (case l=>k_is)
   (case c=>k_is)
   (case k=>k_is)
  case ZC =>
   refine' L2.Ycn KX G ?a ?l ?z ?r
   (case a=>k_is)
   (case l=>k_is)
   (case z=>decide)
   (case r=>exact (.cons ⟨_,rfl⟩ (.cons ⟨_,rfl⟩ (.cons ⟨_,rfl⟩ .nil))))
  case b_all =>
   refine' PySem.W.mg_none_of KX G ?a
   (case a=>k_is)
  case b_bool =>
   refine' PySem.W.mg_none_of KX G ?a
   (case a=>k_is)
  case Zd =>
   refine' PySem.W.mg_none_of KX G ?a
   (case a=>k_is)
  case b_int =>
   refine' PySem.W.mg_none_of KX G ?a
   (case a=>k_is)
  case Z0 =>
   refine' PySem.W.mg_none_of KX G ?a
   (case a=>k_is)
  case b_len =>
   refine' PySem.W.mg_none_of KX G ?a
   (case a=>k_is)
  case b_list =>
   refine' PySem.W.mg_none_of KX G ?a
   (case a=>k_is)
  case Z6 =>
   refine' PySem.W.mg_none_of KX G ?a
   (case a=>k_is)
  case Zs =>
   refine' PySem.W.mg_none_of KX G ?a
   (case a=>k_is)
  case b_str =>
   refine' PySem.W.mg_none_of KX G ?a
   (case a=>k_is)
  case b_sum =>
   refine' PySem.W.mg_none_of KX G ?a
   (case a=>k_is)
  case Z1 =>
   refine' PySem.W.mg_none_of KX G ?a
   (case a=>k_is)
  case b_zip =>
   refine' PySem.W.mg_none_of KX G ?a
   (case a=>k_is)
