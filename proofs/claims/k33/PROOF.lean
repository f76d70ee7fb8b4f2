import PyProof.Rows.All
import Wide.All
import OpenK.AllK
import Wide.FinOn
import Lean
import PyProof.EqAt
import PyProof.EqKinds
import PyProof.TupleCall
import PyProof.NeData
import KE.KTryMore
import PyProof.ExcBaseAll.ValueError
import PyProof.ExcArgsOwn
import KE.KIntText
import PyProof.Rows.SetFrom
import PyProof.SetRoads
import PyProof.StrWalks
import PyProof.ListStr
import PyProof.Rows.StrSplitCount
import PyProof.MeetsStr
import PyProof.MeetsStr2
import PyProof.StrOps2
import PySem.Challenge.RW_countgen_k33_lists_in_order_counted
set_option compiler.extract_closed false
set_option Elab.async false
set_option linter.all false
set_option maxRecDepth 100000
namespace L2
open PySem PySem.Spec PyProof.Rows
abbrev Key:=Sum Int Str
def VG:Key→Value→Bool
 | .inl k,v=>Value.isInt k v
 | .inr x,v=>Value.isStrOf x v
def keyH (w:World):Key→Int
 | .inl k=>hashInt k
 | .inr x=>hashStr w x
theorem Xi:∀ {k:Key} {v:Value},VG k v=true→(∃ i t,k=Sum.inl i∧v=Value.int i t)∨(∃ x t,k=Sum.inr x∧v=Value.str x t)
 | .inl i,v,h=>by
  obtain ⟨t,e⟩:=Value.isInt_shape (k:=i) (v:=v) h
  exact .inl ⟨i,t,rfl,e⟩
 | .inr x,v,h=>by
  obtain ⟨t,e⟩:=Value.isStrOf_shape (x:=x) (v:=v) h
  exact .inr ⟨x,t,rfl,e⟩
theorem Ybx (i:Int) (t:Tok):VG (.inl i) (.int i t)=true:=by simp [VG,Value.isInt]
theorem Yby (x:Str) (t:Tok):VG (.inr x) (.str x t)=true:=by simp [VG,Value.isStrOf]
theorem YdL (a b:Int):decide ((Sum.inl a:Key)=Sum.inl b)=(a==b):=by
 by_cases e:a=b
 ·subst e;simp
 ·have h:¬ (Sum.inl a:Key)=Sum.inl b:=fun q=>e (Sum.inl.inj q)
  rw [decide_eq_false h]
  exact (beq_eq_false_iff_ne.mpr e).symm
theorem YdM (a b:Str):decide ((Sum.inr a:Key)=Sum.inr b)=decide (a=b):=by
 by_cases e:a=b
 ·subst e;simp
 ·have h:¬ (Sum.inr a:Key)=Sum.inr b:=fun q=>e (Sum.inr.inj q)
  rw [decide_eq_false h,decide_eq_false e]
theorem YdN (a:Int) (b:Str):decide ((Sum.inl a:Key)=Sum.inr b)=false:=decide_eq_false (fun q=>nomatch q)
theorem YdO (a:Str) (b:Int):decide ((Sum.inr a:Key)=Sum.inl b)=false:=decide_eq_false (fun q=>nomatch q)
def XW (prog:Program) (w:World):PySem.KeyKind prog w Key where
 is:=VG
 hash:=keyH w
 inj:=fun v a b ha hb=>by
  rcases Xi ha with ⟨i,t,rfl,rfl⟩ | ⟨x,t,rfl,rfl⟩
  ·rcases Xi hb with ⟨j,u,rfl,e⟩ | ⟨y,u,rfl,e⟩
   ·injection e with e1 _;rw [e1]
   ·exact nomatch e
  ·rcases Xi hb with ⟨j,u,rfl,e⟩ | ⟨y,u,rfl,e⟩
   ·exact nomatch e
   ·injection e with e1 _;rw [e1]
 byValue:=fun k v h=>by
  rcases Xi h with ⟨i,t,rfl,rfl⟩ | ⟨x,t,rfl,rfl⟩<;>rfl
 pyHash:=fun hv h=>by
  rcases Xi hv with ⟨i,t,rfl,rfl⟩ | ⟨x,t,rfl,rfl⟩
  ·exact wpAny_pyHash_int h
  ·exact wpAny_pyHash_str h
 eqBool:=fun hu hv h=>by
  rcases Xi hu with ⟨i,t,rfl,rfl⟩ | ⟨x,t,rfl,rfl⟩
  ·rcases Xi hv with ⟨j,u,rfl,rfl⟩ | ⟨y,u,rfl,rfl⟩
   ·rw [YdL] at h;exact wpAny_eqBool_int h
   ·rw [YdN] at h;exact SeqAt.EqAt.int_str i t y u _ _ _ _ h
  ·rcases Xi hv with ⟨j,u,rfl,rfl⟩ | ⟨y,u,rfl,rfl⟩
   ·rw [YdO] at h;exact SeqAt.EqAt.str_int x t j u _ _ _ _ h
   ·rw [YdM] at h;exact wpAny_eqBool_str h
 «strs»:=fun k x t v h=>by
  rcases Xi h with ⟨i,u,rfl,e⟩ | ⟨y,u,rfl,e⟩
  ·exact nomatch e
  ·injection e with e1 _
   subst e1
   cases v<;>rfl
theorem QX (prog:Program) (w:World) (i:Int) (t:Tok):(XW prog w).is (.inl i) (.int i t)=true:=Ybx i t
theorem QY (prog:Program) (w:World) (x:Str) (t:Tok):(XW prog w).is (.inr x) (.str x t)=true:=Yby x t
end L2
namespace L2
open PySem PySem.Spec PyProof.Rows
inductive V where
 | non | bl (b:Bool) | int (i:Int) | str (x:Str) | byt (b:Array UInt8) | flt (b:UInt64) | ref (a:Addr) | ty (n:String)
 deriving DecidableEq
def YB:V→Value→Prop
 | .non,u=>u=Value.none
 | .bl b,u=>u=Value.bool b
 | .int i,u=>∃ t,u=Value.int i t
 | .str x,u=>∃ t,u=Value.str x t
 | .byt b,u=>∃ t,u=Value.bytes b t
 | .flt b,u=>∃ t,u=Value.float b t
 | .ref a,u=>u=Value.ref a
 | .ty n,u=>u=Value.type n
abbrev Ys:List V→List Value→Prop:=Paired YB
theorem Ys.length {xs:List V} {us:List Value} (r:Ys xs us):xs.length=us.length:=Paired.length r
theorem Ys.get:∀ {xs:List V} {us:List Value} {i:Nat} {x:V},Ys xs us→xs[i]?=some x→∃ u,us[i]?=some u∧YB x u
 | _,_,_,_,.nil,e=>by simp at e
 | _,_,0,_,.cons r _,e=>by simp at e;subst e;exact ⟨_,rfl,r⟩
 | _,_,i+1,x,.cons _ t,e=>by
  obtain ⟨u,h1,h2⟩:=Ys.get (i:=i) (x:=x) t (by simpa using e)
  exact ⟨u,by simpa using h1,h2⟩
theorem Ys.set {x:V} {u:Value} (r:YB x u):∀ {xs:List V} {us:List Value} (i:Nat),Ys xs us→Ys (xs.set i x) (us.set i u)
 | _,_,_,.nil => .nil
 | _,_,0,.cons _ t => .cons r t
 | _,_,i+1,.cons q t => .cons q (Ys.set r i t)
theorem Ys.append:∀ {xs ys:List V} {us ws:List Value},Ys xs us→Ys ys ws→Ys (xs++ys) (us++ws)
 | _,_,_,_,.nil,s=>s
 | _,_,_,_,.cons r t,s => .cons r (Ys.append t s)
theorem Ys.take:∀ {xs:List V} {us:List Value} (n:Nat),Ys xs us→Ys (xs.take n) (us.take n)
 | _,_,0,_ => .nil
 | _,_,_+1,.nil => .nil
 | _,_,n+1,.cons r t => .cons r (Ys.take n t)
theorem Ys.drop:∀ {xs:List V} {us:List Value} (n:Nat),Ys xs us→Ys (xs.drop n) (us.drop n)
 | _,_,0,r=>r
 | _,_,_+1,.nil => .nil
 | _,_,n+1,.cons _ t=>Ys.drop n t
theorem Ys.none_of:∀ {xs:List V} {us:List Value} {i:Nat},Ys xs us→xs[i]?=none→us[i]?=none:=fun {xs us i} r e=>by
 have h1:=r.length
 have h2:xs.length≤i:=List.getElem?_eq_none_iff.mp e
 exact List.getElem?_eq_none_iff.mpr (by omega)
def WB:Option V→Option Value→Prop
 | some v,some u=>YB v u
 | none,none=>True
 | _,_=>False
def KV {κ:Type}:List (κ×V)→List (κ×Value)→Prop:=Paired fun (p:κ×V) (q:κ×Value)=>p.1=q.1∧YB p.2 q.2
def kV:Key→V
 | .inl i => .int i
 | .inr x => .str x
inductive HO where
 /-- a list -/
 | lst (xs:List V)
 /-- a tuple (never changes) -/
 | tup (xs:List V)
 /-- a dict whose keys are ints and texts;one whose keys are tuples of ints and texts (the empty one is both) -/
 | dK (kvs:List (Key×V)) | dT (kvs:List (List Key×V))
 /-- a set of ints: its members,its size -/
 | set (S:Int→Bool) (n:Nat)
 /-- an instance of the class at C,its dict at dx,its attributes -/
 | ins (C dx:Addr) (fs:List (Str×V))
 /-- the dict of the instance at x -/
 | own (x:Addr)
 /-- the dict of an exception -/
 | xd (fs:List (Str×V))
 /-- a bound method,f of x -/
 | met (f x:Addr)
 /-- a range object lo,lo+1,.. below hi -/
 | rng (lo hi:Int)
 /-- a thing that is known to the object (the script;a dict while a loop walks it): read,never written while it is so -/
 | frz (o:Obj) (u:HO)
 /-- a code object's table -/
 | tbl (ps:Array Value)
 /-- any other thing,by what is true of its one object (a def of one's own: SetO a S n:=HO.ext fun h => ..) -/
 | ext (φ:Heap→Prop)
abbrev Hp:=Addr→Option HO
def upd (H:Hp) (a:Addr) (o:HO):Hp:=fun b=>if b=a then some o else H b
theorem Ye {H:Hp} {a:Addr} {o:HO}:upd H a o a=some o:=by unfold upd;rw [if_pos rfl]
theorem Yd {H:Hp} {a b:Addr} {o:HO} (h:b≠a):upd H a o b=H b:=by unfold upd;rw [if_neg h]
theorem XD {H:Hp} {a b:Addr} {o u:HO} (h:H a=some o) (h':H b=some u) (d:o≠u):a≠b:=by
 intro e;subst e;rw [h] at h';exact d (Option.some.inj h')
theorem Yk {H:Hp} {a b:Addr} {o:HO} (h:H a=some o) (h':H b=none):a≠b:=by
 intro e;subst e;rw [h] at h';cases h'
section
variable (P:Program) (w:World)
def Xe (H:Hp) (h:Heap) (a:Addr):HO→Prop
 | .lst xs=>xs.length≤sizeLine∧∃ (its:List Value) (n:Nat),Ys xs its∧h.get? a=some { cls := .type "list",data := .seq its.toArray n }
 | .tup xs=>xs.length≤sizeLine∧∃ its:List Value,Ys xs its∧IsTup h a its.toArray
 | .dK kvs=>kvs.length≤sizeLine∧(a==sysModules)=false∧∃ vs,KV kvs vs∧h.DictOf (XW P w) a vs
 | .dT kvs=>kvs.length≤sizeLine∧(a==sysModules)=false∧∃ xs:List (List Key×Addr×Value),
   Paired (fun (p:List Key×V) (q:List Key×Addr×Value)=>p.1=q.1∧H q.2.1=some (.tup (p.1.map kV))∧YB p.2 q.2.2) kvs xs ∧
   ∃ o es ep,h.get? a=some o∧o.ExactDict∧o.data = .dict es ep∧es.toList=xs.map (entryOfKey (tupleKind (XW P w)))∧(xs.map (·.1)).Nodup
 | .set S n=>h.SetOf (intKind P w) a S n
 | .ins C dx fs=>H dx=some (.own a)∧fs.length≤1000∧dx≠a∧h.get? a=some (PySem.W.instObj C dx) ∧
   ∃ mA,h.Ns1 dx mA∧(∀ f,WB (fs.lookup f) (mA f))∧PySem.Within mA (fs.map (·.1))
 | .own _=>∃ o,h.get? a=some o
 | .xd fs=>∃ mA,h.Ns1 a mA∧∀ f,WB (fs.lookup f) (mA f)
 | .rng lo hi=>∃ t u v,h.get? a=some { cls := .type "range",data := .fields #[.int lo t,.int hi u,.int 1 v] }
 | .frz o u=>h.get? a=some o∧Xe H h a u
 | .tbl ps=>h.get? a=some { cls := .none,data := .fields ps }
 | .met f x=>h.get? a=some (PySem.W.methodObj (.ref f) (.ref x))
 | .ext φ=>φ h∧(∃ o,h.get? a=some o)∧∀ h1 h2:Heap,φ h1→(∀ o,h1.get? a=some o→h2.get? a=some o)→φ h2
def HOk (H:Hp) (h:Heap):Prop:=∀ a o,H a=some o→Xe P w H h a o
end
section
variable {P:Program} {w:World} {H H':Hp} {h h':Heap} {a:Addr} {o:HO}
theorem Xe.lt (x:Xe P w H h a o):a<h.objs.size:=by
 cases o with
 | lst xs=>obtain ⟨_,_,_,_,e⟩:=x;exact Heap.lt_size e
 | tup xs=>obtain ⟨_,_,_,p⟩:=x;exact p.lt
 | dK kvs=>obtain ⟨_,_,_,_,o,_,_,e,_⟩:=x;exact Heap.lt_size e
 | dT kvs=>obtain ⟨_,_,_,_,o,_,_,e,_⟩:=x;exact Heap.lt_size e
 | set S n=>obtain ⟨o,_,_,_,e,_⟩:=x;exact Heap.lt_size e
 | ins C dx fs=>obtain ⟨_,_,_,e,_⟩:=x;exact Heap.lt_size e
 | own y=>obtain ⟨_,e⟩:=x;exact Heap.lt_size e
 | xd fs=>obtain ⟨_,⟨_,_,_,e,_⟩,_⟩:=x;exact Heap.lt_size e
 | rng lo hi=>obtain ⟨_,_,_,e⟩:=x;exact Heap.lt_size e
 | frz ob u=>obtain ⟨e,_⟩:=x;exact Heap.lt_size e
 | tbl ps=>exact Heap.lt_size (show h.get? a=some _ from x)
 | met f y=>exact Heap.lt_size (show h.get? a=some _ from x)
 | ext φ=>obtain ⟨_,⟨_,e⟩,_⟩:=x;exact Heap.lt_size e
theorem Paired.mapP {α β:Type} {F G:α→β→Prop}:∀ {l₁:List α} {l₂:List β},Paired F l₁ l₂→(∀ a b,F a b→G a b)→Paired G l₁ l₂
 | _,_,.nil,_ => .nil
 | _,_,.cons r t,f => .cons (f _ _ r) (Paired.mapP t f)
theorem Xe.stay (x:Xe P w H h a o) (k:∀ b u,(b=a∨H b=some (.own a))→h.get? b=some u→h'.get? b=some u)
  (ho:∀ b,H b=some (.own a)→H' b=some (.own a)) (ht:∀ b xs,H b=some (.tup xs)→H' b=some (.tup xs)):Xe P w H' h' a o:=by
 induction o with
 | lst xs=>obtain ⟨z,its,n,r,e⟩:=x;exact ⟨z,its,n,r,k _ _ (.inl rfl) e⟩
 | tup xs=>obtain ⟨z,its,r,ob,e,c⟩:=x;exact ⟨z,its,r,ob,k _ _ (.inl rfl) e,c⟩
 | dK kvs=>obtain ⟨z,y,vs,r,ob,es,ep,e,c⟩:=x;exact ⟨z,y,vs,r,ob,es,ep,k _ _ (.inl rfl) e,c⟩
 | dT kvs =>
  obtain ⟨z,y,xs,r,ob,es,ep,e,c⟩:=x
  exact ⟨z,y,xs,Paired.mapP r fun p q z=>⟨z.1,ht _ _ z.2.1,z.2.2⟩,ob,es,ep,k _ _ (.inl rfl) e,c⟩
 | set S n=>obtain ⟨ob,es,ep,t,e,c⟩:=x;exact ⟨ob,es,ep,t,k _ _ (.inl rfl) e,c⟩
 | ins C dx fs =>
  obtain ⟨d,z,ne,e,mA,⟨od,es,ep,e2,c⟩,r⟩:=x
  exact ⟨ho _ d,z,ne,k _ _ (.inl rfl) e,mA,⟨od,es,ep,k _ _ (.inr d) e2,c⟩,r⟩
 | own y=>obtain ⟨ob,e⟩:=x;exact ⟨ob,k _ _ (.inl rfl) e⟩
 | xd fs=>obtain ⟨mA,⟨od,es,ep,e,c⟩,r⟩:=x;exact ⟨mA,⟨od,es,ep,k _ _ (.inl rfl) e,c⟩,r⟩
 | rng lo hi=>obtain ⟨t,u,v,e⟩:=x;exact ⟨t,u,v,k _ _ (.inl rfl) e⟩
 | frz ob u ih=>obtain ⟨e,q⟩:=x;exact ⟨k _ _ (.inl rfl) e,ih q⟩
 | tbl ps =>
  have e:h.get? a=some { cls := .none,data := .fields ps }:=x
  show h'.get? a=some { cls := .none,data := .fields ps }
  exact k a _ (.inl rfl) e
 | met f y =>
  have e:h.get? a=some (PySem.W.methodObj (.ref f) (.ref y)):=x
  show h'.get? a=some (PySem.W.methodObj (.ref f) (.ref y))
  exact k a _ (.inl rfl) e
 | ext φ=>obtain ⟨p,⟨o,e⟩,st⟩:=x;exact ⟨st _ _ p fun o q=>k _ _ (.inl rfl) q,⟨o,k _ _ (.inl rfl) e⟩,st⟩
theorem HOk.lt (x:HOk P w H h) (e:H a=some o):a<h.objs.size:=(x a o e).lt
theorem HOk.fresh (x:HOk P w H h) (e:h.objs.size≤a):H a=none:=by
 cases q:H a with
 | none=>rfl
 | some u=>exact absurd (Nat.lt_of_lt_of_le (x.lt q) e) (Nat.lt_irrefl _)
theorem HOk.kept (x:HOk P w H h) (k:∀ b u,h.get? b=some u→h'.get? b=some u):HOk P w H h':=fun a o e =>
 (x a o e).stay (fun b u _ q=>k b u q) (fun _ q=>q) fun _ _ q=>q
theorem HOk.laid (x:HOk P w H h) (k:∀ b u,h.get? b=some u→h'.get? b=some u) (hp:h.objs.size≤a) (new:Xe P w (upd H a o) h' a o):HOk P w (upd H a o) h':=fun b u e=>by
 have hn:=x.fresh hp
 by_cases hb:b=a
 ·subst hb;rw [Ye] at e;cases e;exact new
 ·rw [Yd hb] at e
  exact (x b u e).stay (fun c v _ q=>k c v q) (fun c q=>by rw [Yd (Yk q hn)];exact q) fun c xs q=>by rw [Yd (Yk q hn)];exact q
end
def Rd (H:Hp) (a:Addr) (u:HO):Prop:=H a=some u∨∃ o,H a=some (.frz o u)
theorem Rd.ok {P:Program} {w:World} {H:Hp} {h:Heap} {a:Addr} {u:HO} (r:Rd H a u) (x:HOk P w H h):Xe P w H h a u:=by
 rcases r with r | ⟨o,r⟩
 ·exact x a u r
 ·obtain ⟨_,q⟩:=x a _ r
  exact q
def Mut:Option HO→Prop
 | some (.lst _)=>True
 | some (.dK _)=>True
 | some (.dT _)=>True
 | some (.set _ _)=>True
 | some (.ins _ _ _)=>True
 | some (.ext _)=>True
 | _=>False
section
variable {P:Program} {w:World} {H:Hp} {h h':Heap} {x e:Addr} {o':HO}
theorem HOk.write (ok:HOk P w H h) (mu:Mut (H x)) (he:e=x∨H e=some (.own x)) (k:∀ b u,b≠e→h.get? b=some u→h'.get? b=some u) (heo:∃ u,h'.get? e=some u)
  (new:Xe P w (upd H x o') h' x o'):HOk P w (upd H x o') h':=fun b u q=>by
 have nown:∀ c y,H c=some (.own y)→c≠x:=fun c y r z=>by subst z;rw [r] at mu;exact mu
 have ntup:∀ c xs,H c=some (.tup xs)→c≠x:=fun c xs r z=>by subst z;rw [r] at mu;exact mu
 by_cases hb:b=x
 ·subst hb;rw [Ye] at q;cases q;exact new
 ·rw [Yd hb] at q
  by_cases hbe:b=e
  ·have q':H b=some (.own x):=by
    rcases he with z | z
    ·exact absurd (hbe.trans z) hb
    ·rw [hbe];exact z
   rw [q] at q';cases q'
   obtain ⟨v,hv⟩:=heo
   exact ⟨v,by rw [hbe];exact hv⟩
  ·refine (ok b u q).stay (fun c v hc r=>k c v ?_ r) (fun c r=>by rw [Yd (nown c b r)];exact r) fun c xs r=>by rw [Yd (ntup c xs r)];exact r
   rcases hc with rfl | hc
   ·exact hbe
   ·rintro rfl
    rcases he with z | z
    ·exact nown c b hc z
    ·rw [hc] at z;cases z;exact hb rfl
end
structure Un (fs ex:List Addr) (H H':Hp) (h h':Heap):Prop where
 keep:∀ b o,h.get? b=some o→H b=none→b∉fs→b∉ex→h'.get? b=some o
 slot:∀ b o,h.get? b=some o→H b=none→b∈fs→b∉ex→∃ sl,h'.get? b=some { o with slots:=sl }
 free:∀ b o,h.get? b=some o→H b=none→b∉ex→H' b=none
 there:∀ b o,h.get? b=some o→b∉ex→∃ o',h'.get? b=some o'
 tups:∀ b xs,H b=some (.tup xs)→H' b=some (.tup xs)
 frzs:∀ b o u,H b=some (.frz o u)→H' b=some (.frz o u)
 tbls:∀ b ps,H b=some (.tbl ps)→∃ more,H' b=some (.tbl (ps++more))
section
variable {fs fs' ex ex':List Addr} {H H1 H2:Hp} {h h1 h2 h':Heap} {a x e:Addr} {o:HO}
theorem Un.any (u:Un fs ex H H1 h h1) {b:Addr} {ob:Obj} (q:h.get? b=some ob) (n:H b=none) (hx:b∉ex):∃ sl,h1.get? b=some { ob with slots:=sl }:=by
 by_cases hb:b∈fs
 ·exact u.slot b ob q n hb hx
 ·exact ⟨ob.slots,u.keep b ob q n hb hx⟩
theorem Un.kept (k:∀ b u,h.get? b=some u→h'.get? b=some u):Un fs ex H H h h' :=
 ⟨fun b ob q _ _ _=>k b ob q,fun b ob q _ _ _=>⟨ob.slots,k b ob q⟩,fun _ _ _ n _=>n,fun b ob q _=>⟨ob,k b ob q⟩,fun _ _ q=>q,fun _ _ _ q=>q,fun _ ps q=>⟨#[],by rw [q];simp⟩⟩
theorem Un.refl:Un fs ex H H h h:=Un.kept fun _ _ q=>q
theorem Un.laid (k:∀ b u,h.get? b=some u→h'.get? b=some u) (hp:h.objs.size≤a) (hn:H a=none):Un fs ex H (upd H a o) h h' where
 keep:=fun b u q _ _ _=>k b u q
 slot:=fun b u q _ _ _=>⟨u.slots,k b u q⟩
 free:=fun b u q n _=>by rw [Yd (Nat.ne_of_lt (Nat.lt_of_lt_of_le (Heap.lt_size q) hp))];exact n
 there:=fun b u q _=>⟨u,k b u q⟩
 tups:=fun b xs q=>by rw [Yd (Yk q hn)];exact q
 frzs:=fun b u xs q=>by rw [Yd (Yk q hn)];exact q
 tbls:=fun b ps q=>⟨#[],by rw [Yd (Yk q hn),q];simp⟩
theorem Un.write (mu:Mut (H x)) (he:e=x∨H e=some (.own x)) (k:∀ b u,b≠e→h.get? b=some u→h'.get? b=some u) (heo:∃ u,h'.get? e=some u):Un fs ex H (upd H x o) h h':=by
 have hx:∀ b,H b=none→b≠x:=fun b n z=>by subst z;rw [n] at mu;exact mu
 have hb:∀ b,H b=none→b≠e:=fun b n z=>by
  subst z
  rcases he with r | r
  ·exact hx b n r
  ·rw [n] at r;cases r
 have hm:∀ b u,H b=some u→¬ Mut (some u)→b≠x:=fun b u q nm z=>by subst z;rw [q] at mu;exact nm mu
 refine ⟨fun b u q n _ _=>k b u (hb b n) q,fun b u q n _ _=>⟨u.slots,k b u (hb b n) q⟩,fun b u q n _=>by rw [Yd (hx b n)];exact n,fun b u q _=>?_,
  fun b xs q=>by rw [Yd (hm b _ q fun z=>z)];exact q,fun b u xs q=>by rw [Yd (hm b _ q fun z=>z)];exact q,fun b ps q=>⟨#[],by rw [Yd (hm b _ q fun z=>z),q];simp⟩⟩
 by_cases hbe:b=e
 ·subst hbe;exact heo
 ·exact ⟨u,k b u hbe q⟩
end
def trk (h:Heap) (H:Hp):List Addr:=(List.range h.objs.size).filter fun a=>(H a).isSome
def Vi (h:Heap) (H:Hp):Heap:=PySem.W.hideAll h (trk h H)
theorem Ybz (h:Heap) (H:Hp):(Vi h H).objs.size=h.objs.size:=PySem.W.hideAll_size _ _
theorem Yck {h:Heap} {H:Hp} {b:Addr} {o:Obj} (e:h.get? b=some o) (n:H b=none):(Vi h H).get? b=some o :=
 PySem.W.hideAll_get _ e fun hm=>by
  have q:(H b).isSome=true:=(List.mem_filter.mp hm).2
  rw [n] at q;simp at q
theorem Yc8 {h:Heap} {H:Hp} {b:Addr} {o:Obj} (e:(Vi h H).get? b=some o):h.get? b=some o∧H b=none:=by
 have e':h.get? b=some o:=PySem.W.of_hideAll (trk h H) e
 refine ⟨e',?_⟩
 cases q:H b with
 | none=>rfl
 | some x =>
  have hm:b∈trk h H:=List.mem_filter.mpr ⟨List.mem_range.mpr (Heap.lt_size e'),by simp [q]⟩
  have z:(Vi h H).get? b=none:=PySem.W.hideAll_none (trk h H) hm
  rw [z] at e;cases e
def Yc9 (g h:Heap) (L:Addr):List (Addr×Obj):=(List.range h.objs.size).filterMap fun a=>if a=L∨(g.get? a).isSome=true then none else (h.get? a).map fun o=>(a,o)
def XL (g h:Heap) (L d:Addr):List (Addr×Obj):=(Yc9 g h L).filter fun p=>decide (p.1≠d)
end L2
namespace L2
open PySem PySem.Spec PyProof.Rows
structure Mod (K:PySem.W.Frag) (mg:Str→Option Value) (base:Heap):Prop where
 kin:K.In base
 glob:base.Ns mainGlobals mg
 blt:∃ mb,base.Ns builtinsNs mb∧∀ x:Str,x≠"__name__"→mb x=bootBuiltins x
 nolimit:base.NoLimit
structure Cx where
 prog:Program
 w:World
 K:PySem.W.Frag
 mg:Str→Option Value
 base:Heap
 A:Around
 N:List Str
 s₀:Shared
 H₀:Hp
 env:Env
 outer:List Env
 stack:List Env
 ex:List Addr
 fn:Str→Bool
 calm:Bool
 pn:List (Addr×Obj)
 xe:Value→Shared→Prop
def frs (l:List Env):List Addr:=l.filterMap (·.frame)
abbrev Cx.fs (X:Cx):List Addr:=frs X.outer
def Vis (sc:Scope) (x:Str):Prop:=sc.names.lookup x=some .local∨sc.names.lookup x=some .cell∨sc.names.lookup x=some .free
def Loc (sc:Scope) (x:Str):Prop:=sc.names.lookup x=some .local∨sc.names.lookup x=some .cell
def Look (env:Env) (h:Heap) (m:Str→Option Value) (x:Str) (u:Value):Prop :=
 (env.kindOf x=some .local∧m x=some u)∨((env.kindOf x=some .cell∨env.kindOf x=some .free)∧∃ c,env.cells.lookup x=some c∧h.IsCell c (some u))
structure Cx.Ok (X:Cx):Prop where
 mod:Mod X.K X.mg X.base
 kind:X.env.scope.kind = .function
 glob:X.env.globals=mainGlobals
 blt:X.env.builtins=builtinsNs
 above:X.s₀.heap.objs.size≤X.env.locals
 inj:∀ x y c,X.env.cells.lookup x=some c→X.env.cells.lookup y=some c→x=y
 has:∀ x,(X.env.kindOf x=some .cell∨X.env.kindOf x=some .free)→∃ c,X.env.cells.lookup x=some c
 cab:∀ x c,X.fn x=true→X.env.cells.lookup x=some c→X.s₀.heap.objs.size≤c
 hd:X.calm=true→X.A.handled=none
 frames:X.A.frames=some X.stack
 stk:X.stack=X.outer∨(X.stack=X.env::X.outer∧X.env.frame=some X.env.locals)
 exf:∀ b∈X.ex,b≠X.env.locals∧∀ x c,X.env.cells.lookup x=some c→c≠b
 bs:∀ b o,X.base.get? b=some o→X.s₀.heap.get? b=some o∧X.H₀ b=none
 bsz:X.base.objs.size≤X.s₀.heap.objs.size
 noex:∀ b o,X.base.get? b=some o→b∉X.ex
 exfs:∀ b∈X.ex,b∉X.fs
 funs:X.s₀.heap.FunFrames X.base X.outer
 frf:∀ b∈X.fs,X.H₀ b=none
structure Inv (X:Cx) (pins:List (Addr×Obj)) (σ:List (Option V)) (H:Hp) (s:Shared):Prop where
 ok:X.Ok
 os:s.os=X.s₀.os
 bare:AllBare s.gens
 base:Un X.fs X.ex X.H₀ H X.s₀.heap s.heap
 loc:∃ m,s.heap.Ns X.env.locals m∧∀ (i:Nat) (x:Str) (v:V),X.N[i]?=some x→σ[i]?=some (some v)→Vis X.env.scope x→∃ u,YB v u∧Look X.env s.heap m x u
 cell:∀ x c,X.env.cells.lookup x=some c→∃ v,s.heap.IsCell c v
 free:H X.env.locals=none
 freeC:∀ x c,X.env.cells.lookup x=some c→H c=none
 pin:∀ p∈X.pn++pins,s.heap.get? p.1=some p.2∧H p.1=none∧p.1≠X.env.locals∧p.1∉X.fs∧∀ v,p.2.data ≠ .cell v
 hok:HOk X.prog X.w H s.heap
 len:σ.length=X.N.length
section
variable {X:Cx} {pins:List (Addr×Obj)} {σ:List (Option V)} {H H':Hp} {s:Shared} {h':Heap}
theorem Cx.Ok.nofr (ok:X.Ok) {b:Addr} {o:Obj} (e:X.base.get? b=some o):b∉X.fs:=fun hb=>by
 have:=(ok.funs.mem hb).1
 rw [e] at this;cases this
theorem Inv.bs (I:Inv X pins σ H s):∀ b o,X.base.get? b=some o→s.heap.get? b=some o∧H b=none:=fun b o e =>
 ⟨I.base.keep b o (I.ok.bs b o e).1 (I.ok.bs b o e).2 (I.ok.nofr e) (I.ok.noex b o e),I.base.free b o (I.ok.bs b o e).1 (I.ok.bs b o e).2 (I.ok.noex b o e)⟩
theorem Inv.bk (I:Inv X pins σ H s):∀ b o,X.base.get? b=some o→s.heap.get? b=some o:=fun b o e=>(I.bs b o e).1
theorem Inv.mod (I:Inv X pins σ H s):Mod X.K X.mg X.base:=I.ok.mod
theorem Inv.kIn (I:Inv X pins σ H s):X.K.In s.heap:=I.ok.mod.kin.keeps I.bk
theorem Inv.lt (I:Inv X pins σ H s):X.env.locals<s.heap.objs.size:=let ⟨_,hn,_⟩:=I.loc;hn.lt
theorem Inv.sz (I:Inv X pins σ H s):X.s₀.heap.objs.size≤s.heap.objs.size:=Nat.le_trans I.ok.above (Nat.le_of_lt I.lt)
theorem Inv.nofs (I:Inv X pins σ H s) {a:Addr} (h:s.heap.objs.size≤a):a∉X.fs:=fun hb=>by
 obtain ⟨_,o,ho,_⟩:=I.ok.funs.mem hb
 exact absurd (Nat.lt_of_lt_of_le (Heap.lt_size ho) (Nat.le_trans I.sz h)) (Nat.lt_irrefl _)
theorem Inv.cne (I:Inv X pins σ H s):∀ x c,X.env.cells.lookup x=some c→c≠X.env.locals:=fun x c e z=>by
 obtain ⟨v,o,ho,hd⟩:=I.cell x c e
 obtain ⟨m,⟨o',es,ep,ho',hd',_⟩,_⟩:=I.loc
 rw [z,ho'] at ho;cases ho;rw [hd'] at hd;cases hd
theorem Inv.funs (I:Inv X pins σ H s):s.heap.FunFrames X.base X.outer:=by
 have all:∀ (l:List Env),(∀ b∈frs l,b∈X.fs)→X.s₀.heap.FunFrames X.base l→s.heap.FunFrames X.base l:=by
  intro l
  induction l with
  | nil=>intro _ _;trivial
  | cons env r ih =>
   intro hs hl
   obtain ⟨hk,⟨L,o,hf,hn,ho,hd⟩,hr⟩:=hl
   have hL:L∈X.fs:=hs L (by unfold frs;rw [List.filterMap_cons,hf];exact List.mem_cons_self)
   obtain ⟨sl,e⟩:=I.base.slot L o ho (I.ok.frf L hL) hL fun z=>I.ok.exfs L z hL
   exact ⟨hk,⟨L,_,hf,hn,e,hd⟩,ih (fun b hb=>hs b (by unfold frs;rw [List.filterMap_cons,hf];exact List.mem_cons_of_mem _ hb)) hr⟩
 exact all X.outer (fun _ hb=>hb) I.ok.funs
theorem Inv.stack (I:Inv X pins σ H s):s.heap.FunFrames X.base X.stack:=by
 rcases I.ok.stk with e | ⟨e,hf⟩
 ·rw [e];exact I.funs
 ·rw [e]
  obtain ⟨m,hn,_⟩:=I.loc
  refine .cons (by rw [I.ok.kind];decide) hf hn ?_ I.funs
  exact Heap.get?_none_of_le (Nat.le_trans I.ok.bsz I.ok.above)
theorem Inv.stkSub (I:Inv X pins σ H s):∀ b∈frs X.stack,b∈X.env.locals::X.fs:=fun b hb=>by
 rcases I.ok.stk with e | ⟨e,hf⟩
 ·rw [e] at hb;exact List.mem_cons_of_mem _ hb
 ·rw [e] at hb
  unfold frs at hb
  rw [List.filterMap_cons,hf] at hb
  exact hb
theorem Inv.stkFree (I:Inv X pins σ H s):∀ b∈frs X.stack,H b=none:=fun b hb=>by
 rcases List.mem_cons.mp (I.stkSub b hb) with e | hb
 ·rw [e];exact I.free
 ·obtain ⟨_,o,ho,_⟩:=I.ok.funs.mem hb
  exact I.base.free b o ho (I.ok.frf b hb) fun z=>I.ok.exfs b z hb
theorem Inv.step {g':Array GenState} {t':Nat} {d':Drawn} {ch:List Addr} (I:Inv X pins σ H s)
  (hch:∀ b∈ch,(b∈X.ex∨X.s₀.heap.objs.size≤b)∧b≠X.env.locals∧(∀ x c,X.env.cells.lookup x=some c→c≠b)∧∀ p∈X.pn++pins,p.1≠b)
  (keep:∀ b o,b≠X.env.locals→b∉X.fs→b∉ch→s.heap.get? b=some o→H b=none→h'.get? b=some o)
  (slot:∀ b o,b≠X.env.locals→b∈X.fs→b∉ch→s.heap.get? b=some o→H b=none→∃ sl,h'.get? b=some { o with slots:=sl }) (free:∀ b o,b∉ch→s.heap.get? b=some o→H b=none→H' b=none)
  (there:∀ b o,b∉ch→s.heap.get? b=some o→∃ o',h'.get? b=some o')
  (tups:∀ b xs,H b=some (.tup xs)→H' b=some (.tup xs)) (frzs:∀ b o u,H b=some (.frz o u)→H' b=some (.frz o u)) (tbls:∀ b ps,H b=some (.tbl ps)→∃ more,H' b=some (.tbl (ps++more)))
  (ns:∀ m,s.heap.Ns X.env.locals m→h'.Ns X.env.locals m) (hok:HOk X.prog X.w H' h') (hg:AllBare g') :
  Inv X pins σ H' { s with heap:=h',gens:=g',drawn:=d',toks:=t' }:=by
 have neL:∀ b o,X.s₀.heap.get? b=some o→b≠X.env.locals:=fun b o e=>Nat.ne_of_lt (Nat.lt_of_lt_of_le (Heap.lt_size e) I.ok.above)
 have neC:∀ b o,X.s₀.heap.get? b=some o→b∉X.ex→b∉ch:=fun b o e hx hb=>by
  rcases (hch b hb).1 with z | z
  ·exact hx z
  ·exact absurd (Nat.lt_of_lt_of_le (Heap.lt_size e) z) (Nat.lt_irrefl _)
 have cellK:∀ x c,X.env.cells.lookup x=some c→∀ v,s.heap.IsCell c v→h'.IsCell c v:=fun x c e v ⟨o,ho,hd⟩=>by
  have nch:c∉ch:=fun z=>(hch c z).2.2.1 x c e rfl
  by_cases hc:c∈X.fs
  ·obtain ⟨sl,q⟩:=slot c o (I.cne x c e) hc nch ho (I.freeC x c e)
   exact ⟨_,q,hd⟩
  ·exact ⟨o,keep c o (I.cne x c e) hc nch ho (I.freeC x c e),hd⟩
 refine ⟨I.ok,I.os,hg,⟨fun b o e n hb hx=>?_,fun b o e n hb hx=>?_,fun b o e n hx=>?_,fun b o e hx=>?_,fun b xs e=>tups b xs (I.base.tups b xs e),fun b o xs e=>frzs b o xs (I.base.frzs b o xs e),fun b ps e=>?_⟩,?_,fun x c e=>?_,?_,fun x c e=>?_,fun p hp=>?_,hok,I.len⟩
 ·exact keep b o (neL b o e) hb (neC b o e hx) (I.base.keep b o e n hb hx) (I.base.free b o e n hx)
 ·obtain ⟨sl,e1⟩:=I.base.slot b o e n hb hx
  obtain ⟨sl',e2⟩:=slot b _ (neL b o e) hb (neC b o e hx) e1 (I.base.free b o e n hx)
  exact ⟨sl',e2⟩
 ·obtain ⟨o',e1⟩:=I.base.there b o e hx
  exact free b o' (neC b o e hx) e1 (I.base.free b o e n hx)
 ·obtain ⟨o',e1⟩:=I.base.there b o e hx
  exact there b o' (neC b o e hx) e1
 ·obtain ⟨m1,e1⟩:=I.base.tbls b ps e
  obtain ⟨m2,e2⟩:=tbls b _ e1
  exact ⟨m1++m2,by rw [e2,Array.append_assoc]⟩
 ·obtain ⟨m,hn,hl⟩:=I.loc
  refine ⟨m,ns m hn,fun i x v e1 e2 e3=>?_⟩
  obtain ⟨u,r,l⟩:=hl i x v e1 e2 e3
  refine ⟨u,r,?_⟩
  rcases l with l | ⟨k,c,e,z⟩
  ·exact .inl l
  ·exact .inr ⟨k,c,e,cellK x c e _ z⟩
 ·obtain ⟨v,z⟩:=I.cell x c e
  exact ⟨v,cellK x c e v z⟩
 ·obtain ⟨m,⟨o,_,_,ho,_⟩,_⟩:=I.loc
  exact free _ o (fun z=>(hch _ z).2.1 rfl) ho I.free
 ·obtain ⟨v,o,ho,hd⟩:=I.cell x c e
  exact free c o (fun z=>(hch c z).2.2.1 x c e rfl) ho (I.freeC x c e)
 ·obtain ⟨e,n,ne,nf,d⟩:=I.pin p hp
  have nch:p.1∉ch:=fun z=>(hch p.1 z).2.2.2 p hp rfl
  exact ⟨keep p.1 p.2 ne nf nch e n,free p.1 p.2 nch e n,ne,nf,d⟩
theorem Inv.un {t':Nat} (I:Inv X pins σ H s) (u:Un X.fs [] H H' s.heap h') (hok:HOk X.prog X.w H' h'):Inv X pins σ H' { s with heap:=h',toks:=t' }:=by
 obtain ⟨m,⟨o,es,ep,ho,r⟩,_⟩:=id I.loc
 obtain ⟨sl,hL⟩:=u.any ho I.free (by simp)
 exact I.step (g':=s.gens) (d':=s.drawn) (ch:=[]) (fun _ z=>nomatch z) (fun b o _ hb _ e n=>u.keep b o e n hb (by simp)) (fun b o _ hb _ e n=>u.slot b o e n hb (by simp)) (fun b o _ e n=>u.free b o e n (by simp)) (fun b o _ e=>u.there b o e (by simp)) u.tups u.frzs u.tbls (fun m' hm=>by
  obtain ⟨o',es',ep',ho',r'⟩:=hm
  rw [ho] at ho';cases ho'
  exact ⟨_,es',ep',hL,r'⟩) hok I.bare
theorem Inv.call {g':Array GenState} {t':Nat} {d':Drawn} {ch:List Addr} (I:Inv X pins σ H s) (u:Un (frs X.stack) ch H H' s.heap h') (hok:HOk X.prog X.w H' h') (hg:AllBare g')
  (hch:∀ b∈ch,(b∈X.ex∨X.s₀.heap.objs.size≤b)∧b≠X.env.locals∧(∀ x c,X.env.cells.lookup x=some c→c≠b)∧∀ p∈X.pn++pins,p.1≠b) :
  Inv X pins σ H' { s with heap:=h',gens:=g',drawn:=d',toks:=t' }:=by
 obtain ⟨m,⟨o,es,ep,ho,r⟩,_⟩:=id I.loc
 obtain ⟨sl,hL⟩:=u.any ho I.free fun z=>(hch _ z).2.1 rfl
 exact I.step (ch:=ch) hch (fun b o hL hb hc e n=>u.keep b o e n (fun z=>(List.mem_cons.mp (I.stkSub b z)).elim hL hb) hc) (fun b o _ _ hc e n=>u.any e n hc) (fun b o hc e n=>u.free b o e n hc) (fun b o hc e=>u.there b o e hc) u.tups u.frzs u.tbls (fun m' hm=>by
  obtain ⟨o',es',ep',ho',r'⟩:=hm
  rw [ho] at ho';cases ho'
  exact ⟨_,es',ep',hL,r'⟩) hok hg
theorem Inv.turned {t':Nat} {it:Addr} (I:Inv X pins σ H s) (k:∀ b o,b≠it→s.heap.get? b=some o→h'.get? b=some o) (hn:H it=none) (hL:it≠X.env.locals)
  (h1:it∈X.ex∨X.s₀.heap.objs.size≤it) (h2:∀ x c,X.env.cells.lookup x=some c→c≠it) (h3:∀ p∈X.pn++pins,p.1≠it):Inv X pins σ H { s with heap:=h',toks:=t' }:=by
 have nit:∀ b u,H b=some u→b≠it:=fun b u e z=>by rw [z,hn] at e;cases e
 refine I.step (g':=s.gens) (d':=s.drawn) (ch:=[it]) (fun b hb=>?_) (fun b o _ _ hc e _=>k b o (fun z=>hc (by simp [z])) e) (fun b o _ _ hc e _=>⟨o.slots,k b o (fun z=>hc (by simp [z])) e⟩) (fun _ _ _ _ n=>n)
  (fun b o hc e=>⟨o,k b o (fun z=>hc (by simp [z])) e⟩) (fun _ _ e=>e) (fun _ _ _ e=>e) (fun b ps e=>⟨#[],by rw [e];simp⟩) (fun m hm=>?_) (fun b u e=>?_) I.bare
 ·have e:b=it:=by simpa using hb
  subst e
  exact ⟨h1,hL,h2,h3⟩
 ·obtain ⟨o,es,ep,ho,r⟩:=hm
  exact ⟨o,es,ep,k _ o (Ne.symm hL) ho,r⟩
 ·refine (I.hok b u e).stay (fun c v hc q=>k c v ?_ q) (fun _ q=>q) fun _ _ q=>q
  rcases hc with z | z
  ·rw [z];exact nit b u e
  ·exact nit c _ z
theorem Inv.tok (I:Inv X pins σ H s) (t:Nat):Inv X pins σ H { s with toks:=t }:=I.un (h':=s.heap) (t':=t) Un.refl I.hok
theorem Inv.kept {t':Nat} (I:Inv X pins σ H s) (k:∀ b u,s.heap.get? b=some u→h'.get? b=some u):Inv X pins σ H { s with heap:=h',toks:=t' }:=I.un (Un.kept k) (I.hok.kept k)
theorem Inv.laid {a:Addr} {o:HO} {t':Nat} (I:Inv X pins σ H s) (k:∀ b u,s.heap.get? b=some u→h'.get? b=some u) (hp:s.heap.objs.size≤a) (new:Xe X.prog X.w (upd H a o) h' a o) :
  Inv X pins σ (upd H a o) { s with heap:=h',toks:=t' }:=I.un (Un.laid k hp (I.hok.fresh hp)) (I.hok.laid k hp new)
theorem Inv.write {x e:Addr} {o:HO} {t':Nat} (I:Inv X pins σ H s) (mu:Mut (H x)) (he:e=x∨H e=some (.own x)) (k:∀ b u,b≠e→s.heap.get? b=some u→h'.get? b=some u) (heo:∃ u,h'.get? e=some u)
  (new:Xe X.prog X.w (upd H x o) h' x o):Inv X pins σ (upd H x o) { s with heap:=h',toks:=t' }:=I.un (Un.write mu he k heo) (I.hok.write mu he k heo new)
theorem Inv.pins_of {pins':List (Addr×Obj)} (I:Inv X pins σ H s) (h:∀ p∈pins',s.heap.get? p.1=some p.2∧H p.1=none∧p.1≠X.env.locals∧p.1∉X.fs∧∀ v,p.2.data ≠ .cell v):Inv X pins' σ H s :=
 ⟨I.ok,I.os,I.bare,I.base,I.loc,I.cell,I.free,I.freeC,fun p hp=>(List.mem_append.mp hp).elim (fun z=>I.pin p (List.mem_append_left _ z)) (h p),I.hok,I.len⟩
theorem Qe {N:List Str} (hN:N.Nodup) {i j:Nat} {x:Str} (a:N[i]?=some x) (b:N[j]?=some x):i=j:=by
 obtain ⟨h1,e1⟩:=List.getElem?_eq_some_iff.mp a
 obtain ⟨h2,e2⟩:=List.getElem?_eq_some_iff.mp b
 exact (List.getElem_inj hN).mp (e1.trans e2.symm)
theorem YbA {M:Model} {A:Around} {E:Value→Shared→Prop} {i:Nat} {x:Str} {v:V} {u:Value} {Q:Unit→Shared→Prop} (I:Inv X pins σ H s) (hN:X.N.Nodup) (hi:X.N[i]?=some x) (hx:Loc X.env.scope x) (r:YB v u)
  (h:∀ s',Inv X pins (σ.set i (some v)) H s'→(∃ a,Heap.SameBut a s.heap s'.heap∧(a=X.env.locals∨X.env.cells.lookup x=some a))→Q () s') (hf:X.fn x=true∨X.env.scope.names.lookup x=some .local:=by first | exact .inl rfl | exact .inr rfl | assumption):wpAny M A (storeName X.env x u) Q E s:=by
 obtain ⟨m,hn,hl⟩:=id I.loc
 have hcls:(X.env.scope.kind == .class||(X.env.scope.kind == .module&&X.env.locals != X.env.globals))=false:=by rw [I.ok.kind];rfl
 have hiσ:i<σ.length:=by rw [I.len];exact (List.getElem?_eq_some_iff.mp hi).1
 have cne:=I.cne
 have tracked:∀ {a:Addr} {h':Heap},(∃ o,s.heap.get? a=some o∧H a=none)→Heap.SameBut a s.heap h'→HOk X.prog X.w H h':=fun {a h'} ha hs b ob e=>by
  obtain ⟨_,_,hfree⟩:=ha
  refine (I.hok b ob e).stay (fun c w' hc q=>(hs.2 c ?_).trans q) (fun _ q=>q) fun _ _ q=>q
  rintro rfl
  rcases hc with rfl | hc
  ·rw [hfree] at e;cases e
  ·rw [hfree] at hc;cases hc
 rcases hx with hk | hk
 ·refine wpAny_storeName_local hk hn (fun h' hn' hs=>?_) hcls
  obtain ⟨oL,_,_,hoL,_⟩:=id hn
  refine h _ ⟨I.ok,I.os,I.bare,⟨fun b o e n hb hx=>?_,fun b o e n hb hx=>?_,I.base.free,fun b o e hx=>?_,I.base.tups,I.base.frzs,I.base.tbls⟩,⟨_,hn',fun j y v' e1 e2 e3=>?_⟩,fun y c e=>?_,I.free,I.freeC,fun p hp=>?_,tracked ⟨oL,hoL,I.free⟩ hs,by simpa using I.len⟩ ⟨_,hs,.inl rfl⟩
  ·exact (hs.2 b (Nat.ne_of_lt (Nat.lt_of_lt_of_le (Heap.lt_size e) I.ok.above))).trans (I.base.keep b o e n hb hx)
  ·obtain ⟨sl,e1⟩:=I.base.slot b o e n hb hx
   exact ⟨sl,(hs.2 b (Nat.ne_of_lt (Nat.lt_of_lt_of_le (Heap.lt_size e) I.ok.above))).trans e1⟩
  ·obtain ⟨o',e1⟩:=I.base.there b o e hx
   exact ⟨o',(hs.2 b (Nat.ne_of_lt (Nat.lt_of_lt_of_le (Heap.lt_size e) I.ok.above))).trans e1⟩
  ·by_cases hj:j=i
   ·subst hj
    rw [hi] at e1;cases e1
    rw [List.getElem?_set_self hiσ] at e2
    cases e2
    exact ⟨u,r,.inl ⟨hk,by simp⟩⟩
   ·rw [List.getElem?_set_ne (Ne.symm hj)] at e2
    obtain ⟨u',r',q⟩:=hl j y v' e1 e2 e3
    refine ⟨u',r',?_⟩
    rcases q with ⟨k,e⟩ | ⟨k,c,e,z⟩
    ·refine .inl ⟨k,?_⟩
     have:y≠x:=fun e=>hj (Qe hN e1 (e▸hi))
     simp [this,e]
    ·exact .inr ⟨k,c,e,z.sameBut hs (cne y c e)⟩
  ·obtain ⟨w',z⟩:=I.cell y c e
   exact ⟨w',z.sameBut hs (cne y c e)⟩
  ·obtain ⟨e,n,ne,nf,d⟩:=I.pin p hp
   exact ⟨(hs.2 p.1 ne).trans e,n,ne,nf,d⟩
 ·have hfn:X.fn x=true:=by
   rcases hf with z | z
   ·exact z
   ·rw [z] at hk;cases hk
  obtain ⟨c,hc⟩:=I.ok.has x (.inl hk)
  obtain ⟨w',z⟩:=I.cell x c hc
  refine wpAny_storeName_cell I.ok.kind hk hc z (fun h' hc' hs=>?_)
  obtain ⟨oc,hoc,hocd⟩:=id z
  refine h { s with heap:=h' } ⟨I.ok,I.os,I.bare,⟨fun b o e n hb hx=>?_,fun b o e n hb hx=>?_,I.base.free,fun b o e hx=>?_,I.base.tups,I.base.frzs,I.base.tbls⟩,⟨m,hn.sameBut hs (Ne.symm (cne x c hc)),fun j y v' e1 e2 e3=>?_⟩,fun y c' e=>?_,I.free,I.freeC,fun p hp=>?_,tracked ⟨oc,hoc,I.freeC x c hc⟩ hs,by simpa using I.len⟩ ⟨c,hs,.inr hc⟩
  ·exact (hs.2 b (Nat.ne_of_lt (Nat.lt_of_lt_of_le (Heap.lt_size e) (I.ok.cab x c hfn hc)))).trans (I.base.keep b o e n hb hx)
  ·obtain ⟨sl,e1⟩:=I.base.slot b o e n hb hx
   exact ⟨sl,(hs.2 b (Nat.ne_of_lt (Nat.lt_of_lt_of_le (Heap.lt_size e) (I.ok.cab x c hfn hc)))).trans e1⟩
  ·obtain ⟨o',e1⟩:=I.base.there b o e hx
   exact ⟨o',(hs.2 b (Nat.ne_of_lt (Nat.lt_of_lt_of_le (Heap.lt_size e) (I.ok.cab x c hfn hc)))).trans e1⟩
  ·by_cases hj:j=i
   ·subst hj
    rw [hi] at e1;cases e1
    rw [List.getElem?_set_self hiσ] at e2
    cases e2
    exact ⟨u,r,.inr ⟨.inl hk,c,hc,hc'⟩⟩
   ·rw [List.getElem?_set_ne (Ne.symm hj)] at e2
    obtain ⟨u',r',q⟩:=hl j y v' e1 e2 e3
    refine ⟨u',r',?_⟩
    rcases q with q | ⟨k,c',e,z'⟩
    ·exact .inl q
    ·refine .inr ⟨k,c',e,z'.sameBut hs ?_⟩
     rintro rfl
     exact hj (Qe hN e1 (I.ok.inj _ _ _ e hc▸hi))
  ·by_cases hcc:c'=c
   ·subst hcc;exact ⟨_,hc'⟩
   ·obtain ⟨w2,z2⟩:=I.cell y c' e
    exact ⟨w2,z2.sameBut hs hcc⟩
  ·obtain ⟨e,n,ne,nf,d⟩:=I.pin p hp
   refine ⟨(hs.2 p.1 ?_).trans e,n,ne,nf,d⟩
   intro q
   rw [q,hoc] at e
   have q':oc=p.2:=Option.some.inj e
   exact d w' (by rw [← q'];exact hocd)
theorem Qf {M:Model} {A:Around} {E:Value→Shared→Prop} {i:Nat} {x:Str} {v:V} {u:Value} {Q:Unit→Shared→Prop} (I:Inv X pins σ H s) (hN:X.N.Nodup) (hi:X.N[i]?=some x) (hx:Loc X.env.scope x) (r:YB v u)
  (h:∀ s',Inv X pins (σ.set i (some v)) H s'→Q () s') (hf:X.fn x=true∨X.env.scope.names.lookup x=some .local:=by first | exact .inl rfl | exact .inr rfl | assumption):wpAny M A (storeName X.env x u) Q E s :=
 YbA I hN hi hx r (fun s' I' _=>h s' I') hf
theorem Inv.call' {s':Shared} {ch:List Addr} (I:Inv X pins σ H s) (ho:s'.os=s.os) (u:Un (frs X.stack) ch H H' s.heap s'.heap) (hok:HOk X.prog X.w H' s'.heap) (hg:AllBare s'.gens)
  (hch:∀ b∈ch,(b∈X.ex∨X.s₀.heap.objs.size≤b)∧b≠X.env.locals∧(∀ x c,X.env.cells.lookup x=some c→c≠b)∧∀ p∈X.pn++pins,p.1≠b):Inv X pins σ H' s':=by
 obtain ⟨h',g',d',t',o'⟩:=s'
 have e:o'=s.os:=ho
 subst e
 exact I.call (g':=g') (t':=t') (d':=d') u hok hg hch
end
abbrev XK:=Value→Option Addr→Hp→Prop
abbrev St:=List (Option V)
abbrev VK:=V→Hp→Prop
abbrev TE:=St→Hp→VK→Prop
abbrev TT:=St→Hp→(Bool→Hp→Prop)→Prop
abbrev TA:=St→Hp→(List V→Hp→Prop)→Prop
structure Ends where
 nx:St→Hp→Prop
 rt:VK
 bk:St→Hp→Prop:=fun _ _=>False
 ct:St→Hp→Prop:=fun _ _=>False
abbrev TS:=Ends→St→Hp→Prop
def EP (X:Cx) (pins:List (Addr×Obj)) (σ:St) (Q:VK) (u:Value) (s':Shared):Prop:=∃ v H',Inv X pins σ H' s'∧YB v u∧Q v H'
def TP (X:Cx) (pins:List (Addr×Obj)) (σ:St) (Q:Bool→Hp→Prop) (b:Bool) (s':Shared):Prop:=∃ H',Inv X pins σ H' s'∧Q b H'
def AP (X:Cx) (pins:List (Addr×Obj)) (σ:St) (Q:List V→Hp→Prop) (us:List Value) (s':Shared):Prop:=∃ vs H',Inv X pins σ H' s'∧Ys vs us∧Q vs H'
def SP (X:Cx) (pins:List (Addr×Obj)) (D:Ends) (f:Flow) (s':Shared):Prop :=
 match f with
 | .next=>∃ σ' H',Inv X pins σ' H' s'∧D.nx σ' H'
 | .brk=>∃ σ' H',Inv X pins σ' H' s'∧D.bk σ' H'
 | .cont=>∃ σ' H',Inv X pins σ' H' s'∧D.ct σ' H'
 | .ret u=>∃ v σ' H',Inv X pins σ' H' s'∧YB v u∧D.rt v H'
def PE (X:Cx) (e:Expr) (t:TE):Prop :=
 ∀ (pins:List (Addr×Obj)) (s:Shared) (σ:St) (H:Hp) (Q:VK),Inv X pins σ H s→t σ H Q→wpAny (model X.prog X.w) X.A (eval e X.env) (EP X pins σ Q) X.xe s
def PT (X:Cx) (e:Expr) (t:TT):Prop :=
 ∀ (pins:List (Addr×Obj)) (s:Shared) (σ:St) (H:Hp) (Q:Bool→Hp→Prop),Inv X pins σ H s→t σ H Q→wpAny (model X.prog X.w) X.A (isTrue e X.env (eval e X.env)) (TP X pins σ Q) X.xe s
def PW (X:Cx) (e:Expr) (t:TT):Prop :=
 ∀ (whole:Sem Value) (pins:List (Addr×Obj)) (s:Shared) (σ:St) (H:Hp) (Q:Bool→Hp→Prop),Inv X pins σ H s→t σ H Q→wpAny (model X.prog X.w) X.A (isTrue e X.env whole) (TP X pins σ Q) X.xe s
theorem PW.pt {X:Cx} {e:Expr} {t:TT} (h:PW X e t):PT X e t:=h _
def PA (X:Cx) (es:List Expr) (t:TA):Prop :=
 ∀ (pos:Pos) (pins:List (Addr×Obj)) (s:Shared) (σ:St) (H:Hp) (Q:List V→Hp→Prop),Inv X pins σ H s→t σ H Q→wpAny (model X.prog X.w) X.A (spliced (backTo pos (starEach es X.env))) (AP X pins σ Q) X.xe s
def PS (X:Cx) (st:Stmt) (t:TS):Prop :=
 ∀ (pins:List (Addr×Obj)) (s:Shared) (σ:St) (H:Hp) (D:Ends),Inv X pins σ H s→t D σ H→wpAny (model X.prog X.w) X.A (exec st X.env) (SP X pins D) X.xe s
def PSs (X:Cx) (st:List Stmt) (t:TS):Prop :=
 ∀ (pins:List (Addr×Obj)) (s:Shared) (σ:St) (H:Hp) (D:Ends),Inv X pins σ H s→t D σ H→wpAny (model X.prog X.w) X.A (execs st X.env) (SP X pins D) X.xe s
theorem thn {α:Type} {t:Sem α} {Q Q':α→Shared→Prop} {M:Model} {A:Around} {E:Value→Shared→Prop} {s:Shared} (h:wpAny M A t Q E s) (hQ:∀ a s,Q a s→Q' a s):wpAny M A t Q' E s:=wpAny_mono h hQ fun _ _ x=>x
end L2
namespace L2
open PySem PySem.Spec PyProof.Rows
section
variable {X:Cx}
def Ui (i:Nat):TE:=fun σ H Q=>∃ v,σ[i]?=some (some v)∧Q v H
def tC (v:V):TE:=fun _ H Q=>Q v H
theorem YdP {i:Nat} {x:Str} {pos:Pos} (hN:X.N[i]?=some x) (hv:Vis X.env.scope x) (hd:(x==("__debug__":Str))=false:=by decide) (hcd:(x==("__classdict__":Str))=false:=by decide):PE X (.Name x pos) (Ui i):=by
 intro pins s σ H Q I h
 obtain ⟨v,e,h⟩:=h
 obtain ⟨m,hn,hl⟩:=I.loc
 obtain ⟨u,r,l⟩:=hl i x v hN e hv
 have fin:EP X pins σ Q u s:=⟨v,H,I,r,h⟩
 rcases l with ⟨hk,hm⟩ | ⟨hk,c,hc,hcell⟩
 ·exact wpAny_Name (wpAny_loadName_local I.ok.kind hk hn hm fin) hd
 ·rcases hk with hk | hk
  ·exact wpAny_Name (wpAny_loadName_cell I.ok.kind hk hc hcell fin) hd
  ·exact wpAny_Name (wpAny_loadName_free I.ok.kind hk hc hcell fin hcd) hd
theorem Yf {i j pos}:PE X (.Constant (.int i) j pos) (tC (.int i)):=fun _ _ _ H _ I h=>wpAny_Constant_int ⟨.int i,H,I.tok _,⟨_,rfl⟩,h⟩
theorem Ww {b j pos}:PE X (.Constant (.bool b) j pos) (tC (.bl b)):=fun _ _ _ H _ I h=>Constant_bool ⟨.bl b,H,I,rfl,h⟩
theorem YdQ {j pos}:PE X (.Constant .none j pos) (tC .non):=fun _ _ _ H _ I h=>Constant_none ⟨.non,H,I,rfl,h⟩
theorem Y1 {x j pos}:PE X (.Constant (.str x) j pos) (tC (.str x)):=fun _ _ _ H _ I h=>Calls.Constant_str ⟨.str x,H,I.tok _,⟨_,rfl⟩,h⟩
def Gl (X:Cx) (x:Str):Prop:=X.env.kindOf x=some .globalImplicit
theorem VH {E:Value→Shared→Prop} {pins:List (Addr×Obj)} {s:Shared} {σ:St} {H:Hp} {x:Str} {u:Value} {pos:Pos} {Q:Value→Shared→Prop} (I:Inv X pins σ H s) (hg:Gl X x) (hm:X.mg x=some u) (h:Q u s)
  (hd:(x==("__debug__":Str))=false:=by decide):wpAny (model X.prog X.w) X.A (eval (.Name x pos) X.env) Q E s :=
 Calls.Name_function_global I.ok.kind hg (Calls.loadGlobal_global (by rw [I.ok.glob];exact I.mod.glob.keeps I.bk) hm h) hd
theorem W3 {E:Value→Shared→Prop} {pins:List (Addr×Obj)} {s:Shared} {σ:St} {H:Hp} {x:Str} {u:Value} {pos:Pos} {Q:Value→Shared→Prop} (I:Inv X pins σ H s) (hg:Gl X x) (hm:X.mg x=none) (hv:bootBuiltins x=some u) (h:Q u s)
  (hn:x≠"__name__":=by decide) (hd:(x==("__debug__":Str))=false:=by decide):wpAny (model X.prog X.w) X.A (eval (.Name x pos) X.env) Q E s:=by
 obtain ⟨mb,h1,h2⟩:=I.mod.blt
 exact Calls.Name_function_global I.ok.kind hg (Calls.loadGlobal_builtin (by rw [I.ok.glob];exact I.mod.glob.keeps I.bk) hm (by rw [I.ok.blt];exact h1.keeps I.bk) ((h2 x hn).trans hv) h) hd
theorem Yab {x:Str} {v:V} {u:Value} {pos:Pos} (hg:Gl X x) (hm:X.mg x=some u) (r:YB v u) (hd:(x==("__debug__":Str))=false:=by decide):PE X (.Name x pos) (tC v) :=
 fun _ _ _ H _ I h=>VH I hg hm ⟨v,H,I,r,h⟩ hd
theorem Yda {x:Str} {v:V} {u:Value} {pos:Pos} (hg:Gl X x) (hm:X.mg x=none) (hv:bootBuiltins x=some u) (r:YB v u) (hn:x≠"__name__":=by decide) (hd:(x==("__debug__":Str))=false:=by decide):PE X (.Name x pos) (tC v) :=
 fun _ _ _ H _ I h=>W3 I hg hm hv ⟨v,H,I,r,h⟩ hn hd
variable {a b:Expr} {ta tb:TE} {pos:Pos}
def tB (t:TE):TT:=fun σ H Q=>t σ H fun x H1=>∃ c,x = .bl c∧Q c H1
theorem Wg {e:Expr} {t:TE} (h:PE X e t) (he:∀ whole,isTrue e X.env whole=(do let v ← whole;standAt e.pos;holding [v] (truthy v))):PT X e (tB t):=by
 intro pins s σ H Q I hw
 refine isTrue_plain (thn (h pins s σ H _ I hw) fun v s1 ⟨x,H1,I1,r1,q1⟩=>?_) (he _)
 obtain ⟨d,rfl,q⟩:=q1
 cases r1
 exact wpAny_truthy_bool ⟨H1,I1,q⟩
variable {tA tB':TT} {XL:List Expr}
def tAnd (t u:TT):TT:=fun σ H Q=>t σ H fun c H1=>if c=true then u σ H1 Q else Q false H1
def tOr (t u:TT):TT:=fun σ H Q=>t σ H fun c H1=>if c=true then Q true H1 else u σ H1 Q
def tNot (t:TT):TT:=fun σ H Q=>t σ H fun c H1=>Q (!c) H1
theorem Ydb (ha:PT X a tA):PW X (.BoolOp .And [a] pos) tA:=by
 intro wh pins s σ H Q I h
 refine isTrue_and (thn (ha pins s σ H Q I h) fun c s1 e=>?_)
 cases c with
 | true=>exact isTrue_and_nil e
 | false=>exact e
theorem Vt (ha:PT X a tA):PW X (.BoolOp .Or [a] pos) tA:=by
 intro wh pins s σ H Q I h
 refine isTrue_or (thn (ha pins s σ H Q I h) fun c s1 e=>?_)
 cases c with
 | false=>exact isTrue_or_nil e
 | true=>exact e
theorem YdR (ha:PT X a tA) (hb:PW X (.BoolOp .And (b::XL) pos) tB'):PW X (.BoolOp .And (a::b::XL) pos) (tAnd tA tB'):=by
 intro wh pins s σ H Q I h
 refine isTrue_and (thn (ha pins s σ H _ I h) fun c s1 ⟨H1,I1,q1⟩=>?_)
 cases c with
 | true=>exact hb wh pins s1 σ H1 Q I1 q1
 | false=>exact ⟨H1,I1,q1⟩
theorem VX (ha:PT X a tA) (hb:PW X (.BoolOp .Or (b::XL) pos) tB'):PW X (.BoolOp .Or (a::b::XL) pos) (tOr tA tB'):=by
 intro wh pins s σ H Q I h
 refine isTrue_or (thn (ha pins s σ H _ I h) fun c s1 ⟨H1,I1,q1⟩=>?_)
 cases c with
 | true=>exact ⟨H1,I1,q1⟩
 | false=>exact hb wh pins s1 σ H1 Q I1 q1
theorem WH (ha:PT X a tA):PT X (.UnaryOp .Not a pos) (tNot tA):=by
 intro pins s σ H Q I h
 exact isTrue_not (ha pins s σ H (fun c H1=>Q (!c) H1) I h)
def YcO (ta tb:TE):TE:=fun σ H Q=>ta σ H fun x H1=>∃ c,x = .bl c∧if c=true then tb σ H1 Q else Q (.bl false) H1
def YcP (ta:TE):TE:=fun σ H Q=>ta σ H fun x H1=>∃ c,x = .bl c∧Q (.bl (!c)) H1
theorem YdS {op} {t:TE} (h:PE X a t):PE X (.BoolOp op [a] pos) t:=fun pins s σ H Q I hw=>BoolOp_one (h pins s σ H Q I hw)
theorem YdT (ha:PE X a ta) (hb:PE X (.BoolOp .And (b::XL) pos) tb):PE X (.BoolOp .And (a::b::XL) pos) (YcO ta tb):=by
 intro pins s σ H Q I h
 refine BoolOp_and (thn (ha pins s σ H _ I h) fun v s1 ⟨x,H1,I1,r1,q1⟩=>?_)
 obtain ⟨c,rfl,q1⟩:=q1
 cases r1
 refine wpAny_truthy_bool ?_
 cases c with
 | true=>exact hb pins s1 σ H1 Q I1 q1
 | false=>exact ⟨.bl false,H1,I1,rfl,q1⟩
theorem YdU (ha:PE X a ta):PE X (.UnaryOp .Not a pos) (YcP ta):=by
 intro pins s σ H Q I h
 refine UnaryOp_ (thn (ha pins s σ H _ I h) fun v s1 ⟨x,H1,I1,r1,q1⟩=>?_)
 obtain ⟨c,rfl,q1⟩:=q1
 cases r1
 exact not_of (wpAny_truthy_bool ⟨.bl (!c),H1,I1,rfl,q1⟩)
def tIf (t:TT) (ta tb:TE):TE:=fun σ H Q=>t σ H fun c H1=>if c=true then ta σ H1 Q else tb σ H1 Q
theorem WJ {c:Expr} (hc:PT X c tA) (ha:PE X a ta) (hb:PE X b tb):PE X (.IfExp c a b pos) (tIf tA ta tb):=by
 intro pins s σ H Q I h
 refine wpAny_IfExp (thn (hc pins s σ H _ I h) fun d s1 ⟨H1,I1,q1⟩=>?_)
 cases d with
 | true=>exact ha pins s1 σ H1 Q I1 q1
 | false=>exact hb pins s1 σ H1 Q I1 q1
end
end L2
namespace L2
open PySem PySem.Spec PyProof.Rows
def SqL (K:PySem.W.Frag) (H:Hp) (a:Addr) (xs:List V):Prop :=
 Rd H a (.lst xs) ∨
  ∃ (o:Obj) (its:Array Value) (n:Nat),K.lookup a=some o∧o.cls = .type "list"∧o.dict=none∧o.data = .seq its n∧its.size≤sizeLine∧Ys xs its.toList
def SqT (K:PySem.W.Frag) (H:Hp) (a:Addr) (xs:List V):Prop :=
 Rd H a (.tup xs) ∨
  ∃ (o:Obj) (its:Array Value) (n:Nat),K.lookup a=some o∧o.cls = .type "tuple"∧o.data = .seq its n∧its.size≤sizeLine∧Ys xs its.toList
def absV:Value→Option V
 | .none=>some .non
 | .bool b=>some (.bl b)
 | .int i _=>some (.int i)
 | .str x _=>some (.str x)
 | .bytes b _=>some (.byt b)
 | .float b _=>some (.flt b)
 | .ref a=>some (.ref a)
 | .type n=>some (.ty n)
 | _=>none
theorem YB.abs {x:V} {u:Value} (r:YB x u):absV u=some x:=by
 cases x with
 | non=>cases r;rfl
 | bl _=>cases r;rfl
 | int _=>obtain ⟨t,rfl⟩:=r;rfl
 | str _=>obtain ⟨t,rfl⟩:=r;rfl
 | byt _=>obtain ⟨t,rfl⟩:=r;rfl
 | flt _=>obtain ⟨t,rfl⟩:=r;rfl
 | ref _=>cases r;rfl
 | ty _=>cases r;rfl
theorem YB.inj {x y:V} {u:Value} (r:YB x u) (q:YB y u):x=y:=Option.some.inj (r.abs.symm.trans q.abs)
theorem Ys.inj:∀ {xs ys:List V} {us:List Value},Ys xs us→Ys ys us→xs=ys
 | _,_,_,.nil,.nil=>rfl
 | _,_,_,.cons r t,.cons r' t'=>by rw [r.inj r',Ys.inj t t']
section
variable {X:Cx} {pins:List (Addr×Obj)} {σ:St} {H:Hp} {s:Shared} {a:Addr} {xs ys:List V}
theorem SqL.of {K:PySem.W.Frag} (h:H a=some (.lst xs)):SqL K H a xs := .inl (.inl h)
theorem SqT.of {K:PySem.W.Frag} (h:H a=some (.tup xs)):SqT K H a xs := .inl (.inl h)
theorem Inv.list (I:Inv X pins σ H s) (h:SqL X.K H a xs):∃ its:List Value,Ys xs its∧PlainL s.heap a its.toArray∧xs.length≤sizeLine:=by
 rcases h with h | ⟨o,its,n,hk,hc,hd,hs,hz,r⟩
 ·obtain ⟨z,its,n,r,e⟩:=h.ok I.hok
  exact ⟨its,r,⟨_,n,e,rfl,rfl,rfl⟩,z⟩
 ·refine ⟨its.toList,r,⟨o,n,I.kIn a o hk,hc,hd,by simpa using hs⟩,?_⟩
  have e:=r.length
  simp only [Array.length_toList] at e
  omega
theorem Inv.tuple (I:Inv X pins σ H s) (h:SqT X.K H a xs):∃ its:List Value,Ys xs its∧IsTup s.heap a its.toArray∧xs.length≤sizeLine:=by
 rcases h with h | ⟨o,its,n,hk,hc,hs,hz,r⟩
 ·obtain ⟨z,its,r,p⟩:=h.ok I.hok
  exact ⟨its,r,p,z⟩
 ·refine ⟨its.toList,r,⟨o,I.kIn a o hk,hc,n,by simpa using hs⟩,?_⟩
  have e:=r.length
  simp only [Array.length_toList] at e
  omega
theorem Inv.list_inj (I:Inv X pins σ H s) (h:SqL X.K H a xs) (h':SqL X.K H a ys):xs=ys:=by
 obtain ⟨its,r,⟨o,n,e,_,_,d⟩,_⟩:=I.list h
 obtain ⟨its',r',⟨o',n',e',_,_,d'⟩,_⟩:=I.list h'
 rw [e] at e';cases e'
 rw [d] at d'
 injection d' with d1 _
 have:its=its':=by simpa using congrArg Array.toList d1
 subst this
 exact r.inj r'
theorem Inv.tuple_inj (I:Inv X pins σ H s) (h:SqT X.K H a xs) (h':SqT X.K H a ys):xs=ys:=by
 obtain ⟨its,r,⟨o,e,_,n,d⟩,_⟩:=I.tuple h
 obtain ⟨its',r',⟨o',e',_,n',d'⟩,_⟩:=I.tuple h'
 rw [e] at e';cases e'
 rw [d] at d'
 injection d' with d1 _
 have:its=its':=by simpa using congrArg Array.toList d1
 subst this
 exact r.inj r'
end
abbrev Cx.wish (X:Cx) (E:Value→Shared→Prop):Cx:={ X with xe:=E }
abbrev Cx.nox (X:Cx):Cx:=X.wish fun _ _=>False
theorem Cx.Ok.wish {X:Cx} (ok:X.Ok) (E:Value→Shared→Prop):(X.wish E).Ok :=
 ⟨ok.mod,ok.kind,ok.glob,ok.blt,ok.above,ok.inj,ok.has,ok.cab,ok.hd,ok.frames,ok.stk,ok.exf,ok.bs,ok.bsz,ok.noex,ok.exfs,ok.funs,ok.frf⟩
theorem Cx.Ok.unwish {X:Cx} {E:Value→Shared→Prop} (ok:(X.wish E).Ok):X.Ok :=
 ⟨ok.mod,ok.kind,ok.glob,ok.blt,ok.above,ok.inj,ok.has,ok.cab,ok.hd,ok.frames,ok.stk,ok.exf,ok.bs,ok.bsz,ok.noex,ok.exfs,ok.funs,ok.frf⟩
section
variable {X:Cx} {pins:List (Addr×Obj)} {σ:St} {H:Hp} {s:Shared} {E:Value→Shared→Prop}
theorem Inv.wish (I:Inv X pins σ H s) (E:Value→Shared→Prop):Inv (X.wish E) pins σ H s:=⟨I.ok.wish E,I.os,I.bare,I.base,I.loc,I.cell,I.free,I.freeC,I.pin,I.hok,I.len⟩
theorem Inv.unwish (I:Inv (X.wish E) pins σ H s):Inv X pins σ H s:=⟨I.ok.unwish,I.os,I.bare,I.base,I.loc,I.cell,I.free,I.freeC,I.pin,I.hok,I.len⟩
theorem SP.unwish {D:Ends} {f:Flow} {s':Shared} (h:SP (X.wish E) pins D f s'):SP X pins D f s':=by
 cases f with
 | next=>obtain ⟨σ',H',I,q⟩:=h;exact ⟨σ',H',I.unwish,q⟩
 | brk=>obtain ⟨σ',H',I,q⟩:=h;exact ⟨σ',H',I.unwish,q⟩
 | cont=>obtain ⟨σ',H',I,q⟩:=h;exact ⟨σ',H',I.unwish,q⟩
 | ret u=>obtain ⟨v,σ',H',I,r,q⟩:=h;exact ⟨v,σ',H',I.unwish,r,q⟩
theorem PE.nox {e:Expr} {t:TE} (h:PE X.nox e t):PE X e t:=fun pins s σ H Q I hw =>
 wpAny_mono (h pins s σ H Q (I.wish _) hw) (fun _ _ ⟨v,H',I',r,q⟩=>⟨v,H',I'.unwish,r,q⟩) fun _ _ z=>False.elim z
theorem PT.nox {e:Expr} {t:TT} (h:PT X.nox e t):PT X e t:=fun pins s σ H Q I hw =>
 wpAny_mono (h pins s σ H Q (I.wish _) hw) (fun _ _ ⟨H',I',q⟩=>⟨H',I'.unwish,q⟩) fun _ _ z=>False.elim z
theorem PSs.nox {st:List Stmt} {t:TS} (h:PSs X.nox st t):PSs X st t:=fun pins s σ H D I hw =>
 wpAny_mono (h pins s σ H D (I.wish _) hw) (fun _ _ q=>q.unwish) fun _ _ z=>False.elim z
end
section
variable {X:Cx} {st:Stmt} {XL:List Stmt} {t u:TS} {e:Expr} {te:TE} {pos:Pos}
def YcQ:TS:=fun D σ H=>D.nx σ H
def Xh (t u:TS):TS:=fun D σ H=>t { D with nx:=u D } σ H
theorem YC:PSs X [] YcQ:=fun _ _ σ H _ I h=>wpAny_execs_nil ⟨σ,H,I,h⟩
theorem Yh (h1:PS X st t) (h2:PSs X XL u):PSs X (st::XL) (Xh t u):=by
 intro pins s σ H D I h
 refine wpAny_execs_cons (thn (h1 pins s σ H { D with nx:=u D } I h) fun f s1 q=>?_)
 cases f with
 | next =>
  obtain ⟨σ',H',I',q⟩:=q
  exact h2 pins s1 σ' H' D I' q
 | ret v=>exact q
 | brk=>exact q
 | cont=>exact q
theorem Yg (h1:PS X st t):PSs X [st] t:=by
 intro pins s σ H D I h
 refine wpAny_execs_cons (thn (h1 pins s σ H D I h) fun f s1 q=>?_)
 cases f with
 | next=>exact wpAny_execs_nil q
 | ret v=>exact q
 | brk=>exact q
 | cont=>exact q
theorem Inv.quiet {pins:List (Addr×Obj)} {σ:St} {H:Hp} {s:Shared} (I:Inv X pins σ H s):interactive X.env=false:=by simp [interactive,I.ok.kind]
def YcR (te:TE):TS:=fun D σ H=>te σ H fun _ H1=>D.nx σ H1
theorem YS (he:PE X e te) (hs:swapsWith e none pos.line X.env=pure false):PS X (.Expr e pos) (YcR te):=by
 intro pins s σ H D I h
 exact wpAny_Expr_any (thn (he pins s σ H _ I h) fun v s1 ⟨x,H1,I1,r1,q1⟩=>⟨σ,H1,I1,q1⟩) I.quiet hs
def tRet (te:TE):TS:=fun D σ H=>te σ H D.rt
theorem Yo (he:PE X e te):PS X (.Return (some e) pos) (tRet te):=by
 intro pins s σ H D I h
 exact wpAny_Return_some (thn (he pins s σ H _ I h) fun v s1 ⟨x,H1,I1,r1,q1⟩=>⟨x,σ,H1,I1,r1,q1⟩)
def tIfS (c:TT) (t u:TS):TS:=fun D σ H=>c σ H fun b H1=>if b=true then t D σ H1 else u D σ H1
theorem YO {c:Expr} {a b:List Stmt} {tc:TT} (hc:PT X c tc) (ha:PSs X a t) (hb:PSs X b u):PS X (.If c a b pos) (tIfS tc t u):=by
 intro pins s σ H D I h
 refine wpAny_If (thn (hc pins s σ H _ I h) fun d s1 ⟨H1,I1,q1⟩=>?_)
 cases d with
 | true=>exact ha pins s1 σ H1 D I1 q1
 | false=>exact hb pins s1 σ H1 D I1 q1
def YbB:TS:=fun _ _ _=>False
theorem Qg:PS X st YbB:=fun _ _ _ _ _ _ h=>h.elim
end
abbrev TG:=V→St→Hp→(St→Hp→Prop)→Prop
abbrev TGs:=List V→St→Hp→(St→Hp→Prop)→Prop
def PG (X:Cx) (target:Expr) (t:TG):Prop :=
 ∀ (pins:List (Addr×Obj)) (s:Shared) (σ:St) (H:Hp) (v:V) (u:Value) (Q:St→Hp→Prop),Inv X pins σ H s→YB v u→t v σ H Q →
  wpAny (model X.prog X.w) X.A (assign target X.env u) (fun _ s'=>∃ σ' H',Inv X pins σ' H' s'∧Q σ' H') X.xe s
def PGs (X:Cx) (ts:List Expr) (t:TGs):Prop :=
 ∀ (pins:List (Addr×Obj)) (s:Shared) (σ:St) (H:Hp) (vs:List V) (us:List Value) (Q:St→Hp→Prop),Inv X pins σ H s→Ys vs us→t vs σ H Q →
  wpAny (model X.prog X.w) X.A (assignInOrder ((assignEach ts X.env).map (·.2)) us) (fun _ s'=>∃ σ' H',Inv X pins σ' H' s'∧Q σ' H') X.xe s
abbrev TSet:=V→V→V→Hp→(Hp→Prop)→Prop
def PSet (X:Cx) (t:TSet):Prop :=
 ∀ (pins:List (Addr×Obj)) (s:Shared) (σ:St) (H:Hp) (o i v:V) (ov iv u:Value) (Q:Hp→Prop),Inv X pins σ H s→YB o ov→YB i iv→YB v u→t o i v H Q →
  wpAny (model X.prog X.w) X.A (setItem ov iv u) (fun _ s'=>∃ H',Inv X pins σ H' s'∧Q H') X.xe s
section
variable {X:Cx} {pos:Pos}
def YL (i:Nat):TG:=fun v σ H Q=>Q (σ.set i (some v)) H
theorem YF {i:Nat} {x:Str} (hN:X.N.Nodup) (hi:X.N[i]?=some x) (hx:Loc X.env.scope x) (hf:X.fn x=true∨X.env.scope.names.lookup x=some .local:=by first | exact .inl rfl | exact .inr rfl | assumption):PG X (.Name x pos) (YL i):=by
 intro pins s σ H v u Q I r h
 exact wpAny_assign_Name (Qf I hN hi hx r (fun s' I'=>⟨_,H,I',h⟩) hf)
def WY:TGs:=fun vs σ H Q=>vs=[]∧Q σ H
def Xq (t:TG) (u:TGs):TGs:=fun vs σ H Q=>∃ v r,vs=v::r∧t v σ H fun σ' H'=>u r σ' H' Q
theorem VI:PGs X [] WY:=by
 intro pins s σ H vs us Q I r h
 obtain ⟨e,h⟩:=h
 subst e
 cases r
 exact assignInOrder_nil ⟨σ,H,I,h⟩
theorem XQ {e:Expr} {es:List Expr} {t:TG} {u:TGs} (h1:PG X e t) (h2:PGs X es u)
  (hs:(assignEach (e::es) X.env).map (·.2)=assign e X.env::(assignEach es X.env).map (·.2)):PGs X (e::es) (Xq t u):=by
 intro pins s σ H vs us Q I r h
 obtain ⟨v,vr,e1,h⟩:=h
 subst e1
 cases r with
 | cons r rr =>
  rw [hs]
  refine assignInOrder_cons (thn (h1 pins s σ H _ _ _ I r h) fun _ s1 ⟨σ1,H1,I1,q1⟩=>?_)
  exact h2 pins s1 σ1 H1 _ _ Q I1 rr q1
def WZ (K:PySem.W.Frag) (n:Nat) (t:TGs):TG:=fun v σ H Q=>∃ a xs,v = .ref a∧SqT K H a xs∧xs.length=n∧t xs σ H Q
theorem VY {es:List Expr} {k:Nat} {t:TGs} {n:Nat} (hc:X.calm=true) (h:PGs X es t)
  (hn:(assignEach es X.env).length=n) (hst:(assignEach es X.env).findIdx? (·.1)=none):PG X (.Tuple es k pos) (WZ X.K n t):=by
 intro pins s σ H v u Q I r hw
 obtain ⟨a,xs,e1,hq,hl,hw⟩:=hw
 subst e1
 cases r
 obtain ⟨its,rv,ht,hz⟩:=I.tuple hq
 refine assign_Tuple_tuple (I.ok.hd hc) ht (by simp [hn,← hl,rv.length]) hst fun h' hx=>?_
 have I1:Inv X pins σ H { s with heap:=h' }:=I.kept (t':=s.toks) fun b o e=>hx b o (Nat.ne_of_lt (Heap.lt_size e)) e
 exact h pins _ σ H xs _ Q I1 (by simpa using rv) hw
def gSub (to ti:TE) (t:TSet):TG:=fun v σ H Q=>to σ H fun o H1=>ti σ H1 fun i H2=>t o i v H2 fun H3=>Q σ H3
theorem YbC {o i:Expr} {to ti:TE} {t:TSet} (ho:PE X o to) (hi:PE X i ti) (hs:PSet X t)
  (ha:∀ v,assign (.Subscript o i pos) X.env v=(do
   let ov ← holding [v] (eval o X.env)
   let iv ← holding [v,ov] (eval i X.env)
   standAt pos
   holding [v,ov,iv] (setItem ov iv v)
   release [v,ov,iv] [])):PG X (.Subscript o i pos) (gSub to ti t):=by
 intro pins s σ H v u Q I r h
 rw [ha]
 refine wpAny_bind (wpAny_holding (thn (ho pins s σ H _ I h) fun ov s1 ⟨x,H1,I1,r1,q1⟩=>?_))
 refine wpAny_bind (wpAny_holding (thn (hi pins s1 σ H1 _ I1 q1) fun iv s2 ⟨y,H2,I2,r2,q2⟩=>?_))
 refine wpAny_bind (wpAny_standAt (wpAny_bind (wpAny_holding (thn (hs pins s2 σ H2 x y v ov iv u _ I2 r1 r2 r q2) fun _ s3 ⟨H3,I3,q3⟩=>?_))))
 exact wpAny_release ⟨σ,H3,I3,q3⟩
def YaJ (te:TE) (g:TG):TS:=fun D σ H=>te σ H fun x H1=>g x σ H1 D.nx
theorem YbD {tg e:Expr} {te:TE} {g:TG} (he:PE X e te) (hg:PG X tg g) (hs:swapsWithSole [tg] e pos.line X.env=pure false) (hw:swappedStores [tg] e X.env=pure none)
  (h1:(assignEach [tg] X.env).map (·.2)=[assign tg X.env]):PS X (.Assign [tg] e pos) (YaJ te g):=by
 intro pins s σ H D I h
 refine wpAny_Assign_stores (thn (he pins s σ H _ I h) fun v s1 ⟨x,H1,I1,r1,q1⟩=>?_) hs hw
 rw [h1]
 exact thn (hg pins s1 σ H1 x v _ I1 r1 q1) fun _ s2 q=>q
theorem YA {i:Nat} {x:Str} {e:Expr} {te:TE} {pos':Pos} (hN:X.N.Nodup) (hi:X.N[i]?=some x) (hx:Loc X.env.scope x) (he:PE X e te) (hs:swapsWith e (some (.Name x pos')) pos.line X.env=pure false) (hf:X.fn x=true∨X.env.scope.names.lookup x=some .local) :
  PS X (.Assign [.Name x pos'] e pos) (YaJ te (YL i)):=by
 intro pins s σ H D I h
 refine wpAny_Assign_Name (thn (he pins s σ H _ I h) fun v s1 ⟨y,H1,I1,r1,q1⟩=>?_) hs
 exact Qf I1 hN hi hx r1 (fun s2 I2=>⟨_,H1,I2,q1⟩) hf
end
section
variable {X:Cx} {pos:Pos}
def YbE (c:TT) (tb:TS):TS:=fun D σ H=>∃ W:Nat→St→Hp→Prop,(∃ m,W m σ H)∧∀ m σ H,W m σ H →
 c σ H fun b H1=>if b=true then ∃ N:St→Hp→Prop,(∀ σ' H',N σ' H'→∃ m',m'<m∧W m' σ' H')∧tb { D with nx:=N,ct:=N,bk:=D.nx } σ H1 else D.nx σ H1
theorem XA {c:Expr} {body:List Stmt} {tc:TT} {tb:TS} (hp:PassesOwn (model X.prog X.w) X.A X.env X.xe) (hc:PT X c tc) (hb:PSs X body tb):PS X (.While c body [] pos) (YbE tc tb):=by
 intro pins s σ H D I h
 obtain ⟨W,⟨m0,w0⟩,turn⟩:=h
 refine wpAny_While (codeAny_whileLoop (fun n s'=>∃ σ' H',Inv X pins σ' H' s'∧W n σ' H') ?_ m0 ⟨σ,H,I,w0⟩)
 rintro n s1 ⟨σ1,H1,I1,w1⟩
 refine wpAny_passesOwn hp (thn (hc pins s1 σ1 H1 _ I1 (turn n σ1 H1 w1)) fun b s2 ⟨H2,I2,q2⟩=>?_)
 cases b with
 | true =>
  obtain ⟨N,hN,q2⟩:=q2
  rw [if_pos rfl]
  refine wpAny_passesOwn hp (thn (hb pins s2 σ1 H2 _ I2 q2) fun f s3 q3=>?_)
  cases f with
  | next =>
   obtain ⟨σ3,H3,I3,n3⟩:=q3
   obtain ⟨m',hm,w3⟩:=hN σ3 H3 n3
   exact ⟨m',hm,σ3,H3,I3,w3⟩
  | cont =>
   obtain ⟨σ3,H3,I3,n3⟩:=q3
   obtain ⟨m',hm,w3⟩:=hN σ3 H3 n3
   exact ⟨m',hm,σ3,H3,I3,w3⟩
  | brk=>exact q3
  | ret v=>exact q3
 | false =>
  rw [if_neg Bool.false_ne_true]
  exact wpAny_execs_nil ⟨σ1,H2,I2,q2⟩
end
structure It where
 go:Nat→Hp→Prop
 yld:Nat→Hp→V→Hp→Prop
 stop:Nat→Hp→Prop
def X1 (X:Cx) (pins:List (Addr×Obj)) (H:Hp) (b:Addr):Prop :=
 H b=none∧b≠X.env.locals∧b∉X.fs∧(b∈X.ex∨X.s₀.heap.objs.size≤b)∧(∀ x c,X.env.cells.lookup x=some c→c≠b)∧∀ p∈X.pn++pins,p.1≠b
theorem Inv.fpOk {X:Cx} {pins:List (Addr×Obj)} {σ:St} {H H':Hp} {s:Shared} {b:Addr} (I:Inv X pins σ H s) (hb:s.heap.objs.size≤b) (hn:H' b=none):X1 X pins H' b:=by
 refine ⟨hn,Nat.ne_of_gt (Nat.lt_of_lt_of_le I.lt hb),I.nofs hb,.inr (Nat.le_trans I.sz hb),fun x c e z=>?_,fun p hp z=>?_⟩
 ·obtain ⟨v,q⟩:=I.cell x c e
  exact absurd (Nat.lt_of_lt_of_le q.lt (by rw [z];exact hb)) (Nat.lt_irrefl _)
 ·exact absurd (Nat.lt_of_lt_of_le (Heap.lt_size (I.pin p hp).1) (by rw [z];exact hb)) (Nat.lt_irrefl _)
structure Turn (P:Program) (w:World) (K:PySem.W.Frag) (tg:Expr) (J:It) (fp:List Addr) (it:Addr) (tn:Nat→Heap→Prop):Prop where
 mem:it∈fp
 obj:∀ i h,tn i h→∀ b∈fp,∃ o,h.get? b=some o∧∀ v,o.data ≠ .cell v
 keep:∀ i h h',tn i h→(∀ b∈fp,∀ o,h.get? b=some o→h'.get? b=some o)→tn i h'
 item:∀ (X:Cx),X.prog=P→X.w=w→X.K=K→X.calm=true→∀ (i:Nat) (pins:List (Addr×Obj)) (s:Shared) (σ:St) (H:Hp) (E:Value→Shared→Prop),Inv X pins σ H s→(∀ b∈fp,X1 X pins H b)→tn i s.heap→J.go i H →
  wpAny (model P w) X.A (pyNext (.ref it)) (fun r s1=>∃ u,r=some u ∧
   wpAny (model P w) X.A (letOwnedTupleGo tg (.ref it) u) (fun _ s2=>∃ x H',Inv X pins σ H' s2∧YB x u∧J.yld i H x H'∧tn (i+1) s2.heap∧∀ b∈fp,H' b=none) E s1) E s
 done:∀ (X:Cx),X.prog=P→X.w=w→X.K=K→X.calm=true→∀ (i:Nat) (pins:List (Addr×Obj)) (s:Shared) (σ:St) (H:Hp) (E:Value→Shared→Prop),Inv X pins σ H s→(∀ b∈fp,X1 X pins H b)→tn i s.heap→J.stop i H →
  wpAny (model P w) X.A (pyNext (.ref it)) (fun r s1=>r=none∧Inv X pins σ H s1) E s
 self:∀ (A:Around) (i:Nat) (s:Shared) (Q:Value→Shared→Prop) (E:Value→Shared→Prop),tn i s.heap→Q (.ref it) s→wpAny (model P w) A (pyIter (.ref it)) Q E s
abbrev TI:=St→Hp→(It→Hp→Prop)→Prop
def PIE (X:Cx) (pins:List (Addr×Obj)) (σ:St) (tg:Expr) (R:It→Hp→Prop) (itv:Value) (s2:Shared):Prop :=
 ∃ (it:Addr) (fp:List Addr) (tn:Nat→Heap→Prop) (J:It) (H':Hp),itv = .ref it∧Inv X pins σ H' s2∧Turn X.prog X.w X.K tg J fp it tn∧tn 0 s2.heap∧(∀ b∈fp,X1 X pins H' b)∧R J H'
def PI (X:Cx) (tg iter:Expr) (wi:TI):Prop :=
 ∀ (pins:List (Addr×Obj)) (s:Shared) (σ:St) (H:Hp) (R:It→Hp→Prop),Inv X pins σ H s→wi σ H R →
  wpAny (model X.prog X.w) X.A (eval iter X.env) (fun v s1=>wpAny (model X.prog X.w) X.A (pyIter v) (PIE X pins σ tg R) X.xe s1) X.xe s
theorem UX {M:Model} {A:Around} {E:Value→Shared→Prop} {s:Shared} {tg:Expr} {it:Addr} {u:Value} {o:Obj} {n:String} {vs:Array Value} {Q:Unit→Shared→Prop} (ho:s.heap.get? it=some o) (hc:o.cls = .type n) (hd:o.data = .fields vs)
  (hn:["enumerate","zip","dict_itemiterator","dict_reverseitemiterator","odict_iterator","itertools.zip_longest","itertools.pairwise"].contains n=false) (hQ:Q () s):wpAny M A (letOwnedTupleGo tg (.ref it) u) Q E s:=by
 unfold letOwnedTupleGo
 cases tg<;>first
  | exact wpAny_pure hQ
  | (cases u<;>first
    | exact wpAny_pure hQ
    | (refine wpAny_bind (wpAny_load ho ?_)
       rw [hc,hd]
       show wpAny M A (if (["enumerate","zip","dict_itemiterator","dict_reverseitemiterator","odict_iterator","itertools.zip_longest","itertools.pairwise"].contains n&&vs[0]?==some (rawInt _))=true then _ else _) Q E s
       rw [if_neg (by intro h;rw [hn,Bool.false_and] at h;cases h)]
       exact wpAny_pure hQ))
def Itl (K:PySem.W.Frag) (a:Addr):It :=
 ⟨fun i H=>∃ xs x,SqL K H a xs∧xs[i]?=some x,fun i H x H'=>H'=H∧∀ xs,SqL K H a xs→xs[i]?=some x,fun i H=>∃ xs,SqL K H a xs∧xs.length≤i⟩
def Itt (K:PySem.W.Frag) (a:Addr):It :=
 ⟨fun i H=>∃ xs x,SqT K H a xs∧xs[i]?=some x,fun i H x H'=>H'=H∧∀ xs,SqT K H a xs→xs[i]?=some x,fun i H=>∃ xs,SqT K H a xs∧xs.length≤i⟩
def Itr (lo:Int) (n:Nat):It:=⟨fun i _=>i<n,fun i H x H'=>H'=H∧x = .int (lo+i),fun i _=>n≤i⟩
theorem YbF {P:Program} {w:World} {K:PySem.W.Frag} {tg:Expr} (a it:Addr):Turn P w K tg (Itl K a) [it] it (fun i h=>h.IsListIter it a i) where
 mem:=by simp
 obj:=fun i h st b hb=>by
  have e:b=it:=by simpa using hb
  subst e
  obtain ⟨o,e,c,d⟩:=st
  exact ⟨o,e,fun v z=>by rw [d] at z;cases z⟩
 keep:=fun i h h' st k=>st.at fun o e=>k it (by simp) o e
 item:=by
  intro X hP hw hK hc i pins s σ H E I hf st hg
  subst hP hw hK
  obtain ⟨xs,x,hq,hx⟩:=hg
  obtain ⟨its,rv,p,hz⟩:=I.list hq
  obtain ⟨u,hu,ru⟩:=rv.get hx
  obtain ⟨f0,f1,f2,f3,f4,f5⟩:=hf it (by simp)
  refine wpAny_pyNext_list_item st p.isList (x:=u) (by simpa using hu) fun h' st' sb=>?_
  have I1:Inv X pins σ H { s with heap:=h' }:=I.turned (t':=s.toks) (fun b o hb e=>(sb.2 b hb).trans e) f0 f1 f3 f4 f5
  obtain ⟨o,e,c,d⟩:=id st'
  exact ⟨u,rfl,UX (s:={ s with heap:=h' }) e c d (by decide) ⟨x,H,I1,ru,⟨rfl,fun ys hy=>by rw [I.list_inj hy hq];exact hx⟩,st',fun b hb=>(hf b hb).1⟩⟩
 done:=by
  intro X hP hw hK hc i pins s σ H E I hf st hg
  subst hP hw hK
  obtain ⟨xs,hq,hx⟩:=hg
  obtain ⟨its,rv,p,hz⟩:=I.list hq
  obtain ⟨f0,f1,f2,f3,f4,f5⟩:=hf it (by simp)
  have hl:=rv.length
  exact wpAny_pyNext_list_end (I.ok.hd hc) st p.isList (by simp;omega) fun h' eb=>⟨rfl,I.turned (t':=s.toks) (fun b o hb e=>eb b o hb e) f0 f1 f3 f4 f5⟩
 self:=fun _ _ _ _ _ st h=>wpAny_pyIter_listiter st h
theorem YaK {P:Program} {w:World} {K:PySem.W.Frag} {tg:Expr} (a it:Addr):Turn P w K tg (Itt K a) [it] it (fun i h=>h.IsTupleIter it a i) where
 mem:=by simp
 obj:=fun i h st b hb=>by
  have e:b=it:=by simpa using hb
  subst e
  obtain ⟨o,e,c,d⟩:=st
  exact ⟨o,e,fun v z=>by rw [d] at z;cases z⟩
 keep:=fun i h h' st k=>st.at fun o e=>k it (by simp) o e
 item:=by
  intro X hP hw hK hc i pins s σ H E I hf st hg
  subst hP hw hK
  obtain ⟨xs,x,hq,hx⟩:=hg
  obtain ⟨its,rv,p,hz⟩:=I.tuple hq
  obtain ⟨u,hu,ru⟩:=rv.get hx
  obtain ⟨f0,f1,f2,f3,f4,f5⟩:=hf it (by simp)
  refine wpAny_pyNext_tuple_item st (show s.heap.IsTuple a its.toArray from p) (x:=u) (by simpa using hu) fun h' st' sb=>?_
  have I1:Inv X pins σ H { s with heap:=h' }:=I.turned (t':=s.toks) (fun b o hb e=>(sb.2 b hb).trans e) f0 f1 f3 f4 f5
  obtain ⟨o,e,c,d⟩:=id st'
  exact ⟨u,rfl,UX (s:={ s with heap:=h' }) e c d (by decide) ⟨x,H,I1,ru,⟨rfl,fun ys hy=>by rw [I.tuple_inj hy hq];exact hx⟩,st',fun b hb=>(hf b hb).1⟩⟩
 done:=by
  intro X hP hw hK hc i pins s σ H E I hf st hg
  subst hP hw hK
  obtain ⟨xs,hq,hx⟩:=hg
  obtain ⟨its,rv,p,hz⟩:=I.tuple hq
  obtain ⟨f0,f1,f2,f3,f4,f5⟩:=hf it (by simp)
  have hl:=rv.length
  exact wpAny_pyNext_tuple_end (I.ok.hd hc) st (show s.heap.IsTuple a its.toArray from p) (by simp;omega) fun h' eb=>⟨rfl,I.turned (t':=s.toks) (fun b o hb e=>eb b o hb e) f0 f1 f3 f4 f5⟩
 self:=fun _ _ _ _ _ st h=>wpAny_pyIter_tupleiter st h
theorem YaL {P:Program} {w:World} {K:PySem.W.Frag} {tg:Expr} (it:Addr) (lo:Int) (n:Nat):Turn P w K tg (Itr lo n) [it] it (fun i h=>IsRangeIter h it (lo+(i:Nat)*1) ((n:Int) - (i:Nat)) 1) where
 mem:=by simp
 obj:=fun i h st b hb=>by
  have e:b=it:=by simpa using hb
  subst e
  exact ⟨_,st,fun v z=>by
   have z':Data.fields _=Data.cell v:=z
   cases z'⟩
 keep:=fun i h h' st k=>k it (by simp) _ st
 item:=by
  intro X hP hw hK hc i pins s σ H E I hf st hg
  subst hP hw hK
  obtain ⟨f0,f1,f2,f3,f4,f5⟩:=hf it (by simp)
  have W:=Walks.range (prog:=X.prog) (w:=X.w) (I.ok.hd hc) it lo 1 n
  refine W.item i s _ _ hg st fun v h' tk hv st' kk=>?_
  obtain ⟨t,rfl⟩:=hv
  have I1:Inv X pins σ H { s with heap:=h',toks:=tk }:=I.turned (fun b o hb e=>kk b o (by simpa using hb) e) f0 f1 f3 f4 f5
  refine ⟨_,rfl,UX (s:={ s with heap:=h',toks:=tk }) (n:="range_iterator") st' rfl rfl (by decide) ⟨.int (lo+i),H,I1,⟨t,?_⟩,⟨rfl,rfl⟩,st',fun b hb=>(hf b hb).1⟩⟩
  rw [Int.mul_one]
 done:=by
  intro X hP hw hK hc i pins s σ H E I hf st hg
  subst hP hw hK
  obtain ⟨f0,f1,f2,f3,f4,f5⟩:=hf it (by simp)
  exact wpAny_pyNext_range_end (I.ok.hd hc) st (by have:n≤i:=hg;omega) fun h' eb=>⟨rfl,I.turned (t':=s.toks) (fun b o hb e=>eb b o hb e) f0 f1 f3 f4 f5⟩
 self:=fun _ _ _ _ _ st h=>wpAny_pyIter_rangeiter st h
end L2
namespace L2
open PySem PySem.Spec PyProof.Rows
section
variable {X:Cx} {tg:Expr}
def Vj (K:PySem.W.Frag) (tl:TE):TI:=fun σ H R=>tl σ H fun x H1=>∃ a,x = .ref a∧(∃ xs,SqL K H1 a xs)∧R (Itl K a) H1
def iTup (K:PySem.W.Frag) (tl:TE):TI:=fun σ H R=>tl σ H fun x H1=>∃ a,x = .ref a∧(∃ xs,SqT K H1 a xs)∧R (Itt K a) H1
theorem W4 {l:Expr} {tl:TE} (hl:PE X l tl):PI X tg l (Vj X.K tl):=by
 intro pins s σ H R I h
 refine thn (hl pins s σ H _ I h) fun v s1 ⟨x,H1,I1,r1,q1⟩=>?_
 obtain ⟨a,e,⟨xs,hq⟩,q⟩:=q1
 subst e
 cases r1
 obtain ⟨its,rv,p,hz⟩:=I1.list hq
 refine wpAny_pyIter_list p.isList ?_
 refine ⟨s1.heap.objs.size,[s1.heap.objs.size],_,_,H1,rfl,I1.kept (t':=s1.toks) fun b o e=>Heap.get?_push_of_some _ e,YbF a _,⟨_,Heap.get?_push_size _ rfl,rfl,rfl⟩,fun b hb=>?_,q⟩
 have e:b=s1.heap.objs.size:=by simpa using hb
 subst e
 exact I1.fpOk (Nat.le_refl _) (I1.hok.fresh (Nat.le_refl _))
theorem YbG {l:Expr} {tl:TE} (hl:PE X l tl):PI X tg l (iTup X.K tl):=by
 intro pins s σ H R I h
 refine thn (hl pins s σ H _ I h) fun v s1 ⟨x,H1,I1,r1,q1⟩=>?_
 obtain ⟨a,e,⟨xs,hq⟩,q⟩:=q1
 subst e
 cases r1
 obtain ⟨its,rv,p,hz⟩:=I1.tuple hq
 refine wpAny_pyIter_tuple (show s1.heap.IsTuple a its.toArray from p) ?_
 refine ⟨s1.heap.objs.size,[s1.heap.objs.size],_,_,H1,rfl,I1.kept (t':=s1.toks) fun b o e=>Heap.get?_push_of_some _ e,YaK a _,⟨_,Heap.get?_push_size _ rfl,rfl,rfl⟩,fun b hb=>?_,q⟩
 have e:b=s1.heap.objs.size:=by simpa using hb
 subst e
 exact I1.fpOk (Nat.le_refl _) (I1.hok.fresh (Nat.le_refl _))
theorem Ycl {pins:List (Addr×Obj)} {σ:St} {H:Hp} {s:Shared} {R:It→Hp→Prop} {E:Value→Shared→Prop} {lo hi:Int} {t u v:Tok} {tk:Nat} (I:Inv X pins σ H s) (h1 : -(2^62)≤lo) (h2:lo<2^62) (h3 : -(2^62)≤hi) (h4:hi<2^62)
  (q:R (Itr lo (hi - lo).toNat) H):wpAny (model X.prog X.w) X.A (pyIter (.ref s.heap.objs.size)) (PIE X pins σ tg R) E { s with heap:=s.heap.push { cls := .type "range",data := .fields #[.int lo t,.int hi u,.int 1 v] },toks:=tk }:=by
 refine wpAny_pyIter_range (IsRange.new ..) (small_one h1 h2 h3 h4) ?_
 have I1:Inv X pins σ H { s with heap:=s.heap.push { cls := .type "range",data := .fields #[.int lo t,.int hi u,.int 1 v] },toks:=tk }:=I.kept fun b o e=>Heap.get?_push_of_some _ e
 refine ⟨(s.heap.push { cls := .type "range",data := .fields #[.int lo t,.int hi u,.int 1 v] }).objs.size,[(s.heap.push { cls := .type "range",data := .fields #[.int lo t,.int hi u,.int 1 v] }).objs.size],_,_,H,rfl,
  I1.kept (t':=tk) fun b o e=>Heap.get?_push_of_some _ e,YaL _ lo (hi - lo).toNat,?_,fun b hb=>?_,q⟩
 ·have e1:lo+((0:Nat):Int)*1=lo:=by simp
  have e2:(((hi - lo).toNat:Nat):Int) - ((0:Nat):Int)=Builtin.Range.rangeSize lo hi 1:=by rw [rangeSize_one];split<;>omega
  show IsRangeIter _ _ (lo+((0:Nat):Int)*1) ((((hi - lo).toNat:Nat):Int) - ((0:Nat):Int)) 1
  rw [e1,e2]
  exact Heap.get?_push_size _ rfl
 ·have e:b=(s.heap.push { cls := .type "range",data := .fields #[.int lo t,.int hi u,.int 1 v] }).objs.size:=by simpa using hb
  subst e
  exact I1.fpOk (Nat.le_refl _) (I1.hok.fresh (Nat.le_refl _))
def YaM (ta:TA):TI:=fun σ H R=>ta σ H fun vs H1=>∃ j:Int,vs=[.int j] ∧ -(2^62)≤j∧j<2^62∧R (Itr 0 j.toNat) H1
theorem Xd {a:Expr} {ta:TA} {p pos:Pos} (hg:Gl X "range") (hm:X.mg "range"=none) (ha:PA X [a] ta) (hs:starEach [a] X.env=[(false,eval a X.env)]):PI X tg (.Call (.Name "range" p) [a] [] pos) (YaM ta):=by
 intro pins s σ H R I h
 refine Call_ (W3 I hg hm boot_range (PyProof.Rows.callWith_type1 (thn (ha pos pins s σ H _ I h) fun us s1 ⟨vs,H1,I1,r1,q1⟩=>?_) hs rfl))
 obtain ⟨j,e,q1,q2,q⟩:=q1
 subst e
 cases r1 with
 | cons r rr =>
  cases rr
  obtain ⟨t,rfl⟩:=r
  exact call_range_1 (Ycl I1 (by omega) (by omega) q1 q2 (by simpa using q))
def Uj (wi:TI) (g:TG) (tb:TS):TS:=fun D σ H=>wi σ H fun J H1=>∃ W:Nat→Nat→St→Hp→Prop,(∃ m,W 0 m σ H1)∧∀ i m σ H,W i m σ H →
 (J.stop i H∧D.nx σ H)∨(J.go i H∧∃ N:St→Hp→Prop,(∀ σ' H',N σ' H'→∃ m',m'<m∧W (i+1) m' σ' H')∧∀ x H',J.yld i H x H'→g x σ H' fun σ2 H2=>tb { D with nx:=N,ct:=N,bk:=D.nx } σ2 H2)
def W5 (fp:List Addr) (h:Heap):List (Addr×Obj):=fp.filterMap fun b=>(h.get? b).map fun o=>(b,o)
theorem XG {fp:List Addr} {h:Heap} {b:Addr} {o:Obj} (hb:b∈fp) (e:h.get? b=some o):(b,o)∈W5 fp h:=List.mem_filterMap.mpr ⟨b,hb,by rw [e];rfl⟩
theorem YbH {fp:List Addr} {h:Heap} {p:Addr×Obj} (hp:p∈W5 fp h):p.1∈fp∧h.get? p.1=some p.2:=by
 obtain ⟨b,hb,e⟩:=List.mem_filterMap.mp hp
 cases q:h.get? b with
 | none=>rw [q] at e;cases e
 | some o =>
  rw [q] at e
  have e':(b,o)=p:=Option.some.inj e
  subst e'
  exact ⟨hb,q⟩
theorem Inv.pinned {pins:List (Addr×Obj)} {σ:St} {H:Hp} {s:Shared} {fp:List Addr} (I:Inv X pins σ H s) (hf:∀ b∈fp,X1 X pins H b) (ho:∀ b∈fp,∃ o,s.heap.get? b=some o∧∀ v,o.data ≠ .cell v):Inv X (pins++W5 fp s.heap) σ H s :=
 I.pins_of fun p hp=>(List.mem_append.mp hp).elim (fun z=>I.pin p (List.mem_append_right _ z)) fun z=>by
  obtain ⟨hb,e⟩:=YbH z
  obtain ⟨f0,f1,f2,_⟩:=hf p.1 hb
  obtain ⟨o,e',d⟩:=ho p.1 hb
  rw [e] at e';cases e'
  exact ⟨e,f0,f1,f2,d⟩
theorem Inv.unpinned {pins pl:List (Addr×Obj)} {σ:St} {H:Hp} {s:Shared} (I:Inv X (pins++pl) σ H s):Inv X pins σ H s:=I.pins_of fun p hp=>I.pin p (List.mem_append_right _ (List.mem_append_left _ hp))
theorem XR {iter:Expr} {body:List Stmt} {wi:TI} {g:TG} {tb:TS} {pos:Pos} (hp:PassesOwn (model X.prog X.w) X.A X.env X.xe) (hc:X.calm=true) (hi:PI X tg iter wi) (hg:PG X tg g) (hb:PSs X body tb)
  (hs:∀ x,foldedSetIterable iter X.env x=pure x):PS X (.For tg iter body [] pos) (Uj wi g tb):=by
 intro pins s σ H D I h
 refine wpAny_For (thn (hi pins s σ H _ I h) fun v s1 h1=>thn h1 fun itv s2 h2=>?_) hs
 obtain ⟨it,fp,tn,J,H2,e,I2,T,st2,f2,W,⟨m0,w0⟩,turn⟩:=h2
 subst e
 -- what stays true of the iterator's objects through the loop
 have stat:∀ {H':Hp},(∀ b∈fp,H' b=none)→∀ b∈fp,X1 X pins H' b:=fun hn b hb=>⟨hn b hb,(f2 b hb).2⟩
 refine codeAny_forLoop_any (fun n s'=>∃ i σ' H',Inv X pins σ' H' s'∧tn i s'.heap∧(∀ b∈fp,H' b=none)∧W i n σ' H') ?_ m0 ⟨0,σ,H2,I2,st2,fun b hb=>(f2 b hb).1,w0⟩
 rintro n s3 ⟨i,σ3,H3,I3,st3,fr3,w3⟩
 rcases turn i n σ3 H3 w3 with ⟨stop,qn⟩ | ⟨go,N,hN,step⟩
 ·refine wpAny_passesOwn hp (thn (T.done X rfl rfl rfl hc i pins s3 σ3 H3 X.xe I3 (stat fr3) st3 stop) fun r s4 ⟨hr,I4⟩=>?_)
  subst hr
  exact wpAny_execs_nil ⟨σ3,H3,I4,qn⟩
 ·refine wpAny_passesOwn hp (thn (T.item X rfl rfl rfl hc i pins s3 σ3 H3 X.xe I3 (stat fr3) st3 go) fun r s4 ⟨u,hr,h4⟩=>?_)
  subst hr
  refine wpAny_passesOwn hp (thn h4 fun _ s5 ⟨x,H5,I5,r5,y5,st5,fr5⟩=>?_)
  have I5':=I5.pinned (stat fr5) (T.obj _ _ st5)
  refine wpAny_passesOwn hp (thn (hg _ s5 σ3 H5 x u _ I5' r5 (step x H5 y5)) fun _ s6 ⟨σ6,H6,I6,q6⟩=>?_)
  refine wpAny_passesOwn hp (thn (hb _ s6 σ6 H6 _ I6 q6) fun f s7 q7=>?_)
  have again:∀ {σ7:St} {H7:Hp},Inv X (pins++W5 fp s5.heap) σ7 H7 s7→N σ7 H7→∃ m,m<n∧∃ i σ' H',Inv X pins σ' H' s7∧tn i s7.heap∧(∀ b∈fp,H' b=none)∧W i m σ' H':=fun {σ7 H7} I7 n7=>by
   obtain ⟨m',hm,w7⟩:=hN σ7 H7 n7
   refine ⟨m',hm,i+1,σ7,H7,I7.unpinned,T.keep _ _ _ st5 fun b hb o e=>(I7.pin (b,o) (List.mem_append_right _ (List.mem_append_right _ (XG hb e)))).1,fun b hb=>?_,w7⟩
   obtain ⟨o,e,d⟩:=T.obj _ _ st5 b hb
   exact (I7.pin (b,o) (List.mem_append_right _ (List.mem_append_right _ (XG hb e)))).2.1
  cases f with
  | next=>obtain ⟨σ7,H7,I7,n7⟩:=q7;exact again I7 n7
  | cont=>obtain ⟨σ7,H7,I7,n7⟩:=q7;exact again I7 n7
  | brk=>obtain ⟨σ7,H7,I7,q7⟩:=q7;exact ⟨σ7,H7,I7.unpinned,q7⟩
  | ret v=>obtain ⟨x7,σ7,H7,I7,r7,q7⟩:=q7;exact ⟨x7,σ7,H7,I7.unpinned,r7,q7⟩
end
theorem Qh {K:PySem.W.Frag} {a:Addr} {xs:List V} {g:TG} {tb:TS} {D:Ends} {σ:St} {H:Hp} (Pv:Nat→St→Hp→Prop) (h0:Pv 0 σ H) (hl:∀ i σ H,i≤xs.length→Pv i σ H→SqL K H a xs)
  (hs:∀ i x σ H,xs[i]?=some x→Pv i σ H→g x σ H fun σ2 H2=>tb { D with nx:=Pv (i+1),ct:=Pv (i+1),bk:=D.nx } σ2 H2) (hd:∀ σ H,Pv xs.length σ H→D.nx σ H) :
  ∃ W:Nat→Nat→St→Hp→Prop,(∃ m,W 0 m σ H)∧∀ i m σ H,W i m σ H →
   ((Itl K a).stop i H∧D.nx σ H)∨((Itl K a).go i H∧∃ N:St→Hp→Prop,(∀ σ' H',N σ' H'→∃ m',m'<m∧W (i+1) m' σ' H')∧∀ x H',(Itl K a).yld i H x H'→g x σ H' fun σ2 H2=>tb { D with nx:=N,ct:=N,bk:=D.nx } σ2 H2):=by
 refine ⟨fun i m σ H=>m=xs.length - i∧i≤xs.length∧Pv i σ H,⟨xs.length,by simp,Nat.zero_le _,h0⟩,?_⟩
 rintro i m σ H ⟨rfl,hi,p⟩
 have q:=hl i σ H hi p
 by_cases hlt:i<xs.length
 ·refine .inr ⟨⟨xs,xs[i],q,by simp [hlt]⟩,Pv (i+1),fun σ' H' p'=>⟨xs.length - (i+1),by omega,rfl,hlt,p'⟩,fun x H' y=>?_⟩
  obtain ⟨e,y⟩:=y
  subst e
  exact hs i x σ _ (y xs q) p
 ·have e:i=xs.length:=by omega
  subst e
  exact .inl ⟨⟨xs,q,Nat.le_refl _⟩,hd σ H p⟩
theorem YbI {lo:Int} {n:Nat} {g:TG} {tb:TS} {D:Ends} {σ:St} {H:Hp} (Pv:Nat→St→Hp→Prop) (h0:Pv 0 σ H)
  (hs:∀ i σ H,i<n→Pv i σ H→g (.int (lo+i)) σ H fun σ2 H2=>tb { D with nx:=Pv (i+1),ct:=Pv (i+1),bk:=D.nx } σ2 H2) (hd:∀ σ H,Pv n σ H→D.nx σ H) :
  ∃ W:Nat→Nat→St→Hp→Prop,(∃ m,W 0 m σ H)∧∀ i m σ H,W i m σ H →
   ((Itr lo n).stop i H∧D.nx σ H)∨((Itr lo n).go i H∧∃ N:St→Hp→Prop,(∀ σ' H',N σ' H'→∃ m',m'<m∧W (i+1) m' σ' H')∧∀ x H',(Itr lo n).yld i H x H'→g x σ H' fun σ2 H2=>tb { D with nx:=N,ct:=N,bk:=D.nx } σ2 H2):=by
 refine ⟨fun i m σ H=>m=n - i∧i≤n∧Pv i σ H,⟨n,by simp,Nat.zero_le _,h0⟩,?_⟩
 rintro i m σ H ⟨rfl,hi,p⟩
 by_cases hlt:i<n
 ·refine .inr ⟨hlt,Pv (i+1),fun σ' H' p'=>⟨n - (i+1),by omega,rfl,hlt,p'⟩,fun x H' y=>?_⟩
  obtain ⟨e,y⟩:=y
  subst e y
  exact hs i σ _ hlt p
 ·have e:i=n:=by omega
  subst e
  exact .inl ⟨Nat.le_refl _,hd σ H p⟩
end L2
namespace L2
open PySem PySem.Spec PyProof.Rows
abbrev R2:=V→V→Hp→VK→Prop
def OpR (X:Cx) (f:Value→Value→Sem Value) (r:R2):Prop :=
 ∀ (pins:List (Addr×Obj)) (s:Shared) (σ:St) (H:Hp) (x y:V) (v u:Value) (Q:VK),Inv X pins σ H s→YB x v→YB y u→r x y H Q →
  wpAny (model X.prog X.w) X.A (f v u) (EP X pins σ Q) X.xe s
def UnR (X:Cx) (f:Value→Sem Value) (r:V→Hp→VK→Prop):Prop :=
 ∀ (pins:List (Addr×Obj)) (s:Shared) (σ:St) (H:Hp) (x:V) (v:Value) (Q:VK),Inv X pins σ H s→YB x v→r x H Q →
  wpAny (model X.prog X.w) X.A (f v) (EP X pins σ Q) X.xe s
def Wh (X:Cx) (f:Value) (r:List V→Hp→VK→Prop):Prop :=
 ∀ (pins:List (Addr×Obj)) (s:Shared) (σ:St) (H:Hp) (xs:List V) (us:List Value) (Q:VK),Inv X pins σ H s→Ys xs us→r xs H Q →
  wpAny (model X.prog X.w) X.A (call f us) (EP X pins σ Q) X.xe s
def tOp (r:R2) (ta tb:TE):TE:=fun σ H Q=>ta σ H fun x H1=>tb σ H1 fun y H2=>r x y H2 Q
def tUn (r:V→Hp→VK→Prop) (ta:TE):TE:=fun σ H Q=>ta σ H fun x H1=>r x H1 Q
def rI (C:Int→Int→Prop) (g:Int→Int→V):R2:=fun x y H Q=>∃ i j,x = .int i∧y = .int j∧C i j∧Q (g i j) H
def rI0 (g:Int→Int→V):R2:=fun x y H Q=>∃ i j,x = .int i∧y = .int j∧Q (g i j) H
def rU (g:Int→V):V→Hp→VK→Prop:=fun x H Q=>∃ i,x = .int i∧Q (g i) H
section
variable {X:Cx} {a b c:Expr} {ta tb tc:TE} {pos:Pos}
theorem binT (ha:PE X a ta) (hb:PE X b tb) {pins:List (Addr×Obj)} {s:Shared} {σ:St} {H:Hp} {R:V→V→Hp→Prop} (I:Inv X pins σ H s)
  (h:ta σ H fun x H1=>tb σ H1 fun y H2=>R x y H2) {Q:Value→Shared→Prop} {f:Value→Value→Sem Value}
  (hf:∀ v u s2 x y H2,Inv X pins σ H2 s2→YB x v→YB y u→R x y H2→wpAny (model X.prog X.w) X.A (f v u) Q X.xe s2) :
  wpAny (model X.prog X.w) X.A (eval a X.env) (fun v s₁=>wpAny (model X.prog X.w) X.A (eval b X.env) (fun u s₂=>wpAny (model X.prog X.w) X.A (f v u) Q X.xe s₂) X.xe s₁) X.xe s:=by
 refine thn (ha pins s σ H _ I h) fun v s1 ⟨x,H1,I1,r1,q1⟩=>?_
 refine thn (hb pins s1 σ H1 _ I1 q1) fun u s2 ⟨y,H2,I2,r2,q2⟩=>?_
 exact hf v u s2 x y H2 I2 r1 r2 q2
theorem Yi {op:Operator} {r:R2} (ho:OpR X (binaryOp op) r) (ha:PE X a ta) (hb:PE X b tb):PE X (.BinOp a op b pos) (tOp r ta tb):=by
 intro pins s σ H Q I h
 exact wpAny_BinOp (binT ha hb I h fun v u s2 x y H2 I2 rx ry q=>ho pins s2 σ H2 x y v u Q I2 rx ry q)
theorem WC {op:UnaryOp} {r:V→Hp→VK→Prop} (ho:UnR X (unaryOp op) r) (ha:PE X a ta):PE X (.UnaryOp op a pos) (tUn r ta):=by
 intro pins s σ H Q I h
 exact UnaryOp_ (thn (ha pins s σ H _ I h) fun v s1 ⟨x,H1,I1,r1,q1⟩=>ho pins s1 σ H1 x v Q I1 r1 q1)
theorem opI {f:Value→Value→Sem Value} {C:Int→Int→Prop} {g:Int→Int→Int}
  (rule:∀ (i j:Int) (t u:Tok) (s:Shared) (Q:Value→Shared→Prop) (E:Value→Shared→Prop),C i j→Q (.int (g i j) s.toks) { s with toks:=s.toks+1 }→wpAny (model X.prog X.w) X.A (f (.int i t) (.int j u)) Q E s) :
  OpR X f (rI C fun i j => .int (g i j)):=by
 intro pins s σ H x y v u Q I rx ry h
 obtain ⟨i,j,rfl,rfl,hc,q⟩:=h
 obtain ⟨t,rfl⟩:=rx
 obtain ⟨t',rfl⟩:=ry
 exact rule i j t t' s _ _ hc ⟨.int (g i j),H,I.tok _,⟨_,rfl⟩,q⟩
theorem opI0 {f:Value→Value→Sem Value} {g:Int→Int→Int}
  (rule:∀ (i j:Int) (t u:Tok) (s:Shared) (Q:Value→Shared→Prop) (E:Value→Shared→Prop),Q (.int (g i j) s.toks) { s with toks:=s.toks+1 }→wpAny (model X.prog X.w) X.A (f (.int i t) (.int j u)) Q E s) :
  OpR X f (rI0 fun i j => .int (g i j)):=by
 intro pins s σ H x y v u Q I rx ry h
 obtain ⟨i,j,rfl,rfl,q⟩:=h
 obtain ⟨t,rfl⟩:=rx
 obtain ⟨t',rfl⟩:=ry
 exact rule i j t t' s _ _ ⟨.int (g i j),H,I.tok _,⟨_,rfl⟩,q⟩
theorem YaN {f:Value→Value→Sem Value} {g:Int→Int→Bool}
  (rule:∀ (i j:Int) (t u:Tok) (s:Shared) (Q:Value→Shared→Prop) (E:Value→Shared→Prop),Q (.bool (g i j)) s→wpAny (model X.prog X.w) X.A (f (.int i t) (.int j u)) Q E s) :
  OpR X f (rI0 fun i j => .bl (g i j)):=by
 intro pins s σ H x y v u Q I rx ry h
 obtain ⟨i,j,rfl,rfl,q⟩:=h
 obtain ⟨t,rfl⟩:=rx
 obtain ⟨t',rfl⟩:=ry
 exact rule i j t t' s _ _ ⟨.bl (g i j),H,I,rfl,q⟩
def CPow (i j:Int):Prop:=0≤j∧j≤1000000∧i.natAbs<2^64
def CMul (i j:Int):Prop:=(-(2^64)<i∧i<2^64)∨(-(2^64)<j∧j<2^64)
theorem CMul.ok {i j:Int} (h:CMul i j):IntMulOk i j:=by
 rcases h with ⟨h1,h2⟩ | ⟨h1,h2⟩
 ·exact .of_left (intBits_le_64 h1 h2)
 ·exact .of_right (intBits_le_64 h1 h2)
theorem YaO (k:Nat):(0:Int)≤2^k:=by
 rw [two_pow_cast]
 exact Int.natCast_nonneg _
theorem YI:OpR X (binaryOp .Add) (rI0 fun i j => .int (i+j)):=opI0 fun _ _ _ _ _ _ _ q=>add_int q
theorem YD:OpR X (binaryOp .Sub) (rI0 fun i j => .int (i - j)):=opI0 fun _ _ _ _ _ _ _ q=>sub_int q
theorem Y7:OpR X (binaryOp .Mod) (rI (fun _ j=>0<j) fun i j => .int (i%j)):=opI fun i j _ _ _ _ _ hc q=>by
 have h1:(0:Int)<j:=hc
 exact mod_int' (by omega) (by rw [Int.fmod_eq_emod_of_nonneg i (by omega)];exact q)
theorem Vu:OpR X (binaryOp .Pow) (rI CPow fun i j => .int (i^j.toNat)):=opI fun _ _ _ _ _ _ _ hc q=>pow_int_small hc.1 hc.2.1 hc.2.2 q
theorem Qi:OpR X (binaryOp .LShift) (rI CPow fun i j => .int (i*2^j.toNat)):=opI fun _ _ _ _ _ _ _ hc q=>lshift_int_small hc.1 hc.2.1 hc.2.2 q
theorem YdV:OpR X (binaryOp .RShift) (rI (fun _ j=>0≤j) fun i j => .int (i / 2^j.toNat)):=opI fun i j _ _ _ _ _ hc q =>
 rshift_int hc (by rw [Int.fdiv_eq_ediv_of_nonneg i (YaO _)];exact q)
theorem unI {f:Value→Sem Value} {g:Int→Int}
  (rule:∀ (i:Int) (t:Tok) (s:Shared) (Q:Value→Shared→Prop) (E:Value→Shared→Prop),Q (.int (g i) s.toks) { s with toks:=s.toks+1 }→wpAny (model X.prog X.w) X.A (f (.int i t)) Q E s) :
  UnR X f (rU fun i => .int (g i)):=by
 intro pins s σ H x v Q I rx h
 obtain ⟨i,rfl,q⟩:=h
 obtain ⟨t,rfl⟩:=rx
 exact rule i t s _ _ ⟨.int (g i),H,I.tok _,⟨_,rfl⟩,q⟩
theorem Wi:UnR X (unaryOp .USub) (rU fun i => .int (-i)):=unI fun _ _ _ _ _ q=>neg_int q
end
def YaP:V→V→Bool
 | .non,.non=>true | .non,.int _=>true | .int _,.non=>true | .non,.bl _=>true | .bl _,.non=>true | .non,.str _=>true | .str _,.non=>true
 | .int _,.int _=>true | .bl _,.bl _=>true | .str _,.str _=>true | .byt _,.byt _=>true
 | .int _,.str _=>true | .str _,.int _=>true | .bl _,.str _=>true | .str _,.bl _=>true
 | _,_=>false
def rEq:R2:=fun x y H Q=>YaP x y=true∧Q (.bl (decide (x=y))) H
def rNe:R2:=fun x y H Q=>YaP x y=true∧Q (.bl (!decide (x=y))) H
theorem Yac {i j:Int}:decide (V.int i=V.int j)=(i==j):=by
 rw [Bool.eq_iff_iff]
 simp
theorem YbJ {i j:Bool}:decide (V.bl i=V.bl j)=(i==j):=by
 rw [Bool.eq_iff_iff]
 simp
theorem Yad {i j:Str}:decide (V.str i=V.str j)=(i==j):=by
 rw [Bool.eq_iff_iff]
 simp
theorem Yae {i j:Array UInt8}:decide (V.byt i=V.byt j)=(i.toList==j.toList):=by
 rw [Bool.eq_iff_iff]
 cases i
 cases j
 simp
section
variable {X:Cx} {a b c:Expr} {ta tb tc:TE} {pos:Pos}
theorem YK {pins:List (Addr×Obj)} {σ:St} {H:Hp} {s:Shared} {Q:VK} {k k':Bool} (I:Inv X pins σ H s) (q:Q (.bl k) H) (e:k=k'):EP X pins σ Q (.bool k') s:=by
 subst e
 exact ⟨.bl k,H,I,rfl,q⟩
theorem Y4:OpR X (compareOp .Eq) rEq:=by
 intro pins s σ H x y v u Q I rx ry h
 obtain ⟨hs,q⟩:=h
 cases x with
 | non =>
  cases rx
  cases y with
  | non=>cases ry;exact PySem.EqNone.eq_none_none (YK I q (by simp))
  | bl j=>cases ry;exact PySem.EqNone.eq_none_bool (YK I q (by simp))
  | int j=>obtain ⟨t',rfl⟩:=ry;exact PySem.EqNone.eq_none_int (YK I q (by simp))
  | str j=>obtain ⟨t',rfl⟩:=ry;exact PySem.EqNone.eq_none_str (YK I q (by simp))
  | _=>exact absurd (show false=true from hs) Bool.false_ne_true
 | bl i =>
  cases rx
  cases y with
  | non=>cases ry;exact PySem.EqNone.eq_bool_none (YK I q (by simp))
  | bl j=>cases ry;exact eq_bool (YK I q YbJ)
  | str j=>obtain ⟨t',rfl⟩:=ry;exact PySem.EqMixed.eq_bool_str (YK I q (by simp))
  | _=>exact absurd (show false=true from hs) Bool.false_ne_true
 | int i =>
  obtain ⟨t,rfl⟩:=rx
  cases y with
  | non=>cases ry;exact PySem.EqNone.eq_int_none (YK I q (by simp))
  | int j=>obtain ⟨t',rfl⟩:=ry;exact eq_int (YK I q Yac)
  | str j=>obtain ⟨t',rfl⟩:=ry;exact PySem.EqMixed.eq_int_str (YK I q (by simp))
  | _=>exact absurd (show false=true from hs) Bool.false_ne_true
 | str i =>
  obtain ⟨t,rfl⟩:=rx
  cases y with
  | non=>cases ry;exact PySem.EqNone.eq_str_none (YK I q (by simp))
  | bl j=>cases ry;exact PySem.EqMixed.eq_str_bool (YK I q (by simp))
  | int j=>obtain ⟨t',rfl⟩:=ry;exact PySem.EqMixed.eq_str_int (YK I q (by simp))
  | str j=>obtain ⟨t',rfl⟩:=ry;exact eq_str (YK I q Yad)
  | _=>exact absurd (show false=true from hs) Bool.false_ne_true
 | byt i =>
  obtain ⟨t,rfl⟩:=rx
  cases y with
  | byt j=>obtain ⟨t',rfl⟩:=ry;exact PySem.W.eq_bytes (YK I q Yae)
  | _=>exact absurd (show false=true from hs) Bool.false_ne_true
 | _=>cases y<;>exact absurd (show false=true from hs) Bool.false_ne_true
theorem UY:OpR X (compareOp .NotEq) rNe:=by
 intro pins s σ H x y v u Q I rx ry h
 obtain ⟨hs,q⟩:=h
 cases x with
 | non =>
  cases rx
  cases y with
  | non=>cases ry;exact PySem.EqNone.ne_none_none (YK I q (by simp))
  | bl j=>cases ry;exact PySem.EqNone.ne_none_bool (YK I q (by simp))
  | int j=>obtain ⟨t',rfl⟩:=ry;exact PySem.EqNone.ne_none_int (YK I q (by simp))
  | str j=>obtain ⟨t',rfl⟩:=ry;exact PySem.EqNone.ne_none_str (YK I q (by simp))
  | _=>exact absurd (show false=true from hs) Bool.false_ne_true
 | bl i =>
  cases rx
  cases y with
  | non=>cases ry;exact PySem.EqNone.ne_bool_none (YK I q (by simp))
  | bl j=>cases ry;exact ne_bool (YK I q (congrArg not YbJ))
  | str j=>obtain ⟨t',rfl⟩:=ry;exact PySem.EqMixed.ne_bool_str (YK I q (by simp))
  | _=>exact absurd (show false=true from hs) Bool.false_ne_true
 | int i =>
  obtain ⟨t,rfl⟩:=rx
  cases y with
  | non=>cases ry;exact PySem.EqNone.ne_int_none (YK I q (by simp))
  | int j=>obtain ⟨t',rfl⟩:=ry;exact ne_int (YK I q (congrArg not Yac))
  | str j=>obtain ⟨t',rfl⟩:=ry;exact PySem.EqMixed.ne_int_str (YK I q (by simp))
  | _=>exact absurd (show false=true from hs) Bool.false_ne_true
 | str i =>
  obtain ⟨t,rfl⟩:=rx
  cases y with
  | non=>cases ry;exact PySem.EqNone.ne_str_none (YK I q (by simp))
  | bl j=>cases ry;exact PySem.EqMixed.ne_str_bool (YK I q (by simp))
  | int j=>obtain ⟨t',rfl⟩:=ry;exact PySem.EqMixed.ne_str_int (YK I q (by simp))
  | str j=>obtain ⟨t',rfl⟩:=ry;exact ne_str (YK I q (congrArg not Yad))
  | _=>exact absurd (show false=true from hs) Bool.false_ne_true
 | byt i =>
  obtain ⟨t,rfl⟩:=rx
  cases y with
  | byt j=>obtain ⟨t',rfl⟩:=ry;exact PySem.W.ne_bytes (YK I q (congrArg not Yae))
  | _=>exact absurd (show false=true from hs) Bool.false_ne_true
 | _=>cases y<;>exact absurd (show false=true from hs) Bool.false_ne_true
theorem op_lt:OpR X (compareOp .Lt) (rI0 fun i j => .bl (decide (i<j))):=YaN fun _ _ _ _ _ _ _ q=>lt_int q
theorem Wx:OpR X (compareOp .LtE) (rI0 fun i j => .bl (decide (i≤j))):=YaN fun _ _ _ _ _ _ _ q=>le_int q
theorem YcS:OpR X (compareOp .Gt) (rI0 fun i j => .bl (decide (j<i))):=YaN fun _ _ _ _ _ _ _ q=>gt_int q
theorem op_ge:OpR X (compareOp .GtE) (rI0 fun i j => .bl (decide (j≤i))):=YaN fun _ _ _ _ _ _ _ q=>ge_int q
theorem Yw (b:Expr) {op:CmpOp} (h:op ≠ .In:=by decide) (h2:op ≠ .NotIn:=by decide):behindInMarks op b=false:=by
 have e1:(op==CmpOp.In)=false:=by cases op<;>first | rfl | exact absurd rfl h
 have e2:(op==CmpOp.NotIn)=false:=by cases op<;>first | rfl | exact absurd rfl h2
 cases b<;>simp [behindInMarks,e1,e2]
theorem Ydc {op:CmpOp} {r:R2} (ho:OpR X (compareOp op) r) (ha:PE X a ta) (hb:PE X b tb) (hm:behindInMarks op b=false):PE X (.Compare a [op] [b] pos) (tOp r ta tb):=by
 intro pins s σ H Q I h
 exact wpAny_Compare1 (binT ha hb I h fun v u s2 x y H2 I2 rx ry q=>ho pins s2 σ H2 x y v u Q I2 rx ry q) hm
def YcT (t:TE):TT:=fun σ H Q=>t σ H fun x H'=>∃ k,x = .bl k∧Q k H'
theorem Yt {op:CmpOp} {r:R2} (ho:OpR X (compareOp op) r) (ha:PE X a ta) (hb:PE X b tb) (hm:behindInMarks op b=false):PT X (.Compare a [op] [b] pos) (YcT (tOp r ta tb)):=by
 intro pins s σ H Q I h
 refine wpAny_isTrue_Compare1 (thn (ha pins s σ H _ I h) fun v s1 ⟨x,H1,I1,r1,q1⟩=>thn (hb pins s1 σ H1 _ I1 q1) fun u s2 ⟨y,H2,I2,r2,q2⟩ =>
  thn (ho pins s2 σ H2 x y v u _ I2 r1 r2 q2) fun c s3 ⟨z,H3,I3,r3,k,e,q3⟩=>?_) hm
 subst e
 cases r3
 exact wpAny_truthy_bool ⟨H3,I3,q3⟩
theorem W6:(sizeLine:Nat)<2^63:=by rw [sizeLine_eq];decide
theorem UZ {x:V} {us:List Value} (r:Ys [x] us):∃ u,us=[u]∧YB x u:=by
 cases r with
 | cons r1 r2=>cases r2;exact ⟨_,rfl,r1⟩
theorem YaQ {x y:V} {us:List Value} (r:Ys [x,y] us):∃ u w',us=[u,w']∧YB x u∧YB y w':=by
 cases r with
 | cons r1 r2 =>
  cases r2 with
  | cons r3 r4=>cases r4;exact ⟨_,_,rfl,r1,r3⟩
theorem UA (hc:X.calm=true):Wh X (.builtin "max") (fun xs H Q=>∃ i j,xs=[.int i,.int j]∧Q (.int (if j>i then j else i)) H):=by
 intro pins s σ H xs us Q I r h
 obtain ⟨i,j,rfl,q⟩:=h
 obtain ⟨u,w',rfl,⟨t,rfl⟩,⟨t',rfl⟩⟩:=YaQ r
 refine max_two_ints (I.ok.hd hc) fun h' tk k=>⟨_,H,I.kept k,?_,q⟩
 by_cases hj:j>i
 ·rw [if_pos hj,if_pos hj];exact ⟨_,rfl⟩
 ·rw [if_neg hj,if_neg hj];exact ⟨_,rfl⟩
theorem YbK (hc:X.calm=true):Wh X (.builtin "min") (fun xs H Q=>∃ i j,xs=[.int i,.int j]∧Q (.int (if j<i then j else i)) H):=by
 intro pins s σ H xs us Q I r h
 obtain ⟨i,j,rfl,q⟩:=h
 obtain ⟨u,w',rfl,⟨t,rfl⟩,⟨t',rfl⟩⟩:=YaQ r
 refine min_two_ints (I.ok.hd hc) fun h' tk k=>⟨_,H,I.kept k,?_,q⟩
 by_cases hj:j<i
 ·rw [if_pos hj,if_pos hj];exact ⟨_,rfl⟩
 ·rw [if_neg hj,if_neg hj];exact ⟨_,rfl⟩
end
end L2
namespace L2
open PySem PySem.Spec PyProof.Rows
structure ObjM (h:Heap) (x dx C:Addr) (mA:Str→Option Value):Prop where
 obj:h.get? x=some (PySem.W.instObj C dx)
 ns:h.Ns1 dx mA
 ne:dx≠x
theorem YbL {h:Heap} {dx:Addr} {mA:Str→Option Value} (n:h.Ns1 dx mA):∃ od,h.get? dx=some od∧∀ name,PySem.W.lookIn name od=some (mA name):=by
 obtain ⟨o,es,ep,ho,hd,hk,_,hm⟩:=n
 refine ⟨o,ho,fun name=>?_⟩
 have e:=hm name
 unfold nsFind findBy at e
 rw [← Array.find?_toList] at e
 unfold PySem.W.lookIn
 rw [hd]
 dsimp only
 split
 ·rename_i y q
  rw [q] at e
  exact congrArg some e
 ·rename_i q
  rw [q] at e
  have a:es.toList.any (·.refKey)=false:=by
   rw [List.any_eq_false]
   intro y hy
   obtain ⟨z,t,hkey⟩:=hk y (Array.mem_toList_iff.mp hy)
   simp [DictEntry.refKey,hkey]
  have a':¬ es.toList.any (·.refKey)=true:=by rw [a];exact Bool.false_ne_true
  rw [if_neg a']
  exact congrArg some e
theorem ObjM.look {h:Heap} {x dx C:Addr} {mA:Str→Option Value} (I:ObjM h x dx C mA):∃ od,PySem.W.InstAt h x (PySem.W.instObj C dx) C (some od)∧∀ name,PySem.W.lookIn name od=some (mA name) :=
 let ⟨od,ho,hl⟩:=YbL I.ns
 ⟨od,⟨I.obj,rfl,rfl,ho⟩,hl⟩
section
variable {prog:Program} {w:World} {A:Around} {E:Value→Shared→Prop} {s:Shared} {K:PySem.W.Frag} {x dx C f:Addr} {mA:Str→Option Value} {name:Str} {v:Value}
theorem Ydd {expr:Bool} {Q:Value→Shared→Prop} (X:K.In s.heap) (I:ObjM s.heap x dx C mA) (hg:PySem.W.plainGet K C name=true) (hh:PySem.W.hasDictIn K C=true)
  (ha:PySem.W.findIn K (.ref C) name=some none) (hv:mA name=some v) (hv':PySem.W.handedIn v=true) (h:Q v { s with toks:=s.toks+1 }) :
  wpAny (model prog w) A (getAttr (.ref x) name expr) Q E s:=by
 obtain ⟨od,J,hl⟩:=I.look
 exact PySem.W.get_value X J (PySem.W.plainGet_of hg).1 (PySem.W.findObj_own hh ha rfl (by rw [hl,hv])) hv' h
theorem Ycm {pl:Sem Bool} {Q:Value×List Value→Shared→Prop} (X:K.In s.heap) (I:ObjM s.heap x dx C mA) (hg:PySem.W.plainGet K C name=true)
  (hf:PySem.W.findIn K (.ref C) name=some (some (.ref f))) (ht:PySem.W.isFn K (.ref f)=true) (hv:mA name=none) (h:Q (.ref f,[.ref x]) s) :
  wpAny (model prog w) A (getMethod (.ref x) name pl) Q E s:=by
 obtain ⟨od,J,hl⟩:=I.look
 exact PySem.W.method_fn X J (PySem.W.plainGet_of hg).1 (PySem.W.plainGet_of hg).2 hf (beq_iff_eq.mp ht) (by show (PySem.W.lookIn name od).map (·.isSome)=some false;rw [hl,hv];rfl) h
theorem Yde {ns:List Str} {Q:Unit→Shared→Prop} (X:K.In s.heap) (I:ObjM s.heap x dx C mA)
  (hs:PySem.W.findIn K (.ref C) "__setattr__"=some (some (.builtin "object.__setattr__"))) (hp:PySem.W.plainOver K C=true) (ht:PySem.W.takerIn K C name=some none) (hh:PySem.W.hasDictIn K C=true)
  (hw:PySem.Within mA ns) (hsz:ns.length≤sizeLine)
  (h:∀ h',ObjM h' x dx C (fun y=>if y=name then some v else mA y)→Heap.SameBut dx s.heap h'→Q () { s with heap:=h',toks:=s.toks+2 }) :
  wpAny (model prog w) A (setAttr (.ref x) name v) Q E s:=by
 obtain ⟨od,J,hl⟩:=I.look
 refine PySem.W.set_plain X J hs (PySem.W.osa_open (s:={ s with toks:=s.toks+1 }) (r:=none) X J hp ht fun b=>?_)
 obtain ⟨cd,hc,hd'⟩:=PySem.W.any_some hh
 have hx:s.heap.get? x=some ⟨.ref C,some dx,.plain,#[]⟩:=I.obj
 refine wpAny_bind (wpAny_pure (wpAny_bind (wpAny_bind (wpAny_loadPart hx (wpAny_bind (PySem.W.Looks.here (s:={ s with toks:=s.toks+1 }) (PySem.W.looks_clsIn X hc) ?_))))))
 rw [hd']
 refine wpAny_pure (a:=some dx) (wpAny_bind (wpAny_pure (wpAny_bind ?_)))
 refine wpAny_nsSet1 (s:={ s with toks:=s.toks+1 }) I.ns fun h' hn2 hs2=>?_
 obtain ⟨oD,esD,epD,hoD,hdD,hcD⟩:=hn2.count (PySem.Within.cons name v hw)
 refine wpAny_bind (wpAny_lookBehind hoD (by rw [hdD];exact pastItsLine_dict (Nat.le_trans hcD (by rw [List.length_cons];omega))) ?_)
 exact wpAny_pure (h _ ⟨(hs2.2 _ (Ne.symm I.ne)).trans I.obj,hn2,I.ne⟩ hs2)
theorem Ycn {R:Result→Shared→Prop} {vs:List Value} {kw:List (Str×Value)} (X:K.In s.heap) (hm:PySem.W.makesIn K C=true)
  (hi:PySem.W.findIn K (.ref C) "__init__"=some (some (.ref f))) (hf:PySem.W.typeIn K (.ref f)=some (.type "function"))
  (h:codeAny (model prog w) (A.under (.builtin "type.__call__" ⟨.ref C::vs,kw⟩)) (.call (.ref f) ⟨.ref (s.heap.objs.size+1)::vs,kw⟩) (PySem.W.InitBack (s.heap.objs.size+1) R)
   { s with heap:=(s.heap.push PySem.W.emptyDict).push (PySem.W.instObj C s.heap.objs.size) }) :
  codeAny (model prog w) A (.call (.ref C) ⟨vs,kw⟩) R s:=by
 obtain ⟨hh,g,d,t,os⟩:=s
 exact PySem.W.make_core (PySem.W.makes_of X hm) (PySem.W.looks_findIn X hi) (fun self=>PySem.W.bind_fn X self hf) (.inl rfl) h
end
def Y3 (f:Str) (v:V):List (Str×V)→List (Str×V)
 | []=>[(f,v)]
 | (g,x)::r=>if g=f then (g,v)::r else (g,x)::Y3 f v r
theorem VQ (f g:Str) (v:V):∀ fs:List (Str×V),(Y3 f v fs).lookup g=if g=f then some v else fs.lookup g
 | []=>by
  show List.lookup g [(f,v)]=_
  by_cases h:g=f
  ·have hb:(g==f)=true:=beq_iff_eq.mpr h
   simp only [List.lookup,hb,if_pos h]
  ·have hb:(g==f)=false:=beq_eq_false_iff_ne.mpr h
   simp only [List.lookup,hb,if_neg h]
 | (k,x)::r=>by
  have ih:=VQ f g v r
  rw [show Y3 f v ((k,x)::r)=(if k=f then (k,v)::r else (k,x)::Y3 f v r) from rfl]
  by_cases hk:k=f
  ·rw [if_pos hk]
   by_cases h:g=k
   ·have hb:(g==k)=true:=beq_iff_eq.mpr h
    simp only [List.lookup,hb,if_pos (h.trans hk)]
   ·have hb:(g==k)=false:=beq_eq_false_iff_ne.mpr h
    simp only [List.lookup,hb,if_neg (fun e:g=f=>h (e.trans hk.symm))]
  ·rw [if_neg hk]
   by_cases h:g=k
   ·have hb:(g==k)=true:=beq_iff_eq.mpr h
    simp only [List.lookup,hb,if_neg (fun e:g=f=>hk (h.symm.trans e))]
   ·have hb:(g==k)=false:=beq_eq_false_iff_ne.mpr h
    simp only [List.lookup,hb]
    exact ih
theorem Vv (f:Str) (v:V):∀ fs:List (Str×V),f∈(Y3 f v fs).map (·.1)∧∀ g,g∈fs.map (·.1)→g∈(Y3 f v fs).map (·.1)
 | []=>⟨by simp [Y3],fun g h=>by simp at h⟩
 | (k,x)::r=>by
  obtain ⟨i1,i2⟩:=Vv f v r
  rw [show Y3 f v ((k,x)::r)=(if k=f then (k,v)::r else (k,x)::Y3 f v r) from rfl]
  by_cases hk:k=f
  ·rw [if_pos hk]
   subst hk
   exact ⟨by simp,fun g h=>by simpa using h⟩
  ·rw [if_neg hk]
   refine ⟨?_,fun g h=>?_⟩
   ·rw [List.map_cons]
    exact List.mem_cons_of_mem _ i1
   ·rw [List.map_cons] at h ⊢
    rcases List.mem_cons.mp h with e | e
    ·exact List.mem_cons.mpr (.inl e)
    ·exact List.mem_cons_of_mem _ (i2 g e)
theorem Xo (f:Str) (v:V):∀ fs:List (Str×V),(Y3 f v fs).length≤fs.length+1
 | []=>by simp [Y3]
 | (k,x)::r=>by
  have ih:=Xo f v r
  rw [show Y3 f v ((k,x)::r)=(if k=f then (k,v)::r else (k,x)::Y3 f v r) from rfl]
  by_cases hk:k=f
  ·rw [if_pos hk,List.length_cons,List.length_cons];omega
  ·rw [if_neg hk,List.length_cons,List.length_cons];omega
theorem WB.some_of {v:V} {o:Option Value} (r:WB (some v) o):∃ u,o=some u∧YB v u:=by
 cases o with
 | none=>exact (show False from r).elim
 | some u=>exact ⟨u,rfl,r⟩
theorem WB.none_of {o:Option Value} (r:WB none o):o=none:=by
 cases o with
 | none=>rfl
 | some u=>exact (show False from r).elim
theorem YbM {v:V} {u:Value} (r:YB v u):PySem.W.handedIn u=true:=by
 cases v with
 | non=>cases (show u=Value.none from r);rfl
 | bl b=>cases (show u=Value.bool b from r);rfl
 | int i=>obtain ⟨t,e⟩:=(show ∃ t,u=Value.int i t from r);cases e;rfl
 | str x=>obtain ⟨t,e⟩:=(show ∃ t,u=Value.str x t from r);cases e;rfl
 | byt b=>obtain ⟨t,e⟩:=(show ∃ t,u=Value.bytes b t from r);cases e;rfl
 | flt b=>obtain ⟨t,e⟩:=(show ∃ t,u=Value.float b t from r);cases e;rfl
 | ref a=>cases (show u=Value.ref a from r);rfl
 | ty n=>cases (show u=Value.type n from r);rfl
section
variable {P:Program} {w:World} {H H':Hp} {h h':Heap} {a C dx:Addr} {fs fs':List (Str×V)}
theorem VJ (hok:HOk P w H h) (e:H a=some (.ins C dx fs)):∃ mA,ObjM h a dx C mA∧(∀ f,WB (fs.lookup f) (mA f))∧PySem.Within mA (fs.map (·.1))∧fs.length≤1000∧H dx=some (.own a):=by
 obtain ⟨d,z,ne,ob,mA,n,r,q⟩:=(show Xe P w H h a (.ins C dx fs) from hok a _ e)
 exact ⟨mA,⟨ob,n,ne⟩,r,q,z,d⟩
end
structure Cls (K:PySem.W.Frag) (C:Addr):Prop where
 pg:PySem.W.plainGet K C Str.empty=true
 hd:PySem.W.hasDictIn K C=true
 po:PySem.W.plainOver K C=true
 sa:PySem.W.findIn K (.ref C) "__setattr__"=some (some (.builtin "object.__setattr__"))
theorem Cls.get {K:PySem.W.Frag} {C:Addr} (c:Cls K C) (f:Str):PySem.W.plainGet K C f=true:=c.pg
def Yb (K:PySem.W.Frag) (C:Addr) (f:Str):Prop:=PySem.W.findIn K (.ref C) f=some none
theorem Yb.taker {K:PySem.W.Frag} {C:Addr} {f:Str} (n:Yb K C f):PySem.W.takerIn K C f=some none:=by
 unfold PySem.W.takerIn
 rw [show PySem.W.findIn K (.ref C) f=some none from n]
 rfl
structure Meth (K:PySem.W.Frag) (C:Addr) (m:Str) (f:Addr):Prop where
 at_:PySem.W.findIn K (.ref C) m=some (some (.ref f))
 fn:PySem.W.isFn K (.ref f)=true
 kp:PySem.W.keepIn K (.ref f)=true
section
variable {X:Cx} {pins:List (Addr×Obj)} {σ:St} {H:Hp} {s:Shared} {a C dx:Addr} {fs:List (Str×V)} {f:Str} {v:V} {A:Around} {E:Value→Shared→Prop}
theorem YaR {b:Bool} {Q:Value→Shared→Prop} (I:Inv X pins σ H s) (e:H a=some (.ins C dx fs)) (c:Cls X.K C) (n:Yb X.K C f) (l:fs.lookup f=some v)
  (h:∀ u s',Inv X pins σ H s'→YB v u→Q u s'):wpAny (model X.prog X.w) A (getAttr (.ref a) f b) Q E s:=by
 obtain ⟨mA,O,r,_,_,_⟩:=VJ I.hok e
 obtain ⟨u,hu,ru⟩:=WB.some_of (v:=v) (o:=mA f) (by rw [← l];exact r f)
 exact Ydd I.kIn O (c.get f) c.hd n hu (YbM ru) (h u _ (I.tok _) ru)
theorem YaS {m:Str} {g:Addr} {pl:Sem Bool} {Q:Value×List Value→Shared→Prop} (I:Inv X pins σ H s) (e:H a=some (.ins C dx fs)) (c:Cls X.K C) (k:Meth X.K C m g) (l:fs.lookup m=none)
  (h:Q (.ref g,[.ref a]) s):wpAny (model X.prog X.w) A (getMethod (.ref a) m pl) Q E s:=by
 obtain ⟨mA,O,r,_,_,_⟩:=VJ I.hok e
 have hn:mA m=none:=WB.none_of (by rw [← l];exact r m)
 exact Ycm I.kIn O (c.get m) k.at_ k.fn hn h
theorem YaT {y:V} {u:Value} {Q:Unit→Shared→Prop} (I:Inv X pins σ H s) (e:H a=some (.ins C dx fs)) (c:Cls X.K C) (n:Yb X.K C f) (hl:fs.length<1000) (ry:YB y u)
  (h:∀ s',Inv X pins σ (upd H a (.ins C dx (Y3 f y fs))) s'→Q () s'):wpAny (model X.prog X.w) A (setAttr (.ref a) f u) Q E s:=by
 obtain ⟨mA,O,r,wi,_,ho⟩:=VJ I.hok e
 have hz:(fs.map (·.1)).length≤sizeLine:=by rw [List.length_map,sizeLine_eq];omega
 refine Yde I.kIn O c.sa c.po n.taker c.hd wi hz fun h' O' sb=>h _ ?_
 have hd:∃ o,h'.get? dx=some o:=let ⟨o,_,_,e',_⟩:=O'.ns;⟨o,e'⟩
 refine I.write (x:=a) (e:=dx) (by rw [e];exact True.intro) (.inr ho) (fun b q hb z=>(sb.2 b hb).trans z) hd ?_
 refine ⟨by rw [Yd O.ne];exact ho,?_,O.ne,O'.obj,_,O'.ns,fun g=>?_,fun g hg=>?_⟩
 ·have:=Xo f y fs;omega
 ·show WB ((Y3 f y fs).lookup g) (if g=f then some u else mA g)
  rw [VQ]
  by_cases q:g=f
  ·rw [if_pos q,if_pos q];exact ry
  ·rw [if_neg q,if_neg q];exact r g
 ·by_cases q:g=f
  ·rw [q];exact (Vv f y fs).1
  ·refine (Vv f y fs).2 g (wi g fun z=>hg ?_)
   show (if g=f then some u else mA g)=none
   rw [if_neg q];exact z
theorem Inv.made (I:Inv X pins σ H s):Inv X pins σ (upd (upd H s.heap.objs.size (.own (s.heap.objs.size+1))) (s.heap.objs.size+1) (.ins C s.heap.objs.size []))
  { s with heap:=(s.heap.push PySem.W.emptyDict).push (PySem.W.instObj C s.heap.objs.size) }:=by
 have e1:(s.heap.push PySem.W.emptyDict).get? s.heap.objs.size=some PySem.W.emptyDict:=Heap.get?_push_size s.heap rfl
 have e2:((s.heap.push PySem.W.emptyDict).push (PySem.W.instObj C s.heap.objs.size)).get? (s.heap.objs.size+1)=some (PySem.W.instObj C s.heap.objs.size):=by
  have:=Heap.get?_push_size (s.heap.push PySem.W.emptyDict) (o:=PySem.W.instObj C s.heap.objs.size) rfl
  rwa [Heap.size_push] at this
 have e3:(s.heap.push PySem.W.emptyDict).Ns s.heap.objs.size (fun _=>none):=⟨PySem.W.emptyDict,#[],_,e1,rfl,(fun e he=>absurd he (by simp)),fun _=>rfl⟩
 have I1:=I.laid (a:=s.heap.objs.size) (o := .own (s.heap.objs.size+1)) (h':=s.heap.push PySem.W.emptyDict) (t':=s.toks) (fun b u q=>Heap.get?_push_of_some _ q) (Nat.le_refl _) ⟨_,e1⟩
 refine I1.laid (a:=s.heap.objs.size+1) (o := .ins C s.heap.objs.size []) (t':=s.toks) (fun b u q=>Heap.get?_push_of_some _ q) (Nat.le_of_eq (Heap.size_push _ _)) ?_
 have ne:s.heap.objs.size≠s.heap.objs.size+1:=Nat.ne_of_lt (Nat.lt_succ_self _)
 refine ⟨by rw [Yd ne,Ye],Nat.zero_le _,ne,e2,fun _=>none,(Heap.Ns1.of_empty e3).at fun o q=>Heap.get?_push_of_some _ q,fun _=>True.intro,fun y hy=>absurd rfl hy⟩
theorem Ydf {prog:Program} {w:World} {env:Env} {e:Expr} {f:Str} {pos:Pos} {s:Shared} {Q:Value→Shared→Prop} (hb:attributeBase e f env (eval e env)=eval e env)
  (h:wpAny (model prog w) A (eval e env) (fun o s₁=>wpAny (model prog w) A (getAttr o f true) Q E s₁) E s):wpAny (model prog w) A (eval (.Attribute e f pos) env) Q E s :=
 Attribute_any_ h (by rw [arm_eval_Attribute,hb])
end
def tFld (K:PySem.W.Frag) (ta:TE) (f:Str):TE:=fun σ H Q=>ta σ H fun x H1=>∃ a C dx fs v,x = .ref a∧H1 a=some (.ins C dx fs)∧Cls K C∧Yb K C f∧fs.lookup f=some v∧Q v H1
def sFld (K:PySem.W.Frag) (ta tv:TE) (f:Str):TS:=fun D σ H=>tv σ H fun y H1=>ta σ H1 fun x H2=>∃ a C dx fs,x = .ref a∧H2 a=some (.ins C dx fs)∧Cls K C∧Yb K C f∧fs.length<1000 ∧
 D.nx σ (upd H2 a (.ins C dx (Y3 f y fs)))
section
variable {X:Cx} {o e value:Expr} {f:Str} {pos pos' tpos:Pos} {ta tv:TE}
theorem Yl (he:PE X e ta) (hb:attributeBase e f X.env (eval e X.env)=eval e X.env):PE X (.Attribute e f pos) (tFld X.K ta f):=by
 intro pins s σ H Q I h
 refine Ydf hb (thn (he pins s σ H _ I h) fun u s1 ⟨x,H1,I1,rx,a,C,dx,fs,v,ex,ea,c,n,l,q⟩=>?_)
 subst ex
 obtain rfl:u=Value.ref a:=rx
 exact YaR I1 ea c n l fun u' s2 I2 ru=>⟨v,H1,I2,ru,q⟩
theorem Y8 (ha:PE X o ta) (hv:PE X value tv) (hs:swapsWith value (some (.Attribute o f pos')) pos.line X.env=pure false):PS X (.Assign [.Attribute o f pos'] value pos) (sFld X.K ta tv f):=by
 intro pins s σ H D I h
 refine plainObj_wpAny_Assign_Attribute (thn (hv pins s σ H _ I h) fun u s1 ⟨y,H1,I1,ry,q⟩=>thn (ha pins s1 σ H1 _ I1 q) fun ov s2 ⟨x,H2,I2,rx,a,C,dx,fs,ex,ea,c,n,l,q2⟩=>?_) hs
 subst ex
 obtain rfl:ov=Value.ref a:=rx
 exact YaT I2 ea c n l ry fun s3 I3=>⟨σ,_,I3,q2⟩
end
section
variable {X:Cx} {pins:List (Addr×Obj)} {σ:St} {H:Hp} {s:Shared} {A:Around} {E:Value→Shared→Prop} {Q:Value→Shared→Prop} {c:Value} {b:Bool}
inductive TyOf (K:PySem.W.Frag) (H:Hp):V→Value→Prop where
 | non:TyOf K H .non (.type "NoneType")
 | bl (x:Bool):TyOf K H (.bl x) (.type "bool")
 | int (i:Int):TyOf K H (.int i) (.type "int")
 | str (x:Str):TyOf K H (.str x) (.type "str")
 | flt (x:UInt64):TyOf K H (.flt x) (.type "float")
 | lst {a:Addr} {xs:List V} (e:H a=some (.lst xs)):TyOf K H (.ref a) (.type "list")
 | frz {a:Addr} {o:Obj} {xs:List V} (e:H a=some (.frz o (.lst xs))):TyOf K H (.ref a) (.type "list")
 | tup {a:Addr} {xs:List V} (e:H a=some (.tup xs)):TyOf K H (.ref a) (.type "tuple")
 | dK {a:Addr} {kvs:List (Key×V)} (e:H a=some (.dK kvs)):TyOf K H (.ref a) (.type "dict")
 | dT {a:Addr} {kvs:List (List Key×V)} (e:H a=some (.dT kvs)):TyOf K H (.ref a) (.type "dict")
 | ins {a C dx:Addr} {fs:List (Str×V)} (e:H a=some (.ins C dx fs)) (cl:Cls K C) (ha:PySem.W.findIn K (.ref C) "__class__"=some (some (.builtin "object.__class__")))
   (hn:PySem.W.specialIn K (.builtin "object.__class__") "__get__"=some (some (.builtin "getset_descriptor.__get__"))) (htk:PySem.W.takesIn K (.builtin "object.__class__")=some true)
   (hm:PySem.W.mroIn K C (.type "object")=some true):TyOf K H (.ref a) (.ref C)
theorem YbN {x:V} {u t:Value} (I:Inv X pins σ H s) (rx:YB x u) (ty:TyOf X.K H x t) (e:PySem.W.kitOne X.K t c=some b) (h:∀ tk,Q (.bool b) { s with toks:=tk }) :
  wpAny (model X.prog X.w) A (call (.builtin "isinstance") [u,c]) Q E s:=by
 cases ty with
 | non=>cases (show u=Value.none from rx);exact PySem.W.kia_one PySem.W.kitx_none I.kIn True.intro e (fun z=>nomatch z) h
 | bl y=>cases (show u=Value.bool y from rx);exact PySem.W.kia_one PySem.W.kitx_bool I.kIn True.intro e (fun z=>nomatch z) h
 | int i=>obtain ⟨t,q⟩:=(show ∃ t,u=Value.int i t from rx);cases q;exact PySem.W.kia_one PySem.W.kitx_int I.kIn True.intro e (fun z=>nomatch z) h
 | str y=>obtain ⟨t,q⟩:=(show ∃ t,u=Value.str y t from rx);cases q;exact PySem.W.kia_one PySem.W.kitx_str I.kIn True.intro e (fun z=>nomatch z) h
 | flt y=>obtain ⟨t,q⟩:=(show ∃ t,u=Value.float y t from rx);cases q;exact PySem.W.kia_one PySem.W.kitx_float I.kIn True.intro e (fun z=>nomatch z) h
 | @lst a xs ea =>
  cases (show u=Value.ref a from rx)
  obtain ⟨_,_,n,_,h1⟩:=(show Xe X.prog X.w H s.heap a (.lst xs) from I.hok a _ ea)
  exact PySem.W.kia_one PySem.W.kitx_list I.kIn ⟨_,h1,rfl⟩ e (fun z=>nomatch z) h
 | @frz a ob xs ea =>
  cases (show u=Value.ref a from rx)
  obtain ⟨_,_,_,n,_,h1⟩:=(show Xe X.prog X.w H s.heap a (.frz ob (.lst xs)) from I.hok a _ ea)
  exact PySem.W.kia_one PySem.W.kitx_list I.kIn ⟨_,h1,rfl⟩ e (fun z=>nomatch z) h
 | @tup a xs ea =>
  cases (show u=Value.ref a from rx)
  obtain ⟨_,_,_,p⟩:=(show Xe X.prog X.w H s.heap a (.tup xs) from I.hok a _ ea)
  obtain ⟨o,h1,h2,_⟩:=p
  exact PySem.W.kia_one PySem.W.kitx_tuple I.kIn ⟨o,h1,h2⟩ e (fun z=>nomatch z) h
 | @dK a kvs ea =>
  cases (show u=Value.ref a from rx)
  obtain ⟨_,_,vs,_,p⟩:=(show Xe X.prog X.w H s.heap a (.dK kvs) from I.hok a _ ea)
  obtain ⟨o,es,ep,h1,h2,_⟩:=p
  exact PySem.W.kia_one PySem.W.kitx_dict I.kIn ⟨o,h1,h2.1⟩ e (fun z=>nomatch z) h
 | @dT a kvs ea =>
  cases (show u=Value.ref a from rx)
  obtain ⟨_,_,xs,_,o,es,ep,h1,h2,_⟩:=(show Xe X.prog X.w H s.heap a (.dT kvs) from I.hok a _ ea)
  exact PySem.W.kia_one PySem.W.kitx_dict I.kIn ⟨o,h1,h2.1⟩ e (fun z=>nomatch z) h
 | @ins a C dx fs ea cl ha hn htk hm =>
  cases (show u=Value.ref a from rx)
  obtain ⟨mA,O,_⟩:=VJ I.hok ea
  obtain ⟨od,J,_⟩:=O.look
  exact PySem.W.kia_one (PySem.W.kitx_own (cl.get _) cl.hd ha hn htk hm) I.kIn J e (fun z=>nomatch z) h
end
end L2
namespace L2
open PySem PySem.Spec PyProof.Rows
structure Room (k:Nat) (A:Around):Prop where
 hd:A.handled=none
 dp:A.depth+3*k+5<recursionLimit
 un:A.units+16*k+200<cLine
theorem Room.mono {j k:Nat} {A:Around} (r:Room k A) (h:j≤k):Room j A:=⟨r.hd,by have:=r.dp;omega,by have:=r.un;omega⟩
theorem Room.deeper {k:Nat} {A:Around} (r:Room (k+1) A) (env:Env):Room k (A.deeper env) :=
 ⟨r.hd,by have:=r.dp;show A.depth+1+3*k+5<_;omega,by have:=r.un;show A.units+3+16*k+200<_;omega⟩
theorem YaU {A:Around} {C:Addr} {us:List Value} {kw:List (Str×Value)}:(A.under (.builtin "type.__call__" ⟨.ref C::us,kw⟩)).depth=A.depth+1:=by
 first | rfl | simp [Around.under,Code.weight,Code.isCreation,Code.isGuard,Code.isCaller,Code.frames,Code.isFrame,guardIds]
theorem YaV {A:Around} {C:Addr} {us:List Value} {kw:List (Str×Value)}:(A.under (.builtin "type.__call__" ⟨.ref C::us,kw⟩)).units=A.units+1:=by
 first | rfl | simp [Around.under,Code.cUnits,Code.frames,Code.isFrame]
theorem Room.make {k:Nat} {A:Around} (r:Room (k+1) A) (C:Addr) (us:List Value) (kw:List (Str×Value)):Room k (A.under (.builtin "type.__call__" ⟨.ref C::us,kw⟩)) :=
 ⟨r.hd,by have:=r.dp;rw [YaU];omega,by have:=r.un;rw [YaV];omega⟩
theorem Room.depth {k:Nat} {A:Around} (r:Room k A):A.depth<recursionLimit:=by have:=r.dp;omega
theorem Room.units {k:Nat} {A:Around} (r:Room k A):A.units+64<cLine:=by have:=r.un;omega
def Uk:TA:=fun _ H Q=>Q [] H
def U0 (ta:TE) (tr:TA):TA:=fun σ H Q=>ta σ H fun x H1=>tr σ H1 fun xs H2=>Q (x::xs) H2
section
variable {X:Cx} {e:Expr} {es:List Expr} {te:TE} {t:TA} {pos:Pos}
theorem Yc:PA X [] Uk:=fun _ _ _ _ H Q I h=>Calls.spliced_nil ⟨[],H,I,.nil,h⟩
theorem Ya (ha:PE X e te) (hr:PA X es t) (hs:starEach (e::es) X.env=(false,eval e X.env)::starEach es X.env):PA X (e::es) (U0 te t):=by
 intro pos pins s σ H Q I h
 rw [hs]
 show wpAny _ _ (spliced ((false,eval e X.env)::backTo pos (starEach es X.env))) _ _ s
 refine Calls.spliced_cons (thn (ha pins s σ H _ I h) fun u s1 ⟨x,H1,I1,r1,q1⟩=>?_)
 exact thn (hr pos pins s1 σ H1 _ I1 q1) fun us s2 ⟨xs,H2,I2,r2,q2⟩=>⟨x::xs,H2,I2,.cons r1 r2,q2⟩
def tTup (t:TA):TE:=fun σ H Q=>t σ H fun xs H1=>xs.length≤sizeLine∧∀ p,H1 p=none→Q (.ref p) (upd H1 p (.tup xs))
def tLst (t:TA):TE:=fun σ H Q=>t σ H fun xs H1=>xs.length≤sizeLine∧∀ p,H1 p=none→Q (.ref p) (upd H1 p (.lst xs))
theorem Xg {x1} (h:PA X es t):PE X (.Tuple es x1 pos) (tTup t):=by
 intro pins s σ H Q I hq
 refine wpAny_Tuple_spliced (thn (h pos pins s σ H _ I hq) fun us s1 ⟨xs,H1,I1,r,z,q⟩=>⟨by rw [← r.length];exact z,?_⟩)
 have hf:H1 s1.heap.objs.size=none:=I1.hok.fresh (Nat.le_refl _)
 refine ⟨.ref s1.heap.objs.size,upd H1 s1.heap.objs.size (.tup xs),I1.laid (t':=s1.toks) (fun b u e=>Heap.get?_push_of_some _ e) (Nat.le_refl _) ?_,rfl,q _ hf⟩
 exact ⟨z,us,r,⟨_,Heap.get?_push_size _ rfl,rfl,_,rfl⟩⟩
theorem Xv (h:PA X es t):PE X (.List es pos) (tLst t):=by
 intro pins s σ H Q I hq
 refine wpAny_List_spliced (thn (h pos pins s σ H _ I hq) fun us s1 ⟨xs,H1,I1,r,z,q⟩=>⟨by rw [← r.length];exact z,?_⟩)
 have hf:H1 s1.heap.objs.size=none:=I1.hok.fresh (Nat.le_refl _)
 refine ⟨.ref s1.heap.objs.size,upd H1 s1.heap.objs.size (.lst xs),I1.laid (t':=s1.toks) (fun b u e=>Heap.get?_push_of_some _ e) (Nat.le_refl _) ?_,rfl,q _ hf⟩
 exact ⟨z,us,0,r,Heap.get?_push_size _ rfl⟩
end
abbrev Sp:=List V→Hp→VK→XK→Prop
abbrev CXT:=List Env→Hp→Shared→XK→Value→Shared→Prop
structure Env0 (P:Program) (w:World) (K:PySem.W.Frag) (mg:Str→Option Value) (base:Heap) (A:Around) (outer:List Env) (s:Shared) (H:Hp):Prop where
 frames:A.frames=some outer
 mod:Mod K mg base
 bs:∀ b o,base.get? b=some o→s.heap.get? b=some o∧H b=none
 bsz:base.objs.size≤s.heap.objs.size
 funs:s.heap.FunFrames base outer
 frf:∀ b∈frs outer,H b=none
 hok:HOk P w H s.heap
 bare:AllBare s.gens
def CE (outer:List Env) (P:Program) (w:World) (H:Hp) (s:Shared) (Q:VK) (u:Value) (s':Shared):Prop :=
 ∃ v H',s'.os=s.os∧AllBare s'.gens∧Un (frs outer) [] H H' s.heap s'.heap∧HOk P w H' s'.heap∧YB v u∧Q v H'
def CR (CX:CXT) (outer:List Env) (P:Program) (w:World) (H:Hp) (s:Shared) (Q:VK) (E:XK) (r:Result) (s':Shared):Prop :=
 match r with
 | .ok (.ret u)=>CE outer P w H s Q u s'
 | .ok _=>False
 | .error e=>CX outer H s E e s'
structure FnOk (P:Program) (w:World) (K:PySem.W.Frag) (mg:Str→Option Value) (base:Heap) (CX:CXT) (k:Nat) (f:Addr) (fd:FuncData) (ps:List Str) (sp:Sp):Prop where
 len:∀ vs H Q E,sp vs H Q E→vs.length=ps.length
 run:∀ (A:Around) (outer:List Env) (s:Shared) (H:Hp) (args:Args) (us:List Value) (vs:List V) (Q:VK) (E:XK),Room k A→Env0 P w K mg base A outer s H→BindsTo s fd args (ps.zip us)→Ys vs us→sp vs H Q E →
  codeAny (model P w) A (.call (.ref f) args) (CR CX outer P w H s Q E) s
theorem FnOk.mono {P:Program} {w:World} {K:PySem.W.Frag} {mg:Str→Option Value} {base:Heap} {CX:CXT} {j k:Nat} {f:Addr} {fd:FuncData} {ps:List Str} {sp:Sp} (F:FnOk P w K mg base CX j f fd ps sp) (h:j≤k) :
  FnOk P w K mg base CX k f fd ps sp:=⟨F.len,fun A outer s H args us vs Q E hr=>F.run A outer s H args us vs Q E (hr.mono h)⟩
theorem Env0.make {P:Program} {w:World} {K:PySem.W.Frag} {mg:Str→Option Value} {base:Heap} {A:Around} {outer:List Env} {s:Shared} {H:Hp} (e:Env0 P w K mg base A outer s H) (C:Addr) (us:List Value) (kw:List (Str×Value)) :
  Env0 P w K mg base (A.under (.builtin "type.__call__" ⟨.ref C::us,kw⟩)) outer s H:=⟨by first | exact e.frames | (simpa [Around.under,Code.envs,Code.isFrame,pushEnvs] using e.frames),e.mod,e.bs,e.bsz,e.funs,e.frf,e.hok,e.bare⟩
section
variable {X:Cx} {pins:List (Addr×Obj)} {σ:St} {H:Hp} {s s':Shared}
theorem Inv.env0 (I:Inv X pins σ H s):Env0 X.prog X.w X.K X.mg X.base X.A X.stack s H :=
 ⟨I.ok.frames,I.ok.mod,I.bs,Nat.le_trans I.ok.bsz I.sz,I.stack,I.stkFree,I.hok,I.bare⟩
theorem Inv.after {Q:VK} {u:Value} (I:Inv X pins σ H s) (h:CE X.stack X.prog X.w H s Q u s'):EP X pins σ Q u s':=by
 obtain ⟨v,H',os,bare,un,hok,r,q⟩:=h
 obtain ⟨hh,g,d,t,os'⟩:=s'
 obtain rfl:os'=s.os:=os
 exact ⟨v,H',I.call (h':=hh) (g':=g) (d':=d) (t':=t) (ch:=[]) un hok bare (fun b z=>absurd z (by simp)),r,q⟩
end
def VZ (sp:Sp) (dvs:List V) (E:XK) (t:TA):TE:=fun σ H Q=>t σ H fun vs H1=>sp (vs++dvs) H1 Q E
def U4 (C:Addr) (m:Str) (sp:Sp) (dvs:List V) (E:XK) (ta:TE) (t:TA):TE:=fun σ H Q=>ta σ H fun x H1=>∃ a dx fs,x = .ref a∧H1 a=some (.ins C dx fs)∧fs.lookup m=none ∧
 t σ H1 fun vs H2=>sp (x::(vs++dvs)) H2 Q E
def V0 (C:Addr) (sp:Sp) (dvs:List V) (E:XK) (t:TA):TE:=fun σ H Q=>t σ H fun vs H1=>∀ x dx,H1 x=none→H1 dx=none→dx≠x →
 sp (.ref x::(vs++dvs)) (upd (upd H1 dx (.own x)) x (.ins C dx [])) (fun v H2=>v = .non∧Q (.ref x) H2) E
def Xw (K:PySem.W.Frag) (fd:FuncData) (ps:List Str) (ds:List Value):Prop :=
 ∀ (s:Shared) (us:List Value),K.In s.heap→(us++ds).length=ps.length→BindsTo s fd ⟨us,[]⟩ (ps.zip (us++ds))
theorem Xw.all {K:PySem.W.Frag} {fd:FuncData} {ps:List Str} (h:∀ us:List Value,us.length=ps.length→bindArgs fd ⟨us,[]⟩=pure (ps.zip us)):Xw K fd ps []:=fun s us _ hl=>by
 rw [List.append_nil] at hl ⊢
 exact .of_eq (h us hl)
def WK (CX:CXT) (X:Cx) (E:XK):Prop:=∀ (pins:List (Addr×Obj)) (σ:St) (H:Hp) (s:Shared) (e:Value) (s':Shared),Inv X pins σ H s→CX X.stack H s E e s'→X.xe e s'
section
variable {X:Cx} {CX:CXT} {k:Nat} {f C:Addr} {fd:FuncData} {ps:List Str} {sp:Sp} {dvs:List V} {ds:List Value} {E:XK} {x m:Str} {p pos apos:Pos} {e o:Expr} {es:List Expr} {ta:TE} {t:TA}
theorem Qj {pins:List (Addr×Obj)} {σ:St} {H:Hp} {s:Shared} {Q:VK} {us:List Value} {vs:List V} (F:FnOk X.prog X.w X.K X.mg X.base CX k f fd ps sp) (hr:Room k X.A) (hb:Xw X.K fd ps ds) (hd:Ys dvs ds) (hx:WK CX X E)
  (I:Inv X pins σ H s) (r:Ys vs us) (h:sp (vs++dvs) H Q E):wpAny (model X.prog X.w) X.A (call (.ref f) us) (EP X pins σ Q) X.xe s:=by
 have r2:Ys (vs++dvs) (us++ds):=r.append hd
 have hl:(us++ds).length=ps.length:=by rw [← r2.length];exact F.len _ _ _ _ h
 refine wpAny_call (codeAny_mono (F.run X.A X.stack s H ⟨us,[]⟩ (us++ds) (vs++dvs) Q E hr I.env0 (hb s us I.kIn hl) r2 h) fun r s' hq=>?_)
 cases r with
 | error e=>exact hx pins σ H s e s' I hq
 | ok fl =>
  cases fl with
  | ret u=>exact I.after hq
  | next=>exact False.elim hq
  | brk=>exact False.elim hq
  | cont=>exact False.elim hq
theorem Ydg (F:FnOk X.prog X.w X.K X.mg X.base CX k f fd ps sp) (hr:Room k X.A) (hg:Gl X x) (hm:X.mg x=some (.ref f)) (hk:PySem.W.keepIn X.K (.ref f)=true) (hb:Xw X.K fd ps ds) (hd:Ys dvs ds) (hx:WK CX X E)
  (ha:PA X (e::es) t) (hdb:(x==("__debug__":Str))=false:=by decide) (he:starEach (e::es) X.env=(false,eval e X.env)::starEach es X.env:=by rfl) (hpl:(backTo pos (starEach es X.env)).any (·.1)=false:=by rfl) :
  PE X (.Call (.Name x p) (e::es) [] pos) (VZ sp dvs E t):=by
 intro pins s σ H Q I h
 refine wpAny_Call_Name_kw (VH I hg hm ?_ hdb)
 refine PySem.W.callWith_K (h₀:=X.base) I.ok.mod.kin hk (thn (ha pos pins s σ H _ I h) fun us s1 ⟨vs,H1,I1,r,q⟩=>⟨I1.kIn,?_⟩) he hpl
 exact Qj F hr hb hd hx I1 r q
theorem Ydh {pl:Sem Bool} (he:PE X o ta) (c:Cls X.K C) (hm:Meth X.K C m f) (F:FnOk X.prog X.w X.K X.mg X.base CX k f fd ps sp) (hr:Room k X.A) (hb:Xw X.K fd ps ds) (hd:Ys dvs ds) (hx:WK CX X E) (ha:PA X (e::es) t)
  (hst:starEach (e::es) X.env=(false,eval e X.env)::starEach es X.env:=by rfl) (hpl:(backTo pos (starEach es X.env)).any (·.1)=false:=by rfl)
  (ht:eval (.Call (.Attribute o m apos) (e::es) [] pos) X.env=(do
   let ov ← eval o X.env
   standAt apos.atName
   let (f,first) ← holding [ov] (getMethod ov m pl)
   callWith pos f first (backTo pos (starEach (e::es) X.env)) (backToKw pos (keywordEach [] X.env))):=by rfl) :
  PE X (.Call (.Attribute o m apos) (e::es) [] pos) (U4 C m sp dvs E ta t):=by
 intro pins s σ H Q I h
 refine PySem.W.methodCall_KW (pl:=pl) (thn (he pins s σ H _ I h) fun u s1 ⟨x,H1,I1,rx,a,dx,fs,ex,ea,l,q⟩=>?_) ht
 subst ex
 obtain rfl:u=Value.ref a:=rx
 refine YaS I1 ea c hm l ?_
 refine PySem.W.callWith_K (first:=[.ref a]) (h₀:=X.base) I.ok.mod.kin hm.kp (thn (ha pos pins s1 σ H1 _ I1 q) fun us s2 ⟨vs,H2,I2,r,q2⟩=>⟨I2.kIn,?_⟩) hst hpl
 exact Qj (us := .ref a::us) (vs := .ref a::vs) F hr hb hd hx I2 (.cons rfl r) q2
structure Mk (K:PySem.W.Frag) (C f:Addr):Prop where
 makes:PySem.W.makesIn K C=true
 init:PySem.W.findIn K (.ref C) "__init__"=some (some (.ref f))
 fn:PySem.W.isFn K (.ref f)=true
 kp:PySem.W.keepIn K (.ref C)=true
theorem Qk {pins:List (Addr×Obj)} {σ:St} {H:Hp} {s:Shared} {Q:VK} {us:List Value} {vs:List V} (M:Mk X.K C f) (F:FnOk X.prog X.w X.K X.mg X.base CX k f fd ps sp) (hr:Room (k+1) X.A) (hb:Xw X.K fd ps ds) (hd:Ys dvs ds)
  (hx:WK CX X E) (I:Inv X pins σ H s) (r:Ys vs us)
  (h:∀ x dx,H x=none→H dx=none→dx≠x→sp (.ref x::(vs++dvs)) (upd (upd H dx (.own x)) x (.ins C dx [])) (fun v H2=>v = .non∧Q (.ref x) H2) E) :
  wpAny (model X.prog X.w) X.A (call (.ref C) us) (EP X pins σ Q) X.xe s:=by
 have hq:=h (s.heap.objs.size+1) s.heap.objs.size (I.hok.fresh (Nat.le_succ _)) (I.hok.fresh (Nat.le_refl _)) (Nat.ne_of_lt (Nat.lt_succ_self _))
 have I2:=Inv.made (C:=C) I
 have r2:Ys (V.ref (s.heap.objs.size+1)::(vs++dvs)) (Value.ref (s.heap.objs.size+1)::(us++ds)) := .cons rfl (r.append hd)
 have hl:(Value.ref (s.heap.objs.size+1)::us++ds).length=ps.length:=by
  have e:=r2.length
  rw [F.len _ _ _ _ hq] at e
  exact e.symm
 refine wpAny_call (Ycn (f:=f) I.kIn M.makes M.init (beq_iff_eq.mp M.fn) (codeAny_mono (F.run _ X.stack _ _ ⟨Value.ref (s.heap.objs.size+1)::us,[]⟩ (Value.ref (s.heap.objs.size+1)::(us++ds)) _ _ E (hr.make C us [])
  (I2.env0.make C us []) (hb _ (Value.ref (s.heap.objs.size+1)::us) I2.kIn hl) r2 hq) fun r s' hq'=>?_))
 cases r with
 | error e=>exact hx pins σ _ _ e s' I2 hq'
 | ok fl =>
  cases fl with
  | ret u =>
   obtain ⟨v,H',I3,rv,ev,q3⟩:=I2.after hq'
   subst ev
   exact ⟨rv,⟨V.ref (s.heap.objs.size+1),H',I3,rfl,q3⟩⟩
  | next=>exact False.elim hq'
  | brk=>exact False.elim hq'
  | cont=>exact False.elim hq'
theorem Ydi (M:Mk X.K C f) (F:FnOk X.prog X.w X.K X.mg X.base CX k f fd ps sp) (hr:Room (k+1) X.A) (hg:Gl X x) (hm:X.mg x=some (.ref C)) (hb:Xw X.K fd ps ds) (hd:Ys dvs ds) (hx:WK CX X E)
  (ha:PA X (e::es) t) (hdb:(x==("__debug__":Str))=false:=by decide) (he:starEach (e::es) X.env=(false,eval e X.env)::starEach es X.env:=by rfl) (hpl:(backTo pos (starEach es X.env)).any (·.1)=false:=by rfl) :
  PE X (.Call (.Name x p) (e::es) [] pos) (V0 C sp dvs E t):=by
 intro pins s σ H Q I h
 refine wpAny_Call_Name_kw (VH I hg hm ?_ hdb)
 refine PySem.W.callWith_K (h₀:=X.base) I.ok.mod.kin M.kp (thn (ha pos pins s σ H _ I h) fun us s1 ⟨vs,H1,I1,r,q⟩=>⟨I1.kIn,?_⟩) he hpl
 exact Qk M F hr hb hd hx I1 r q
theorem Yco (M:Mk X.K C f) (F:FnOk X.prog X.w X.K X.mg X.base CX k f fd ps sp) (hr:Room (k+1) X.A) (hg:Gl X x) (hm:X.mg x=some (.ref C)) (hb:Xw X.K fd ps ds) (hd:Ys dvs ds) (hx:WK CX X E)
  (hdb:(x==("__debug__":Str))=false:=by decide):PE X (.Call (.Name x p) [] [] pos) (V0 C sp dvs E Uk):=by
 intro pins s σ H Q I h
 refine wpAny_Call_Name_kw (VH I hg hm ?_ hdb)
 exact PySem.W.callWith_K0 I.kIn M.kp (Qk (us:=[]) M F hr hb hd hx I .nil h)
end
section
variable {X:Cx} {CX:CXT} {k:Nat} {f C:Addr} {fd:FuncData} {ps ks:List Str} {sp:Sp} {E:XK} {x m:Str} {p pos apos kpos:Pos} {e o:Expr} {es:List Expr} {kws:List Keyword} {te ta:TE} {t tk:TA} {nm:Option Str}
variable {g:List Value→List Value→List Value} {gV:List V→List V→List V}
end
structure FnScope (N P:List Str) (sc:Scope):Prop where
 kind:sc.kind = .function
 co:sc.isCoroutine=false
 gen:sc.isGenerator=false
 nd:N.Nodup
 pre:N.take P.length=P
 par:∀ x∈P,sc.names.lookup x=some .local∨sc.names.lookup x=some .cell
 nofree:∀ y∈sc.names,y.2 ≠ .free
theorem UB {kindOf:Str→Option NameKind} {x:Str}:∀ {binds:List (Str×Value)} {m:Str→Option Value},(∀ v,(x,v)∉binds)→bindL kindOf binds m x=m x
 | [],_,_=>rfl
 | (n,v)::r,m,h=>by
  unfold bindL
  rw [UB fun w hw=>h w (List.mem_cons_of_mem _ hw)]
  split
  ·have:x≠n:=by rintro rfl;exact h v List.mem_cons_self
   simp [this]
  ·rfl
theorem UC {kindOf:Str→Option NameKind} {x:Str}:∀ {binds:List (Str×Value)} {m:Str→Option Value},(∀ v,(x,v)∉binds)→bindC kindOf binds m x=m x
 | [],_,_=>rfl
 | (n,v)::r,m,h=>by
  unfold bindC
  rw [UC fun w hw=>h w (List.mem_cons_of_mem _ hw)]
  split
  ·rfl
  ·have:x≠n:=by rintro rfl;exact h v List.mem_cons_self
   simp [this]
theorem UD {kindOf:Str→Option NameKind} {x:Str} {v:Value}:∀ {P:List Str} {vs:List Value} {i:Nat} {m:Str→Option Value},P.Nodup→P[i]?=some x→vs[i]?=some v→kindOf x=some .local →
  bindL kindOf (P.zip vs) m x=some v
 | [],_,_,_,_,h,_,_=>by simp at h
 | _::_,[],_,_,_,_,h,_=>by simp at h
 | p::P,w::vs,0,m,nd,h1,h2,hk=>by
  simp at h1 h2;subst h1;subst h2
  show bindL kindOf ((p,w)::P.zip vs) m p=_
  unfold bindL
  rw [UB fun v hv=>(List.nodup_cons.mp nd).1 (List.of_mem_zip hv).1,if_pos hk]
  simp
 | p::P,w::vs,i+1,m,nd,h1,h2,hk=>by
  show bindL kindOf ((p,w)::P.zip vs) m x=_
  unfold bindL
  exact UD (i:=i) (List.nodup_cons.mp nd).2 (by simpa using h1) (by simpa using h2) hk
theorem UE {kindOf:Str→Option NameKind} {x:Str} {v:Value}:∀ {P:List Str} {vs:List Value} {i:Nat} {m:Str→Option Value},P.Nodup→P[i]?=some x→vs[i]?=some v→kindOf x≠some .local →
  bindC kindOf (P.zip vs) m x=some v
 | [],_,_,_,_,h,_,_=>by simp at h
 | _::_,[],_,_,_,_,h,_=>by simp at h
 | p::P,w::vs,0,m,nd,h1,h2,hk=>by
  simp at h1 h2;subst h1;subst h2
  show bindC kindOf ((p,w)::P.zip vs) m p=_
  unfold bindC
  rw [UC fun v hv=>(List.nodup_cons.mp nd).1 (List.of_mem_zip hv).1,if_neg hk]
  simp
 | p::P,w::vs,i+1,m,nd,h1,h2,hk=>by
  show bindC kindOf ((p,w)::P.zip vs) m x=_
  unfold bindC
  exact UE (i:=i) (List.nodup_cons.mp nd).2 (by simpa using h1) (by simpa using h2) hk
def Wy (N:List Str) (vs:List V):St:=vs.map some++List.replicate (N.length - vs.length) none
def Vw (CX:CXT) (P:Program) (w:World) (K:PySem.W.Frag) (mg:Str→Option Value) (base:Heap) (N:List Str) (qual:Str) (scope:Scope) (f:Addr) (cd:Value) (A:Around) (outer:List Env) (s:Shared) (H:Hp) (E:XK):Cx where
 prog:=P
 w:=w
 K:=K
 mg:=mg
 base:=base
 A:=A.deeper (envOfC qual scope s.heap.objs.size f cd)
 N:=N
 s₀:=s
 H₀:=H
 env:=envOfC qual scope s.heap.objs.size f cd
 outer:=outer
 stack:=envOfC qual scope s.heap.objs.size f cd::outer
 ex:=[]
 calm:=true
 fn:=fun _=>true
 pn:=[]
 xe:=fun e s'=>wpAny (model P w) (A.deeper (envOfC qual scope s.heap.objs.size f cd)) (leaving (envOfC qual scope s.heap.objs.size f cd) e) (fun _ s''=>CX outer H s E e s'') (fun e' s''=>CX outer H s E e' s'') s'
theorem Ql {sc:Scope} {n:Nat} {x:Str} (h:sc.names.lookup x=some .cell):∃ c,(cellsFrom n sc.names []).lookup x=some c:=by
 have q:=PySem.W.cellsFrom_some sc.names n [] (.inl h)
 exact Option.isSome_iff_exists.mp q
theorem YbO {CX:CXT} {P:Program} {w:World} {K:PySem.W.Frag} {mg:Str→Option Value} {base:Heap} {N ps:List Str} {qual:Str} {scope:Scope} {f:Addr} {cd:Value} {A:Around} {outer:List Env} {s s1:Shared} {H:Hp} {E:XK} {us:List Value} {vs:List V}
  (S:FnScope N ps scope) (hd:A.handled=none) (e0:Env0 P w K mg base A outer s H) (hl:vs.length=ps.length) (r:Ys vs us)
  (x:InCallC s s.heap.objs.size (bindL (envOfC qual scope s.heap.objs.size f cd).kindOf (ps.zip us) fun _=>none) (cellsFrom (s.heap.objs.size+1) scope.names []) (bindC (envOfC qual scope s.heap.objs.size f cd).kindOf (ps.zip us) fun _=>none) s1) :
  Inv (Vw CX P w K mg base N qual scope f cd A outer s H E) [] (Wy N vs) H s1:=by
 have hpl:ps.length≤N.length:=by have:=congrArg List.length S.pre;rw [List.length_take] at this;omega
 obtain ⟨h1,tk,rfl,hk⟩:=x.done
 have noA:∀ b:Addr,b∉(Vw CX P w K mg base N qual scope f cd A outer s H E).ex:=fun b z=>absurd (show b∈([]:List Addr) from z) (by simp)
 refine ⟨⟨e0.mod,S.kind,rfl,rfl,Nat.le_refl _,fun y z c h1 h2=>?_,fun y hy=>?_,fun y c _ h=>?_,fun _=>hd,Around.frames_deeper e0.frames,.inr ⟨rfl,rfl⟩,fun b z=>absurd z (noA b),e0.bs,e0.bsz,fun b _ _=>noA b,fun b z=>absurd z (noA b),e0.funs,e0.frf⟩,
  rfl,e0.bare,Un.kept hk,⟨_,x.toInCall.ns,fun i y v h1 h2 h3=>?_⟩,fun y c h=>⟨_,x.cell y c h⟩,e0.hok.fresh (Nat.le_refl _),fun y c h=>?_,fun p hp=>absurd (show p∈([]:List (Addr×Obj)) from hp) (by simp),e0.hok.kept hk,?_⟩
 ·exact name_of_addr x.apart (PySem.mem_of_lookup h1) (PySem.mem_of_lookup h2)
 ·have hy:scope.names.lookup y=some .cell∨scope.names.lookup y=some .free:=hy
  rcases hy with hy | hy
  ·exact Ql hy
  ·exact absurd rfl (S.nofree _ (PySem.mem_of_lookup hy))
 ·exact Nat.le_of_lt (x.above y c (PySem.mem_of_lookup h))
 ·have hi:i<vs.length:=by
   unfold Wy at h2
   by_cases hi:i<vs.length
   ·exact hi
   ·rw [List.getElem?_append_right (by simpa using hi)] at h2
    rw [List.getElem?_replicate] at h2
    split at h2<;>cases h2
  have ha:vs[i]?=some v:=by
   unfold Wy at h2
   rw [List.getElem?_append_left (by simpa using hi),List.getElem?_map] at h2
   cases e:vs[i]? with
   | none=>rw [e] at h2;cases h2
   | some a=>rw [e] at h2;cases h2;rfl
  obtain ⟨u,hu,rv⟩:=r.get ha
  have hp:ps[i]?=some y:=by
   rw [← S.pre,List.getElem?_take_of_lt (by omega)];exact h1
  have ndP:ps.Nodup:=by rw [← S.pre];exact S.nd.sublist (List.take_sublist _ _)
  refine ⟨u,rv,?_⟩
  rcases S.par y (List.mem_of_getElem? hp) with k | k
  ·exact .inl ⟨k,UD ndP hp hu k⟩
  ·obtain ⟨c,e⟩:=Ql (n:=s.heap.objs.size+1) k
   refine .inr ⟨.inl k,c,e,?_⟩
   have q:=x.cell y c e
   rw [UE ndP hp hu (by show scope.names.lookup y≠_;rw [k];decide)] at q
   exact q
 ·exact e0.hok.fresh (Nat.le_of_lt (x.above y c (PySem.mem_of_lookup h)))
 ·unfold Wy
  show _=N.length
  rw [List.length_append,List.length_map,List.length_replicate]
  omega
theorem fn_of {CX:CXT} {P:Program} {w:World} {K:PySem.W.Frag} {mg:Str→Option Value} {base:Heap} {k:Nat} {f:Addr} {name qual:Str} {params:Arguments} {body:List Stmt} {scope:Scope} {dV kV doc pm cdv ct oc:Value} {an od:Option Addr}
  {osl:Array (Option Value)} {N ps:List Str} {sp:Sp} (lk:K.lookup f=some ⟨oc,od,.func (PySem.W.fnOf name qual params body scope dV kV doc pm an cdv ct),osl⟩) (hcd:PySem.W.codeIn K cdv qual=true) (S:FnScope N ps scope)
  (len:∀ vs H Q E,sp vs H Q E→vs.length=ps.length)
  (hbody:∀ (A:Around) (outer:List Env) (s:Shared) (H:Hp) (vs:List V) (Q:VK) (E:XK),Room k (A.deeper (envOfC qual scope s.heap.objs.size f cdv))→sp vs H Q E →
   ∃ t,PSs (Vw CX P w K mg base N qual scope f cdv A outer s H E) body t∧t { nx:=fun _ H'=>Q .non H',rt:=Q } (Wy N vs) H) :
  FnOk P w K mg base CX (k+1) f (PySem.W.fnOf name qual params body scope dV kV doc pm an cdv ct) ps sp:=by
 refine ⟨len,fun A outer s H args us vs Q E hr e0 hb r hsp=>?_⟩
 have hl:=len _ _ _ _ hsp
 have KX:K.In s.heap:=e0.mod.kin.keeps fun b o e=>(e0.bs b o e).1
 have lim:s.heap.NoLimit:=e0.mod.nolimit.keeps fun b o e=>(e0.bs b o e).1
 have hkind:∀ y∈ps.zip us,scope.names.lookup y.1=some .local∨(scope.names.lookup y.1=some .cell∧((cellsFrom (s.heap.objs.size+1) scope.names []).lookup y.1).isSome=true):=fun ⟨n,v⟩ hy=>by
  rcases S.par n (List.of_mem_zip hy).1 with q | q
  ·exact .inl q
  ·exact .inr ⟨q,PySem.W.cellsFrom_some _ _ _ (.inl q)⟩
 refine codeAny_call_function hr.depth (KX _ _ lk) rfl S.co S.gen rfl (PySem.W.codeRec_of KX hcd) (hb _ _ _ _ ?_)
 refine wpAny_newFunctionEnv_cells S.kind hkind fun env he s1 x=>?_
 subst he
 refine ⟨lim.keeps x.toInCall.keep,codeAny_func ?_⟩
 obtain ⟨t,ht,hq⟩:=hbody A outer s H vs Q E (hr.deeper _) hsp
 have I:Inv (Vw CX P w K mg base N qual scope f cdv A outer s H E) [] (Wy N vs) H s1:=YbO S hr.hd e0 hl r x
 refine wpAny_mono (ht [] s1 (Wy N vs) H _ I hq) (fun fl s' hs=>?_) fun e s' hs=>hs
 have fin:∀ {σ':St} {H':Hp} {v:V} {u:Value},Inv (Vw CX P w K mg base N qual scope f cdv A outer s H E) [] σ' H' s'→YB v u→Q v H'→CE outer P w H s Q u s' :=
  fun {σ' H' v u} J rv q=>⟨v,H',J.os,J.bare,J.base,J.hok,rv,q⟩
 cases fl with
 | ret u =>
  obtain ⟨v,σ',H',J,rv,q⟩:=hs
  exact fin J rv q
 | next =>
  obtain ⟨σ',H',J,q⟩:=hs
  exact fin (v:=V.non) (u:=Value.none) J rfl q
 | brk =>
  obtain ⟨_,_,_,q⟩:=hs
  exact False.elim q
 | cont =>
  obtain ⟨_,_,_,q⟩:=hs
  exact False.elim q
end L2
namespace L2
open PySem PySem.Spec PyProof.Rows
section
variable {X:Cx} {x:Str} {p pos:Pos} {e:Expr} {es:List Expr} {t:TA} {id T:String} {r:List V→Hp→VK→Prop}
def tCB (r:List V→Hp→VK→Prop) (t:TA):TE:=fun σ H Q=>t σ H fun vs H1=>r vs H1 Q
theorem Ycp (hc:Wh X (.builtin id) r) (hg:Gl X x) (hm:X.mg x=none) (hv:bootBuiltins x=some (.builtin id)) (ha:PA X (e::es) t) (hn:x≠"__name__":=by decide) (hdb:(x==("__debug__":Str))=false:=by decide)
  (he:starEach (e::es) X.env=(false,eval e X.env)::starEach es X.env:=by rfl) (hpl:(backTo pos (starEach es X.env)).any (·.1)=false:=by rfl):PE X (.Call (.Name x p) (e::es) [] pos) (tCB r t):=by
 intro pins s σ H Q I h
 refine wpAny_Call_Name_kw (W3 I hg hm hv ?_ hn hdb)
 exact PyProof.Rows.callWith_builtin1 (thn (ha pos pins s σ H _ I h) fun us s1 ⟨vs,H1,I1,r1,q1⟩=>hc pins s1 σ H1 vs us Q I1 r1 q1) he hpl
theorem YbP (hc:Wh X (.type T) r) (hg:Gl X x) (hm:X.mg x=none) (hv:bootBuiltins x=some (.type T)) (ha:PA X (e::es) t) (hn:x≠"__name__":=by decide) (hdb:(x==("__debug__":Str))=false:=by decide)
  (he:starEach (e::es) X.env=(false,eval e X.env)::starEach es X.env:=by rfl) (hpl:(backTo pos (starEach es X.env)).any (·.1)=false:=by rfl):PE X (.Call (.Name x p) (e::es) [] pos) (tCB r t):=by
 intro pins s σ H Q I h
 refine wpAny_Call_Name_kw (W3 I hg hm hv ?_ hn hdb)
 exact PyProof.Rows.callWith_type1 (thn (ha pos pins s σ H _ I h) fun us s1 ⟨vs,H1,I1,r1,q1⟩=>hc pins s1 σ H1 vs us Q I1 r1 q1) he hpl
end
end L2
namespace HT
open PySem PyProof.Rows
section
open PySem.SeqAt
open PySem.AutoSeq1 (wpAny_loadPart')
open PySem.MeetsSeq PySem.MeetsSeq2 PySem.MeetsSeq3
end
section
variable {prog:Program} {w:World} {A:Around} {E:Value→Shared→Prop} {s:Shared}
def sIx (n d:Nat):Option Int→Nat
 | none=>d
 | some v=>if v<0 then (v+(n:Int)).toNat else min v.toNat n
theorem sIx_none (n d:Nat):sIx n d none=d:=rfl
end
end HT
namespace L2
open PySem PySem.Spec PyProof.Rows
abbrev TO:=St→Hp→(Option Int→Hp→Prop)→Prop
def PO (X:Cx) (e:Option Expr) (t:TO):Prop :=
 ∀ (pins:List (Addr×Obj)) (s:Shared) (σ:St) (H:Hp) (Q:Option Int→Hp→Prop),Inv X pins σ H s→t σ H Q →
  wpAny (model X.prog X.w) X.A (evalPart e X.env) (fun u s'=>∃ o H',Inv X pins σ H' s'∧IsPart u o∧Q o H') X.xe s
def Yaf:TO:=fun _ H Q=>Q none H
def YcU (t:TE):TO:=fun σ H Q=>t σ H fun x H1=>∃ i,x = .int i∧Q (some i) H1
theorem YaW {ns:List Int}:∀ {us:List Value},Ys (ns.map V.int) us→IntsAre us ns:=by
 induction ns with
 | nil=>intro us r;rw [List.map_nil] at r;cases r;exact .nil
 | cons n ns ih =>
  intro us r
  rw [List.map_cons] at r
  cases r with
  | cons r1 r2 =>
   obtain ⟨t,e⟩:=r1
   subst e
   exact .cons n t (ih r2)
section
variable {X:Cx} {e:Expr} {te:TE} {lo hi:Option Expr} {tl th:TO} {pos p2:Pos}
theorem Yag:PO X none Yaf:=by
 intro pins s σ H Q I h
 rw [evalPart_none]
 exact wpAny_pure ⟨none,H,I,.none,h⟩
theorem Yah (h:PE X e te):PO X (some e) (YcU te):=by
 intro pins s σ H Q I hw
 rw [evalPart_some]
 refine thn (h pins s σ H _ I hw) fun u s1 ⟨x,H1,I1,r1,q1⟩=>?_
 obtain ⟨i,rfl,q⟩:=q1
 obtain ⟨t,rfl⟩:=r1
 exact ⟨some i,H1,I1,.int i t,q⟩
def SlR (X:Cx) (r:V→Option Int→Option Int→Hp→VK→Prop):Prop :=
 ∀ (pins:List (Addr×Obj)) (s:Shared) (σ:St) (H:Hp) (x:V) (v vl vu:Value) (lo hi:Option Int) (sl:Addr) (Q:VK),Inv X pins σ H s→YB x v→s.heap.IsSliceOf sl vl vu .none→IsPart vl lo→IsPart vu hi→r x lo hi H Q →
  ∃ T id,typeLookup (.type T) "__getitem__"=pure (some (.builtin id))∧s.TypeIs v T∧wpAny (model X.prog X.w) X.A (getItem v (.ref sl)) (EP X pins σ Q) X.xe s
def tSl (r:V→Option Int→Option Int→Hp→VK→Prop) (te:TE) (tl th:TO):TE:=fun σ H Q=>te σ H fun x H1=>tl σ H1 fun l H2=>th σ H2 fun u H3=>r x l u H3 Q
theorem Qm {r:V→Option Int→Option Int→Hp→VK→Prop} (hr:SlR X r) (he:PE X e te) (hl:PO X lo tl) (hu:PO X hi th):PE X (.Subscript e (.Slice lo hi none p2) pos) (tSl r te tl th):=by
 intro pins s σ H Q I h
 refine Subscript_ (thn (he pins s σ H _ I h) fun v s1 ⟨x,H1,I1,r1,q1⟩=>?_)
 refine wpAny_Slice (thn (hl pins s1 σ H1 _ I1 q1) fun vl s2 ⟨l,H2,I2,pl,q2⟩=>thn (hu pins s2 σ H2 _ I2 q2) fun vu s3 ⟨u,H3,I3,pu,q3⟩=>?_)
 rw [evalPart_none]
 refine wpAny_pure ?_
 have I4:Inv X pins σ H3 { s3 with heap:=s3.heap.push { cls := .type "slice",data := .fields #[vl,vu,.none] } }:=I3.kept (t':=s3.toks) fun b ob q=>Heap.get?_push_of_some _ q
 obtain ⟨T,id,hT,ht,hg⟩:=hr pins { s3 with heap:=s3.heap.push { cls := .type "slice",data := .fields #[vl,vu,.none] } } σ H3 x v vl vu l u s3.heap.objs.size Q I4 r1 (Heap.IsSliceOf.new ..) pl pu q3
 show wpAny (model X.prog X.w) X.A (subscriptTail e (.Slice lo hi none p2) v (.ref s3.heap.objs.size)) (EP X pins σ Q) X.xe { s3 with heap:=s3.heap.push { cls := .type "slice",data := .fields #[vl,vu,.none] } }
 exact tail_any (ops:=[.ref s3.heap.objs.size,v]) ht hT hg (by with_unfolding_all rfl)
def Ul (xs:List V) (lo hi:Option Int):List V:=(xs.drop (HT.sIx xs.length 0 lo)).take (HT.sIx xs.length xs.length hi - HT.sIx xs.length 0 lo)
theorem QZ (xs:List V) (lo hi:Option Int):(Ul xs lo hi).length≤xs.length:=by
 unfold Ul
 rw [List.length_take,List.length_drop]
 omega
end
end L2
namespace L2
open PySem PySem.Spec PyProof.Rows
def ixN (n:Nat) (i:Int):Option Nat:=if 0≤i then (if i<n then some i.toNat else none) else if -(n:Int)≤i then some (i+n).toNat else none
def atI {α:Type} (xs:List α) (i:Int):Option α:=(ixN xs.length i).bind fun j=>xs[j]?
theorem Yai {n:Nat} {i:Int} {j:Nat} (h:ixN n i=some j):seqIndex? i n=some j∧j<n ∧ -(n:Int)≤i∧i<n:=by
 unfold ixN at h
 by_cases h0:0≤i
 ·rw [if_pos h0] at h
  by_cases h1:i<n
  ·rw [if_pos h1] at h
   have e:i.toNat=j:=Option.some.inj h
   exact ⟨by rw [seqIndex_of h0 h1,e],by omega,by omega,h1⟩
  ·rw [if_neg h1] at h;cases h
 ·rw [if_neg h0] at h
  by_cases h1 : -(n:Int)≤i
  ·rw [if_pos h1] at h
   have e:(i+n).toNat=j:=Option.some.inj h
   exact ⟨by rw [seqIndex_neg (by omega) h1,e],by omega,h1,by omega⟩
  ·rw [if_neg h1] at h;cases h
theorem Um {α:Type} {xs:List α} {i:Int} {v:α} (h:atI xs i=some v):∃ j,seqIndex? i xs.length=some j∧xs[j]?=some v∧j<xs.length ∧ -(xs.length:Int)≤i∧i<xs.length:=by
 unfold atI at h
 cases e:ixN xs.length i with
 | none=>rw [e] at h;cases h
 | some j =>
  rw [e] at h
  obtain ⟨h1,h2,h3,h4⟩:=Yai e
  exact ⟨j,h1,h,h2,h3,h4⟩
theorem Yy {α:Type} {xs:List α} {j:Nat} {v:α} (h:xs[j]?=some v):atI xs (j:Int)=some v:=by
 have hj:j<xs.length:=(List.getElem?_eq_some_iff.mp h).1
 have e:ixN xs.length (j:Int)=some j:=by
  unfold ixN
  rw [if_pos (by omega),if_pos (by omega)];simp
 unfold atI;rw [e];exact h
theorem Ycq {α:Type} (xs:List α) (v:α):atI (xs++[v]) (-1)=some v:=by
 have hl:(xs++[v]).length=xs.length+1:=by simp
 have e:ixN (xs++[v]).length (-1)=some xs.length:=by
  unfold ixN
  rw [hl,if_neg (by decide),if_pos (by omega)]
  congr 1
  omega
 unfold atI
 rw [e]
 show (xs++[v])[xs.length]?=some v
 simp
def Ydj (b:Expr):Prop:=∀ o i,subscripted b false o i=operate [o,i] (getItem o i)
def IxR (X:Cx) (r:R2):Prop :=
 ∀ (value slice:Expr) (pins:List (Addr×Obj)) (s:Shared) (σ:St) (H:Hp) (x y:V) (v u:Value) (Q:VK),Inv X pins σ H s→YB x v→YB y u→r x y H Q →
  subscripted slice false v u=operate [v,u] (getItem v u)→wpAny (model X.prog X.w) X.A (subscriptTail value slice v u) (EP X pins σ Q) X.xe s
def MtR (X:Cx) (id:String) (r:V→List V→Hp→VK→Prop):Prop :=
 ∀ (pins:List (Addr×Obj)) (s:Shared) (σ:St) (H:Hp) (x:V) (xs:List V) (v:Value) (us:List Value) (Q:VK),Inv X pins σ H s→YB x v→Ys xs us→r x xs H Q →
  wpAny (model X.prog X.w) X.A (call (.builtin id) (v::us)) (EP X pins σ Q) X.xe s
section
variable {X:Cx} {a b:Expr} {ta tb:TE} {pos:Pos}
theorem YE {r:R2} (hr:IxR X r) (ha:PE X a ta) (hb:PE X b tb) (hs:Ydj b):PE X (.Subscript a b pos) (tOp r ta tb):=by
 intro pins s σ H Q I h
 exact Subscript_ (binT ha hb I h fun v u s2 x y H2 I2 rx ry q=>hr a b pins s2 σ H2 x y v u Q I2 rx ry q (hs _ _))
def rIxL (K:PySem.W.Frag):R2:=fun x y H Q=>∃ p xs i v,x = .ref p∧y = .int i∧SqL K H p xs∧atI xs i=some v∧Q v H
def rIxT (K:PySem.W.Frag):R2:=fun x y H Q=>∃ p xs i v,x = .ref p∧y = .int i∧SqT K H p xs∧atI xs i=some v∧Q v H
def rIxS:R2:=fun x y H Q=>∃ z i c,x = .str z∧y = .int i∧z.length≤sizeLine∧atI z.cps.toList i=some c∧Q (.str ⟨#[c]⟩) H
theorem YJ:IxR X (rIxL X.K):=by
 intro value slice pins s σ H x y v u Q I rx ry h hs
 obtain ⟨p,xs,i,z,rfl,rfl,hq,he,q⟩:=h
 cases rx
 obtain ⟨t,rfl⟩:=ry
 obtain ⟨its,r,pl,hz⟩:=I.list hq
 obtain ⟨j,h1,h2,h3,h4,h5⟩:=Um he
 obtain ⟨w,ew,rw'⟩:=r.get h2
 have hl:=r.length
 have hn:=W6
 have fin:EP X pins σ Q w s:=⟨z,H,I,rw',q⟩
 by_cases h0:0≤i
 ·have hj:i.toNat=j:=by
   rw [seqIndex_of h0 h5] at h1
   exact Option.some.inj h1
  exact item_listR pl.isList h0 (by omega) (by rw [hj];simpa using ew) fin hs
 ·have hj:(i+(its.toArray.size:Int)).toNat=j:=by
   rw [seqIndex_neg (by omega) h4] at h1
   rw [List.size_toArray,← hl]
   exact Option.some.inj h1
  exact subscriptTail_builtinR (x:=w) pl.isList.typeIs slot_list_getitem.lookup
   (wpAny_getItem_list_neg (Q:=fun r s'=>r=w∧EP X pins σ Q r s') pl.isList (by omega) (by rw [List.size_toArray]<;>omega) (by omega) (by rw [hj];simpa using ew) ⟨rfl,fin⟩) hs
theorem Xx:IxR X (rIxT X.K):=by
 intro value slice pins s σ H x y v u Q I rx ry h hs
 obtain ⟨p,xs,i,z,rfl,rfl,hq,he,q⟩:=h
 cases rx
 obtain ⟨t,rfl⟩:=ry
 obtain ⟨its,r,pl,hz⟩:=I.tuple hq
 obtain ⟨j,h1,h2,h3,h4,h5⟩:=Um he
 obtain ⟨w,ew,rw'⟩:=r.get h2
 have hl:=r.length
 have hn:=W6
 have fin:EP X pins σ Q w s:=⟨z,H,I,rw',q⟩
 exact subscriptTail_builtinR (x:=w) pl.typeIs slot_tuple_getitem.lookup
  (getItem_tuple (j:=j) (Q:=fun r s'=>r=w∧EP X pins σ Q r s') pl (by omega) (by omega) (by rw [List.size_toArray,← hl];exact h1) (by simpa using ew) ⟨rfl,fin⟩) hs
theorem YdW:IxR X rIxS:=by
 intro value slice pins s σ H x y v u Q I rx ry h hs
 obtain ⟨z,i,c,rfl,rfl,hz,he,q⟩:=h
 obtain ⟨t,rfl⟩:=rx
 obtain ⟨t',rfl⟩:=ry
 obtain ⟨j,h1,h2,h3,h4,h5⟩:=Um he
 have hl:z.cps.toList.length=z.length:=by simp [Str.length]
 rw [hl] at h1 h4 h5
 have hn:=W6
 exact tail_any (typeIs_str s z t) slot_str_getitem.lookup (getItem_str (c:=c) (by
  have e1:decide (i < -(2^63:Int))=false:=decide_eq_false (by omega)
  have e2:decide (i≥2^63)=false:=decide_eq_false (by omega)
  rw [e1,e2,Bool.or_false]) (by rw [h1];simpa using h2) ⟨.str ⟨#[c]⟩,H,I.tok _,⟨_,rfl⟩,q⟩) hs
theorem YaX (its:List Value) (n j:Nat) (u:Value):Obj.mapSeq (·.setIfInBounds j u) { cls := .type "list",data := .seq its.toArray n }={ cls := .type "list",data := .seq (its.set j u).toArray n }:=by
 simp [Obj.mapSeq]
theorem Inv.lst {pins:List (Addr×Obj)} {σ:St} {H:Hp} {s:Shared} {p:Addr} {xs:List V} (I:Inv X pins σ H s) (h:H p=some (.lst xs)) :
  ∃ (its:List Value) (n:Nat),Ys xs its∧s.heap.get? p=some { cls := .type "list",data := .seq its.toArray n }∧xs.length≤sizeLine:=by
 obtain ⟨z,its,n,r,e⟩:=I.hok p _ h
 exact ⟨its,n,r,e,z⟩
theorem Inv.lstUpd {pins:List (Addr×Obj)} {σ:St} {H:Hp} {s:Shared} {p:Addr} {xs ys:List V} {its its':List Value} {n n':Nat} {f:Obj→Obj} (I:Inv X pins σ H s) (h:H p=some (.lst xs))
  (ho:s.heap.get? p=some { cls := .type "list",data := .seq its.toArray n }) (hf:f { cls := .type "list",data := .seq its.toArray n }={ cls := .type "list",data := .seq its'.toArray n' }) (r:Ys ys its') (hz:ys.length≤sizeLine) (t:Nat) :
  Inv X pins σ (upd H p (.lst ys)) { s with heap:=s.heap.update p f,toks:=t }:=by
 have e:(s.heap.update p f).get? p=some { cls := .type "list",data := .seq its'.toArray n' }:=by
  rw [Heap.get?_update_self f ho (by rw [hf]<;>rfl),hf]
 refine I.write (x:=p) (e:=p) (by rw [h];trivial) (.inl rfl) (fun b u hb q=>(Heap.get?_update_other _ _ (Ne.symm hb)).trans q) ⟨_,e⟩ ?_
 exact ⟨hz,its',n',r,e⟩
def YcV:V→V→V→Hp→(Hp→Prop)→Prop:=fun o i v H Q=>∃ p xs k j,o = .ref p∧i = .int k∧H p=some (.lst xs)∧ixN xs.length k=some j∧Q (upd H p (.lst (xs.set j v)))
theorem Qn:PSet X YcV:=by
 intro pins s σ H o i v ov iv u Q I ro ri rv h
 obtain ⟨p,xs,k,j,rfl,rfl,hp,hj,q⟩:=h
 cases ro
 obtain ⟨t,rfl⟩:=ri
 obtain ⟨its,n,r,ho,hz⟩:=I.lst hp
 obtain ⟨h1,h2,h3,h4⟩:=Yai hj
 have hl:=r.length
 have hn:=W6
 have I':Inv X pins σ (upd H p (.lst (xs.set j v))) { s with heap:=s.heap.update p (Obj.mapSeq (·.setIfInBounds j u)) } :=
  I.lstUpd hp ho (YaX its n j u) (r.set rv j) (by rw [List.length_set];exact hz) s.toks
 by_cases h0:0≤k
 ·have hk:k.toNat=j:=by
   rw [seqIndex_of h0 h4] at h1
   exact Option.some.inj h1
  exact PySem.W.ki_setAt ho h0 (by omega) (by rw [List.size_toArray,← hl];exact h4) (by rw [hk];exact ⟨_,I',q⟩)
 ·have hk:(k+(its.toArray.size:Int)).toNat=j:=by
   rw [seqIndex_neg (by omega) h3] at h1
   rw [List.size_toArray,← hl]
   exact Option.some.inj h1
  exact PySem.W.ki_setBack ho (by omega) (by rw [List.size_toArray,← hl];exact h3) (by omega) (by rw [hk];exact ⟨_,I',q⟩)
theorem Qo (lo hi:Option Int) (n:Nat):(sliceBounds lo hi none n).1=((HT.sIx n 0 lo:Nat):Int)∧(sliceBounds lo hi none n).2.1=((HT.sIx n n hi:Nat):Int)∧(sliceBounds lo hi none n).2.2=1:=by
 refine ⟨?_,?_,rfl⟩
 ·cases lo with
  | none=>simp [sliceBounds,HT.sIx]
  | some i =>
   simp only [sliceBounds,HT.sIx,Option.getD_none,show (1:Int)>0 by decide,if_true]
   by_cases h:i<0
   ·simp only [h,if_true]<;>omega
   ·simp only [h,if_false]<;>omega
 ·cases hi with
  | none=>simp [sliceBounds,HT.sIx]
  | some i =>
   simp only [sliceBounds,HT.sIx,Option.getD_none,show (1:Int)>0 by decide,if_true]
   by_cases h:i<0
   ·simp only [h,if_true]<;>omega
   ·simp only [h,if_false]<;>omega
theorem UR (its:List Value) (lo hi:Option Int):slicePick its.toArray lo hi none=((its.drop (HT.sIx its.length 0 lo)).take (HT.sIx its.length its.length hi - HT.sIx its.length 0 lo)).toArray:=by
 obtain ⟨h1,h2,h3⟩:=Qo lo hi its.toArray.size
 unfold slicePick
 rw [h1,h2,h3]
 simp only [sliceRange_one,pick_run,List.size_toArray]<;>rfl
def rSlL (K:PySem.W.Frag):V→Option Int→Option Int→Hp→VK→Prop:=fun x lo hi H Q=>∃ a xs,x = .ref a∧SqL K H a xs∧∀ p,H p=none→Q (.ref p) (upd H p (.lst (Ul xs lo hi)))
theorem Yaj:SlR X (rSlL X.K):=by
 intro pins s σ H x v vl vu lo hi sl Q I rx hs pl pu h
 obtain ⟨a,xs,rfl,hx,q⟩:=h
 cases rx
 obtain ⟨its,r,ht,hz⟩:=I.list hx
 have hlen:=r.length
 refine ⟨"list",_,slot_list_getitem.lookup,ht.isList.typeIs,?_⟩
 refine wpAny_getItem_list_slice ht.isList hs pl pu .none (by simp) ?_ (by rw [List.size_toArray]<;>omega)
 rw [UR,← hlen]
 refine ⟨.ref s.heap.objs.size,_,I.laid (t':=s.toks) (o := .lst (Ul xs lo hi)) (fun b ob q=>Heap.get?_push_of_some _ q) (Nat.le_refl _) ?_,rfl,q _ (I.hok.fresh (Nat.le_refl _))⟩
 exact ⟨Nat.le_trans (QZ xs lo hi) hz,_,0,(r.drop (HT.sIx xs.length 0 lo)).take (HT.sIx xs.length xs.length hi - HT.sIx xs.length 0 lo),Heap.get?_push_size _ rfl⟩
def WQ:V→Bool
 | .non=>true
 | .bl _=>true
 | .int _=>true
 | .str _=>true
 | _=>false
def eqV:V→V→Bool
 | .non,.non=>true
 | .bl a,.bl b=>a==b
 | .bl a,.int b=>(if a then 1 else 0)==b
 | .int a,.bl b=>a==(if b then 1 else 0)
 | .int a,.int b=>a==b
 | .str a,.str b=>a==b
 | _,_=>false
theorem YdX {A:Around} {s:Shared} {y x:V} {u v:Value} (ry:YB y u) (rx:YB x v) (fy:WQ y=true) (fx:WQ x=true):SeqAt.EqAt A s u v (eqV y x):=by
 cases y with
 | non =>
  cases ry
  cases x with
  | non=>cases rx;exact SeqAt.EqAt.same _
  | bl b=>cases rx;exact SeqAt.EqAt.none_bool b
  | int b=>obtain ⟨t,rfl⟩:=rx;exact SeqAt.EqAt.none_int b t
  | str b=>obtain ⟨t,rfl⟩:=rx;exact SeqAt.EqAt.none_str b t
  | _=>exact absurd (show false=true from fx) Bool.false_ne_true
 | bl a =>
  cases ry
  cases x with
  | non=>cases rx;exact SeqAt.EqAt.bool_none a
  | bl b=>cases rx;exact SeqAt.EqAt.bool_bool a b
  | int b=>obtain ⟨t,rfl⟩:=rx;exact SeqAt.EqAt.bool_int a b t
  | str b=>obtain ⟨t,rfl⟩:=rx;exact SeqAt.EqAt.bool_str a b t
  | _=>exact absurd (show false=true from fx) Bool.false_ne_true
 | int a =>
  obtain ⟨t',rfl⟩:=ry
  cases x with
  | non=>cases rx;exact SeqAt.EqAt.int_none a t'
  | bl b=>cases rx;exact SeqAt.EqAt.int_bool a t' b
  | int b=>obtain ⟨t,rfl⟩:=rx;exact SeqAt.EqAt.int_int a t' b t
  | str b=>obtain ⟨t,rfl⟩:=rx;exact SeqAt.EqAt.int_str a t' b t
  | _=>exact absurd (show false=true from fx) Bool.false_ne_true
 | str a =>
  obtain ⟨t',rfl⟩:=ry
  cases x with
  | non=>cases rx;exact SeqAt.EqAt.str_none a t'
  | bl b=>cases rx;exact SeqAt.EqAt.str_bool a t' b
  | int b=>obtain ⟨t,rfl⟩:=rx;exact SeqAt.EqAt.str_int a t' b t
  | str b=>obtain ⟨t,rfl⟩:=rx;exact SeqAt.EqAt.str_str a t' b t
  | _=>exact absurd (show false=true from fx) Bool.false_ne_true
 | _=>exact absurd (show false=true from fy) Bool.false_ne_true
def eqU (x:V) (u:Value):Bool:=match u with
 | .none=>eqV .non x
 | .bool b=>eqV (.bl b) x
 | .int i _=>eqV (.int i) x
 | .str z _=>eqV (.str z) x
 | _=>false
theorem YbQ {x y:V} {u:Value} (r:YB y u) (f:WQ y=true):eqU x u=eqV y x:=by
 cases y with
 | non=>cases r;rfl
 | bl b=>cases r;rfl
 | int i=>obtain ⟨t,rfl⟩:=r;rfl
 | str z=>obtain ⟨t,rfl⟩:=r;rfl
 | _=>exact absurd (show false=true from f) Bool.false_ne_true
theorem Uo {x:V}:∀ {xs:List V} {us:List Value},Ys xs us→xs.all WQ=true→us.any (eqU x)=xs.any fun y=>eqV y x
 | _,_,.nil,_=>rfl
 | y::xs,u::us,.cons r t,f=>by
  rw [List.all_cons,Bool.and_eq_true] at f
  rw [List.any_cons,List.any_cons,YbQ r f.1,Uo t f.2]
theorem VS {A:Around} {s:Shared} {x:V} {v:Value} (rx:YB x v) (fx:WQ x=true):∀ {xs:List V} {us:List Value},Ys xs us→xs.all WQ=true→∀ u∈us,SeqAt.EqAt A s u v (eqU x u)
 | _,_,.nil,_=>fun u hu=>by cases hu
 | y::xs,u::us,.cons r t,f=>fun u' hu=>by
  rw [List.all_cons,Bool.and_eq_true] at f
  rcases List.mem_cons.mp hu with rfl | hu
  ·rw [YbQ r f.1];exact YdX r rx f.1 fx
  ·exact VS rx fx t f.2 u' hu
def inV (x:V) (xs:List V):Bool:=xs.any fun y=>eqV y x
def rIn (K:PySem.W.Frag) (neg:Bool):R2:=fun x y H Q=>∃ p xs,y = .ref p∧(SqL K H p xs∨SqT K H p xs)∧WQ x=true∧xs.all WQ=true∧Q (.bl (if neg then !inV x xs else inV x xs)) H
theorem YbR:OpR X (compareOp .In) (rIn X.K false):=by
 intro pins s σ H x y v u Q I rx ry h
 obtain ⟨p,xs,rfl,hq,fx,fs,q⟩:=h
 cases ry
 rcases hq with hq | hq
 ·obtain ⟨its,r,pl,hz⟩:=I.list hq
  refine SeqAt.in_listAt (eqU x) pl.isList (fun w hw=>VS rx fx r fs w (by simpa using hw)) ⟨.bl _,H,I,rfl,?_⟩
  rw [show its.toArray.any (eqU x)=its.any (eqU x) by simp,Uo r fs]
  exact q
 ·obtain ⟨its,r,pl,hz⟩:=I.tuple hq
  refine SeqAt.in_tupleAt (eqU x) pl (fun w hw=>VS rx fx r fs w (by simpa using hw)) ⟨.bl _,H,I,rfl,?_⟩
  rw [show its.toArray.any (eqU x)=its.any (eqU x) by simp,Uo r fs]
  exact q
theorem Yu:Wh X (.builtin "len") (fun xs H Q=>∃ p ys,xs=[.ref p]∧(SqL X.K H p ys∨SqT X.K H p ys)∧Q (.int ys.length) H):=by
 intro pins s σ H xs us Q I r h
 obtain ⟨p,ys,rfl,hq,q⟩:=h
 obtain ⟨u,rfl,rx⟩:=UZ r
 cases rx
 have hn:=W6
 rcases hq with hq | hq
 ·obtain ⟨its,r',pl,hz⟩:=I.list hq
  have hlen:=r'.length
  exact Calls.call_len_list pl.isList (by simp only [List.size_toArray]<;>omega) ⟨.int ys.length,H,I.tok _,⟨s.toks+1,by rw [List.size_toArray,hlen]⟩,q⟩
 ·obtain ⟨its,r',pl,hz⟩:=I.tuple hq
  have hlen:=r'.length
  exact len_tuple pl (by simp only [List.size_toArray]<;>omega) ⟨.int ys.length,H,I.tok _,⟨s.toks+1,by rw [List.size_toArray,hlen]⟩,q⟩
theorem Qp:Wh X (.builtin "len") (fun xs H Q=>∃ z,xs=[.str z]∧z.length≤sizeLine∧Q (.int z.length) H):=by
 intro pins s σ H xs us Q I r h
 obtain ⟨z,rfl,hz,q⟩:=h
 obtain ⟨u,rfl,t,rfl⟩:=UZ r
 have hn:=W6
 exact len_str (by omega) ⟨.int z.length,H,I.tok _,⟨_,rfl⟩,q⟩
theorem Qq:Wh X (.type "list") (fun xs H Q=>∃ p ys,xs=[.ref p]∧(SqL X.K H p ys∨SqT X.K H p ys)∧∀ l,H l=none→Q (.ref l) (upd H l (.lst ys))):=by
 intro pins s σ H xs us Q I r h
 obtain ⟨p,ys,rfl,hq,q⟩:=h
 obtain ⟨u,rfl,rx⟩:=UZ r
 cases rx
 have fin:∀ (its:List Value),Ys ys its→ys.length≤sizeLine→∀ (h':Heap) (c':Nat),(∀ b o',s.heap.get? b=some o'→h'.get? b=some o') →
   h'.get? s.heap.objs.size=some { cls := .type "list",dict:=none,data := .seq its.toArray c',slots:=#[] }→EP X pins σ Q (.ref s.heap.objs.size) { s with heap:=h' }:=fun its r' hz h' c' kp e =>
  ⟨.ref s.heap.objs.size,_,I.laid (t':=s.toks) kp (Nat.le_refl _) (show Xe X.prog X.w _ h' _ (.lst ys) from ⟨hz,its,c',r',e⟩),rfl,q _ (I.hok.fresh (Nat.le_refl _))⟩
 rcases hq with hq | hq
 ·obtain ⟨its,r',pl,hz⟩:=I.list hq
  have hlen:=r'.length
  obtain ⟨o,ho,hc,n,hd⟩:=pl.isList
  exact call_list_seq p (.inl rfl) ho hc hd (fun h' c' kp e=>fin its r' hz h' c' kp e) (by simp only [List.size_toArray]<;>omega)
 ·obtain ⟨its,r',pl,hz⟩:=I.tuple hq
  have hlen:=r'.length
  obtain ⟨o,ho,hc,n,hd⟩:=pl
  exact call_list_seq p (.inr rfl) ho hc hd (fun h' c' kp e=>fin its r' hz h' c' kp e) (by simp only [List.size_toArray]<;>omega)
def tyV (K:PySem.W.Frag) (T:String) (x:V) (H:Hp):Prop:=match x with
 | .str _=>T="str"
 | .int _=>T="int"
 | .ref p=>(T="list"∧∃ xs,SqL K H p xs)∨(T="tuple"∧∃ o,K.lookup p=some o∧o.cls = .type "tuple"∧o.dict=none) ∨
   (T="dict"∧((∃ kvs,H p=some (.dK kvs))∨∃ kvs,H p=some (.dT kvs)))∨(T="set"∧∃ S n,H p=some (.set S n))
 | _=>False
theorem YbS {pins:List (Addr×Obj)} {σ:St} {H:Hp} {s:Shared} {T:String} {x:V} {v:Value} (I:Inv X pins σ H s) (r:YB x v) (ty:tyV X.K T x H) :
  s.TypeIs v T∧∀ a,v = .ref a→∃ ob,s.heap.get? a=some ob∧ob.dict=none:=by
 cases x with
 | str z =>
  obtain ⟨t,rfl⟩:=r
  cases (show T="str" from ty)
  exact ⟨typeIs_str s z t,fun _ e=>nomatch e⟩
 | int i =>
  obtain ⟨t,rfl⟩:=r
  cases (show T="int" from ty)
  exact ⟨typeIs_int s i t,fun _ e=>nomatch e⟩
 | ref p =>
  cases r
  rcases ty with ⟨rfl,xs,hq⟩ | ⟨rfl,o,hk,hc,hd⟩ | ⟨rfl,hk⟩ | ⟨rfl,S,n,hk⟩
  ·obtain ⟨its,_,pl,_⟩:=I.list hq
   refine ⟨pl.isList.typeIs,fun a e=>?_⟩
   cases e
   obtain ⟨o,n,e,c,hd,_⟩:=pl
   exact ⟨o,e,hd⟩
  ·refine ⟨⟨o,I.kIn p o hk,hc⟩,fun a e=>?_⟩
   cases e
   exact ⟨o,I.kIn _ o hk,hd⟩
  ·have z:∃ o,s.heap.get? p=some o∧o.ExactDict:=by
    rcases hk with ⟨kvs,hk⟩ | ⟨kvs,hk⟩
    ·obtain ⟨_,_,_,_,o,_,_,e,ex,_⟩:=I.hok p _ hk
     exact ⟨o,e,ex⟩
    ·obtain ⟨_,_,_,_,o,_,_,e,ex,_⟩:=I.hok p _ hk
     exact ⟨o,e,ex⟩
   obtain ⟨o,e,ex⟩:=z
   refine ⟨⟨o,e,ex.1⟩,fun a e2=>?_⟩
   cases e2
   exact ⟨o,e,ex.2.1⟩
  ·obtain ⟨o,_,_,_,e,ex,_⟩:=I.hok p _ hk
   refine ⟨⟨o,e,ex.1⟩,fun a e2=>?_⟩
   cases e2
   exact ⟨o,e,ex.2.1⟩
 | _=>exact False.elim ty
def tBM0 (K:PySem.W.Frag) (T:String) (r:V→List V→Hp→VK→Prop) (to:TE):TE:=fun σ H Q=>to σ H fun x H1=>tyV K T x H1∧r x [] H1 Q
def tBM (K:PySem.W.Frag) (T:String) (r:V→List V→Hp→VK→Prop) (to:TE) (t:TA):TE:=fun σ H Q=>to σ H fun x H1=>tyV K T x H1∧t σ H1 fun xs H2=>r x xs H2 Q
variable {o e:Expr} {es:List Expr} {to:TE} {t:TA} {name:Str} {apos cpos:Pos} {T id:String} {r:V→List V→Hp→VK→Prop}
theorem YdY (pa:PlainAttrs T) (slot:Slot T name id) (hty:typeOf (.builtin id)=pure (.type "method_descriptor")) (hm:MtR X id r) (ho:PE X o to)
  (hbase:attributeBase o name X.env (eval o X.env)=eval o X.env) (hline:(apos.endLine==cpos.line)=true):PE X (.Call (.Attribute o name apos) [] [] cpos) (tBM0 X.K T r to):=by
 intro pins s σ H Q I h
 refine wpAny_Call_method0_late hbase hline (thn (ho pins s σ H _ I h) fun v s1 ⟨x,H1,I1,r1,ty,q1⟩=>?_)
 obtain ⟨h1,h2⟩:=YbS I1 r1 ty
 exact ⟨T,id,pa,slot,hty,h1,h2,Calls.callWith_builtin rfl (PySem.evalArgs_none (hm pins s1 σ H1 x [] v [] Q I1 r1 .nil q1))⟩
theorem XN (pa:PlainAttrs T) (slot:Slot T name id) (hty:typeOf (.builtin id)=pure (.type "method_descriptor")) (hm:MtR X id r) (ho:PE X o to) (ha:PA X (e::es) t)
  (hbase:attributeBase o name X.env (eval o X.env)=eval o X.env)
  (hfew:((backTo cpos (starEach (e::es) X.env)).all (fun x => !x.1)&&(backToKw cpos (keywordEach [] X.env)).all (fun x=>x.1.isSome)
   && decide ((e::es).length+([]:List Keyword).length+(if ([]:List Keyword).isEmpty then 0 else 1)<30))=true)
  (hline:(apos.endLine==cpos.line)=true) (hs:starEach (e::es) X.env=(false,eval e X.env)::starEach es X.env) (hplain:(backTo cpos (starEach es X.env)).any (·.1)=false) :
  PE X (.Call (.Attribute o name apos) (e::es) [] cpos) (tBM X.K T r to t):=by
 intro pins s σ H Q I h
 refine wpAny_Call_method_late hbase hfew hline rfl (thn (ho pins s σ H _ I h) fun v s1 ⟨x,H1,I1,r1,ty,q1⟩=>?_)
 obtain ⟨h1,h2⟩:=YbS I1 r1 ty
 refine ⟨T,id,pa,slot,hty,h1,h2,?_⟩
 have hA:=ha cpos pins s1 σ H1 _ I1 q1
 rw [hs] at hA ⊢
 refine Calls.callWith_builtin (by show (false||(backTo cpos (starEach es X.env)).any (·.1))=false;rw [hplain]<;>rfl) (Calls.evalArgs_plain ?_)
 exact thn hA fun us s2 ⟨vs,H2,I2,r2,q2⟩=>hm pins s2 σ H2 x vs v us Q I2 r1 r2 q2
/- xs.append(e),list.index on a module's tuple .. are MtR facts of 06m -/
end
end L2
namespace L2
open PySem PySem.Spec PyProof.Rows
def MtM (X:Cx) (id:String) (r:V→List V→Hp→VK→Prop):Prop :=
 ∀ (pins:List (Addr×Obj)) (s:Shared) (σ:St) (H:Hp) (x:V) (xs:List V) (v:Value) (us:List Value) (Q:VK),Inv X pins σ H s→YB x v→Ys xs us→r x xs H Q →
  wpAny (model X.prog X.w) X.A (call (.builtin id) (v::us)) (EP X pins σ Q) X.xe s
theorem Ys.one:∀ {x:V} {us:List Value},Ys [x] us→∃ u,us=[u]∧YB x u
 | _,_,.cons r .nil=>⟨_,rfl,r⟩
theorem Ys.two:∀ {x y:V} {us:List Value},Ys [x,y] us→∃ u v,us=[u,v]∧YB x u∧YB y v
 | _,_,_,.cons r (.cons q .nil)=>⟨_,_,rfl,r,q⟩
theorem Ys.zero:∀ {us:List Value},Ys [] us→us=[]
 | _,.nil=>rfl
theorem Ys.dropLast {xs:List V} {us:List Value} (h:Ys xs us):Ys xs.dropLast us.dropLast:=by
 induction h with
 | nil=>exact .nil
 | cons r t ih =>
  cases t with
  | nil=>exact .nil
  | cons q t'=>exact .cons r ih
theorem Ys.rep {xs:List V} {us:List Value} (h:Ys xs us):∀ k:Nat,Ys (List.replicate k xs).flatten (List.replicate k us).flatten
 | 0 => .nil
 | k+1=>by
  rw [List.replicate_succ,List.replicate_succ,List.flatten_cons,List.flatten_cons]
  exact Ys.append h (Ys.rep h k)
theorem YaY {α:Type} (l:List α):l.eraseIdx (l.length - 1)=l.dropLast:=by
 induction l with
 | nil=>rfl
 | cons a r ih =>
  cases r with
  | nil=>rfl
  | cons b r =>
   have e:(a::b::r).length - 1=((b::r).length - 1)+1:=by
    have h1:(a::b::r).length=r.length+2:=rfl
    have h2:(b::r).length=r.length+1:=rfl
    omega
   rw [e,List.eraseIdx_cons_succ,ih]
   all_goals rfl
theorem UF (its:List Value):∀ (k:Nat) (acc:List Value),
  List.foldl (fun x1 x2=>x1++x2) acc.toArray (List.replicate k its.toArray)=(acc++(List.replicate k its).flatten).toArray
 | 0,acc=>by simp
 | k+1,acc=>by
  have e:acc.toArray++its.toArray=(acc++its).toArray:=by simp
  have e2:(acc++its)++(List.replicate k its).flatten=acc++(List.replicate (k+1) its).flatten:=by
   rw [List.replicate_succ,List.flatten_cons,List.append_assoc]
  rw [← e2,← UF its k (acc++its),← e,List.replicate_succ,List.foldl_cons]
section
variable {X:Cx} {pins:List (Addr×Obj)} {σ:St} {H:Hp} {s:Shared} {l b:Addr} {xs ys zs:List V}
theorem Inv.lset {its its':List Value} {n:Nat} {f:Array Value→Array Value} {t':Nat} (I:Inv X pins σ H s) (hH:H l=some (.lst xs))
  (e:s.heap.get? l=some { cls := .type "list",data := .seq its.toArray n }) (hf:f its.toArray=its'.toArray) (hv:Ys ys its') (hz:ys.length≤sizeLine) :
  Inv X pins σ (upd H l (.lst ys)) { s with heap:=s.heap.update l (Obj.mapSeq f),toks:=t' }:=by
 have q:=PySem.IsL.update e f
 rw [hf] at q
 refine I.write (x:=l) (e:=l) (by rw [hH];exact trivial) (.inl rfl) (fun b' u hb hu=>(Heap.get?_update_other s.heap (Obj.mapSeq f) (Ne.symm hb)).trans hu) ⟨_,q⟩ ?_
 exact ⟨hz,its',_,hv,q⟩
theorem Inv.lnew {its:List Value} {t':Nat} (I:Inv X pins σ H s) (hv:Ys ys its) (hz:ys.length≤sizeLine) :
  Inv X pins σ (upd H s.heap.objs.size (.lst ys)) { s with heap:=s.heap.push { cls := .type "list",data := .seq its.toArray },toks:=t' } :=
 I.laid (fun _ _ q=>Heap.get?_push_of_some _ q) (Nat.le_refl _) ⟨hz,its,0,hv,Heap.get?_push_size _ rfl⟩
theorem Inv.fresh (I:Inv X pins σ H s):H s.heap.objs.size=none:=I.hok.fresh (Nat.le_refl _)
theorem Inv.lstM (I:Inv X pins σ H s) (hH:H l=some (.lst xs)):xs.length≤sizeLine∧∃ (its:List Value) (n:Nat),Ys xs its∧xs.length=its.length∧s.heap.get? l=some { cls := .type "list",data := .seq its.toArray n }:=by
 obtain ⟨z,its,n,r,e⟩:=I.hok l _ hH
 exact ⟨z,its,n,r,r.length,e⟩
theorem Ycr {n:Nat} (h:n≤sizeLine):Builtin.List.listTooLong n=false:=by
 unfold Builtin.List.listTooLong
 exact decide_eq_false (by omega)
end
section
variable {X:Cx}
def Yak:V→List V→Hp→VK→Prop:=fun x vs H Q=>∃ l xs y,x = .ref l∧vs=[y]∧H l=some (.lst xs)∧xs.length<sizeLine∧Q .non (upd H l (.lst (xs++[y])))
theorem Y5:MtM X "list.append" Yak:=by
 intro pins s σ H x vs v us Q I rx rv h
 obtain ⟨l,xs,y,rfl,rfl,hH,hz,q⟩:=h
 cases rx
 obtain ⟨u,rfl,ru⟩:=rv.one
 obtain ⟨z,its,n,r,hl,e⟩:=I.lstM hH
 refine call_meets F.slot_list_append ⟨_,e,rfl⟩ F.entry_list_append (F.args_list_append_2 _ _) (PySem.list_append l its.toArray n u (by rw [List.size_toArray];omega)) ⟨e,?_⟩
 refine ⟨.non,_,I.lset (its':=its++[u]) hH e (by simp) (r.append (.cons ru .nil)) ?_,rfl,q⟩
 rw [List.length_append,List.length_singleton]
 omega
def rPop:V→List V→Hp→VK→Prop:=fun x vs H Q=>∃ l xs y,x = .ref l∧vs=[]∧H l=some (.lst xs)∧xs[xs.length - 1]?=some y∧Q y (upd H l (.lst xs.dropLast))
theorem YdZ:MtM X "list.pop" rPop:=by
 intro pins s σ H x vs v us Q I rx rv h
 obtain ⟨l,xs,y,rfl,rfl,hH,hy,q⟩:=h
 cases rx
 have hus:=rv.zero
 subst hus
 obtain ⟨z,its,n,r,hl,e⟩:=I.lstM hH
 obtain ⟨u,hu,ru⟩:=r.get hy
 have hy':its.toArray[its.toArray.size - 1]?=some u:=by
  show its.toArray[its.length - 1]?=some u
  rw [← Array.getElem?_toList,← hl]
  exact hu
 refine call_meets F.slot_list_pop ⟨_,e,rfl⟩ F.entry_list_pop (F.args_list_pop_1 _) (MeetsSeq.list_pop_last l its.toArray n u hy' (by rw [List.size_toArray];omega)) ⟨e,?_⟩
 refine ⟨y,_,I.lset (its':=its.dropLast) hH e ?_ r.dropLast ?_,ru,q⟩
 ·show its.toArray.eraseIdxIfInBounds (its.toArray.size - 1)=its.dropLast.toArray
  rw [List.size_toArray,List.eraseIdxIfInBounds_toArray,YaY]
 ·rw [List.length_dropLast]
  omega
def rCat:R2:=fun x y H Q=>∃ l b xs zs,x = .ref l∧y = .ref b∧H l=some (.lst xs)∧H b=some (.lst zs)∧xs.length+zs.length≤sizeLine∧∀ p,H p=none→Q (.ref p) (upd H p (.lst (xs++zs)))
theorem Yd0:OpR X (binaryOp .Add) rCat:=by
 intro pins s σ H x y v u Q I rx ry h
 obtain ⟨l,b,xs,zs,rfl,rfl,hH,hB,hz,q⟩:=h
 cases rx
 cases ry
 obtain ⟨z,its,n,r,hl,e⟩:=I.lstM hH
 obtain ⟨z2,its2,n2,r2,hl2,e2⟩:=I.lstM hB
 refine PySem.P.add_list e e2 ?_ (by rw [List.size_toArray,List.size_toArray];omega)
 have ea:its.toArray++its2.toArray=(its++its2).toArray:=by simp
 rw [ea]
 exact ⟨.ref _,_,I.lnew (t':=s.toks) (r.append r2) (by rw [List.length_append];omega),rfl,q _ I.fresh⟩
def rRep:R2:=fun x y H Q=>∃ l k xs,x = .ref l∧y = .int k∧H l=some (.lst xs) ∧ -(2^63)≤k∧k<2^63∧xs.length*k.toNat≤sizeLine ∧
 ∀ p,H p=none→Q (.ref p) (upd H p (.lst (List.replicate k.toNat xs).flatten))
theorem Yal {α:Type} (xs:List α) (k:Nat):(List.replicate k xs).flatten.length=k*xs.length:=by
 induction k with
 | zero=>simp
 | succ k ih=>rw [List.replicate_succ,List.flatten_cons,List.length_append,ih,Nat.succ_mul,Nat.add_comm]
theorem Qr:OpR X (binaryOp .Mult) rRep:=by
 intro pins s σ H x y v u Q I rx ry h
 obtain ⟨l,k,xs,rfl,rfl,hH,h1,h2,hz,q⟩:=h
 cases rx
 obtain ⟨t,rfl⟩:=ry
 obtain ⟨z,its,n,r,hl,e⟩:=I.lstM hH
 have hlen:its.toArray.size*k.toNat≤sizeLine:=by rw [List.size_toArray,← hl];exact hz
 have hcap:¬ its.toArray.size*k.toNat>(2^63 - 1) / 8:=by
  have:(sizeLine:Nat)≤(2^63 - 1) / 8:=by decide
  omega
 have hfit:¬ (!Builtin.List.listFitsIndex k)=true:=by
  rw [fitsIndex_both h1 h2]
  exact Bool.false_ne_true
 have hlong:¬ Builtin.List.listTooLong (its.toArray.size*k.toNat)=true:=by
  rw [Ycr hlen]
  exact Bool.false_ne_true
 have hnew:List.foldl (fun x1 x2=>x1++x2) #[] (List.replicate (if its.toArray.isEmpty=true then 0 else k.toNat) its.toArray)=(List.replicate k.toNat its).flatten.toArray:=by
  have f0:∀ m:Nat,List.foldl (fun x1 x2=>x1++x2) #[] (List.replicate m its.toArray)=(List.replicate m its).flatten.toArray:=fun m=>by
   have:=UF its m []
   rw [List.nil_append] at this
   exact this
  rw [f0]
  cases its with
  | nil=>simp
  | cons a r'=>rw [if_neg (by simp)]
 refine wpAny_binaryOp_repeat_ref (T:="list") (U:="int") (by decide) ⟨_,e,rfl⟩ (fun s'=>typeIs_int s' k t) noFill_list_mul F.fills_int_mul F.slot_int_rmul repeat_list F.slot_int_index.lookup
  (call_meets F.slot_int_rmul (typeIs_int s k t) F.entry_int_rmul (F.args_int_rmul_2 _ _) (int___rmul___int_list k t l its.toArray n)
   ⟨e,rfl,⟨_,e,rfl⟩,call_meets F.slot_list_mul ⟨_,e,rfl⟩ F.entry_list_mul (F.args_list_mul_2 _ _) (AutoListH.list___mul___list_int_3 l its.toArray n k t hfit hcap hlong) ⟨e,?_⟩⟩)
 rw [hnew]
 exact ⟨.ref _,_,I.lnew (t':=s.toks) (r.rep k.toNat) (by rw [Yal,Nat.mul_comm];exact hz),rfl,q _ I.fresh⟩
end
section
variable {prog:Program} {w:World} {A:Around} {E:Value→Shared→Prop} {s:Shared}
end
section
variable {X:Cx}
end
end L2
namespace Att
open PySem PySem.W PySem.Calls PyProof.Rows
theorem V1 {P:Params} {h:Heap}:∀ (ns:List Int) (vs:List Value),WellAll P h vs (ns.map WData.int)→IntsAre vs ns:=by
 intro ns
 induction ns with
 | nil =>
  intro vs w
  rw [List.map_nil] at w
  cases w
  exact .nil
 | cons n ns ih =>
  intro vs w
  rw [List.map_cons] at w
  cases w with
  | cons a b =>
   cases a
   exact .cons _ _ (ih _ b)
theorem YbT {l:OpenLaw} {n:Nat} (hn:l.most=some n) {P:Params} {h:Heap} {args:List WData} {vals:List Value}
  (hpre:l.row.toRowW.claim.pre args=true) (hwl:WellAll P h vals args) :
  ∃ a vs ns,vals=[Value.ref a]∧args=[WData.list (ns.map WData.int)]∧h.get? a=some { cls := .type "list",data := .seq vs.toArray }∧IntsAre vs ns∧ns.length≤n:=by
 have hsh:WShape.hasAll [] args [.list .int]=true:=(pre_splitW hpre).1
 have hc:l.pre.holds [] { args:=args }=true:=(pre_splitW hpre).2
 obtain ⟨d,r,rfl,h1,h2⟩:=hasAllW_cons hsh
 obtain rfl:=hasAllW_nil h2
 obtain ⟨xs,rfl,h3⟩:=hasW_list h1
 obtain ⟨ns,rfl⟩:=items_int h3
 have hlen:ns.length≤n:=by
  unfold OpenLaw.pre at hc
  have h4:(WTm.not (.lt (.lit (.int (n:Int))) (.len (.arg 0)))).holds [] { args:=[.list (ns.map .int)] }=true:=by
   have h4:=(holds_andW hc).1
   rw [hn] at h4
   exact h4
  have h5:=condW_of h4 (w_not (w_lt w_lit (w_len_list (w_arg rfl))))
  rw [List.length_map] at h5
  refine Nat.le_of_not_lt fun q=>?_
  have q':(n:Int)<((ns.length:Nat):Int):=by omega
  first
   | (rw [decide_eq_true q'] at h5;exact absurd h5 (by decide))
   | (simp at h5;omega)
 cases hwl with
 | cons w1 w2 =>
  cases w2
  cases w1 with
  | list ho hall=>exact ⟨_,_,ns,rfl,rfl,ho,V1 ns _ hall,hlen⟩
theorem YbU (l:OpenLaw) (args:List WData):l.row.toRowW.claim.post args (.bool true) args=true :=
 postW_of (r:=l.row.toRowW) (X:=(true==true))
  (show WShape.has [] (.bool true) .bool=true by first | rfl | decide | simp [WShape.has,WShape.arms,WShape.armsAll])
  (show (WTm.eq .res (.lit (.bool true))).value [] { args:=args,res:=some (.bool true),after:=args }=some (.bool (true==true)) from w_eq_bool (w_res rfl) w_lit) rfl
theorem attach_call {l:OpenLaw} {n:Nat} {q:Program} {loose:List Str} {XP:(Str→Option Value)→Heap→Prop} {YP:World→Heap→Prop} {d:DefRec}
  (hn:l.most=some n) (hdf:d.params.defaults=[])
  (call:∀ (w:World) (s₀ s₁:Shared) (mg mb:Str→Option Value) (fa:Addr) (o:Obj) (pm cd doc:Value) (a:Addr) (vs:List Value) (ns:List Int),
   Ground q loose [] XP w s₀ mg mb s₁.heap→YP w s₁.heap →
   s₁.heap.get? fa=some o→o.data = .func (docDef d.name d.params d.body d.scope pm cd doc)→s₁.heap.CodeRec cd d.name→mg d.name=some (.ref fa) →
   s₁.heap.get? a=some { cls := .type "list",data := .seq vs.toArray }→IntsAre vs ns→ns.length≤n→s₁.gens=#[] →
   codeAny (model l.prog w) callerA (.call (.ref fa) ⟨[.ref a],[]⟩) (fun r s'=>r = .ok (.ret (.bool true))∧OldK s₁.heap s'.heap∧s'.os=s₁.os∧AllBare s'.gens) s₁) :
  WalkO q loose XP YP l.row.toRowW d [] (fun f vs=>PySem.call f vs):=by
 intro w s₀ s₁ mg mb G Y fa o pm cd doc dV kV ho hd hcd hD hmg hg args vals as hpre hlay hrd hwl hlo
 obtain rfl:dV = .none:=Dflts.none hD hdf
 obtain rfl:kV = .none:=Dflts.noKw hD
 obtain ⟨a,vs,ns,rfl,rfl,hobj,hints,hlen⟩:=YbT hn hpre hwl
 refine enter_call (codeAny_mono (call w s₀ s₁ mg mb fa o pm cd doc a vs ns G Y ho (fd_plain hd) hcd hmg hobj hints hlen hg) fun r s' hq=>?_)
 obtain ⟨rfl,h2,h3,h4⟩:=hq
 exact ⟨.inl ⟨.bool true,.bool true,[],rfl,fun _=>rfl,.bool true,YbU l _,fun _=>⟨List.Pairwise.nil,fun _ hm=>(nomatch hm)⟩⟩,h2,h3,h4⟩
section
variable {prog:Program} {w:World} {A:Around} {E:Value→Shared→Prop} {s:Shared} {K:Frag}
def ledger (h:Heap) (L d:Addr):List (Addr×Obj):=(List.range h.objs.size).filterMap fun a=>if a=L∨a=d then none else (h.get? a).map fun o=>(a,o)
end
end Att
namespace L2
open PySem PySem.Spec PyProof.Rows
theorem UG:∀ {vs:List Value} {ns:List Int},IntsAre vs ns→Ys (ns.map V.int) vs
 | _,_,.nil => .nil
 | _,_,.cons n t h => .cons ⟨t,rfl⟩ (UG h)
def Only (H:Hp):Prop:=∀ b,H b=none∨∃ o xs,H b=some (.frz o (.lst xs))
theorem Ycs {P:Program} {w:World} {K:PySem.W.Frag} {mg mb:Str→Option Value} {CX:CXT} {k:Nat} {fa a:Addr} {fd:FuncData} {x:Str} {sp:Sp} {s₁:Shared} {vs:List Value} {ns:List Int}
  (KX:K.In s₁.heap) (hns:s₁.heap.Ns mainGlobals mg) (hb:s₁.heap.Ns builtinsNs mb) (hbb:∀ x:Str,x≠"__name__"→mb x=bootBuiltins x) (hlim:s₁.heap.NoLimit) (hg:s₁.gens=#[])
  (ha:s₁.heap.get? a=some { cls := .type "list",data := .seq vs.toArray }) (hi:IntsAre vs ns) (hl:ns.length≤sizeLine) (hr:Room k callerA)
  (F:∀ base:Heap,K.In base→base.Ns mainGlobals mg→FnOk P w K mg base CX k fa fd [x] sp) (hbind:∀ (s:Shared) (u:Value),BindsTo s fd ⟨[u],[]⟩ [(x,u)])
  (hsp:∀ H:Hp,Only H→SqL K H a (ns.map V.int)→sp [.ref a] H (fun v _=>v = .bl true) fun _ _ _=>False)
  (hCX:∀ H e s',CX [] H s₁ (fun _ _ _=>False) e s'→False) :
  codeAny (model P w) callerA (.call (.ref fa) ⟨[.ref a],[]⟩) (fun r s'=>r = .ok (.ret (.bool true))∧OldK s₁.heap s'.heap∧s'.os=s₁.os∧AllBare s'.gens) s₁:=by
 have rv:=UG hi
 have lenV:=hi.length
 -- from an abstract heap in which nothing but the script may be tracked
 have core:∀ H:Hp,Only H→SqL K H a (ns.map V.int)→HOk P w H s₁.heap→(∀ b,H b≠none→b=a)→(H a≠none→K.lookup a=none) →
   codeAny (model P w) callerA (.call (.ref fa) ⟨[.ref a],[]⟩) (fun r s'=>r = .ok (.ret (.bool true))∧OldK s₁.heap s'.heap∧s'.os=s₁.os∧AllBare s'.gens) s₁:=by
  intro H hO hS hok hA hK
  have base_of:∀ {b:Addr} {o:Obj},s₁.heap.get? b=some o→H b=none→(Vi s₁.heap H).get? b=some o:=fun e n=>Yck e n
  have noA:∀ {b:Addr} {o:Obj} {es:Array DictEntry} {ep:Nat},s₁.heap.get? b=some o→o.data = .dict es ep→H b=none:=fun {b o es ep} e d=>by
   cases q:H b with
   | none=>rfl
   | some u =>
    have e':b=a:=hA b (by rw [q];simp)
    subst e'
    rw [ha] at e;cases e
    have d':Data.seq vs.toArray _=Data.dict es ep:=d
    cases d'
  have nsK:∀ {b:Addr} {m:Str→Option Value},s₁.heap.Ns b m→(Vi s₁.heap H).Ns b m:=fun {b m} ⟨o,es,ep,e,d,r⟩=>⟨o,es,ep,base_of e (noA e d),d,r⟩
  have hKb:K.In (Vi s₁.heap H):=fun b o e=>base_of (KX b o e) (by
   cases q:H b with
   | none=>rfl
   | some u =>
    have e':b=a:=hA b (by rw [q];simp)
    subst e'
    rw [hK (by rw [q];simp)] at e;cases e)
  have hM:Mod K mg (Vi s₁.heap H):=⟨hKb,nsK hns,⟨mb,nsK hb,hbb⟩,let ⟨mc,h1,h2⟩:=hlim;⟨mc,nsK h1,h2⟩⟩
  have e0:Env0 P w K mg (Vi s₁.heap H) callerA [] s₁ H:=⟨rfl,hM,fun b o e=>Yc8 e,Nat.le_of_eq (Ybz _ _),trivial,fun b hb=>absurd (show b∈([]:List Addr) from hb) (by simp),hok,.of_eq hg⟩
  refine codeAny_mono ((F _ hKb (nsK hns)).run callerA [] s₁ H ⟨[.ref a],[]⟩ [.ref a] [.ref a] _ _ hr e0 (hbind s₁ (.ref a)) (.cons rfl .nil) (hsp H hO hS)) fun r s' h=>?_
  cases r with
  | error e=>exact (hCX H e s' h).elim
  | ok fl =>
   cases fl with
   | next=>exact False.elim h
   | brk=>exact False.elim h
   | cont=>exact False.elim h
   | ret u =>
    obtain ⟨v,H',os,bare,un,hok',r',q⟩:=h
    have q':v = .bl true:=q
    subst q'
    obtain rfl:u=Value.bool true:=r'
    refine ⟨rfl,OldK.of_keep fun b o e=>?_,os,bare⟩
    cases q:H b with
    | none=>exact un.keep b o e q (by intro z;exact absurd (show b∈([]:List Addr) from z) (by simp)) (by simp)
    | some u =>
     rcases hO b with z | ⟨ob,xs,z⟩
     ·rw [q] at z;cases z
     ·have z2:=un.frzs b ob _ z
      obtain ⟨e1,_⟩:=hok b _ z
      obtain ⟨e2,_⟩:=hok' b _ z2
      rw [e] at e1;cases e1
      exact e2
 cases hk:K.lookup a with
 | some o =>
  -- the script is one of the module's own objects
  have e:=KX a o hk
  rw [ha] at e
  cases e
  refine core (fun _=>none) (fun _ => .inl rfl) (.inr ⟨_,vs.toArray,_,hk,rfl,rfl,rfl,by rw [List.size_toArray,lenV];exact hl,by simpa using rv⟩) (fun b u z=>by have z':(none:Option HO)=some u:=z;cases z') (fun b z=>absurd rfl z) fun z=>absurd rfl z
 | none =>
  refine core (fun b=>if b=a then some (.frz { cls := .type "list",data := .seq vs.toArray } (.lst (ns.map V.int))) else none) (fun b=>?_) (.inl (.inr ⟨{ cls := .type "list",data := .seq vs.toArray },if_pos rfl⟩)) (fun b u z=>?_) (fun b z=>?_) fun _=>hk
  ·by_cases hb:b=a
   ·exact .inr ⟨_,_,if_pos hb⟩
   ·exact .inl (if_neg hb)
  ·by_cases hb:b=a
   ·have z':=(if_pos hb).symm.trans z
    cases z'
    subst hb
    exact ⟨ha,by rw [List.length_map];exact hl,vs,_,rv,ha⟩
   ·have z':=(if_neg hb).symm.trans z
    cases z'
  ·by_cases hb:b=a
   ·exact hb
   ·exact absurd (if_neg hb) z
end L2
namespace L2
open PySem PySem.Spec PyProof.Rows
theorem Ydk {l:PySem.W.OpenLaw} {n k:Nat} {q:Program} {loose:List Str} {XP:(Str→Option Value)→Heap→Prop} {YP:World→Heap→Prop} {d:DefRec} {K:Params→PySem.W.Frag} {CX:World→CXT} {sp:World→Sp} {x:Str}
  (hn:l.most=some n) (hn2:n≤sizeLine) (hdf:d.params.defaults=[]) (hr:Room k callerA)
  (hY:∀ (w:World) (h:Heap),YP w h→(K w.params).In h)
  (F:∀ (w:World) (mg:Str→Option Value) (fa:Addr) (h:Heap),(K w.params).In h→h.Ns mainGlobals mg→mg d.name=some (.ref fa) →
   ∃ fd:FuncData,(∀ (s:Shared) (u:Value),BindsTo s fd ⟨[u],[]⟩ [(x,u)]) ∧
    ∀ base:Heap,(K w.params).In base→base.Ns mainGlobals mg→FnOk l.prog w (K w.params) mg base (CX w) k fa fd [x] (sp w))
  (hsp:∀ (w:World) (H:Hp) (a:Addr) (ns:List Int),ns.length≤n→Only H→SqL (K w.params) H a (ns.map V.int)→sp w [.ref a] H (fun v _=>v = .bl true) fun _ _ _=>False)
  (hCX:∀ (w:World) (H:Hp) (s:Shared) (e:Value) (s':Shared),CX w [] H s (fun _ _ _=>False) e s'→False) :
  PySem.W.WalkO q loose XP YP l.row.toRowW d [] (fun f vs=>PySem.call f vs):=by
 refine Att.attach_call hn hdf fun w s₀ s₁ mg mb fa o pm cd doc a vs ns G Y ho hd hcd hmg hobj hints hlen hg=>?_
 have KX:=hY w _ Y
 obtain ⟨fd,hb,hF⟩:=F w mg fa _ KX G.T.g hmg
 exact Ycs KX G.T.g G.T.b G.T.builtins G.T.nolimit hg hobj hints (Nat.le_trans hlen hn2) hr hF hb (fun H hO hS=>hsp w H a ns hlen hO hS) fun H e s'=>hCX w H s₁ e s'
end L2
namespace L2
open PySem PySem.Spec PyProof.Rows
def Yv (s:Stmt) (j:Nat):Stmt:=match s with
 | .ClassDef _ _ _ body _ _ _ _ _ _ _=>body.getD j (.Pass ⟨0,0,0,0⟩)
 | _ => .Pass ⟨0,0,0,0⟩
def Xk (s:Stmt):Arguments:=match s with
 | .FunctionDef _ a _ _ _ _ _ _ _ _=>a
 | _=>{ posonlyargs:=[],args:=[],vararg:=none,kwonlyargs:=[],kw_defaults:=[],kwarg:=none,defaults:=[] }
def Xf (s:Stmt):List Stmt:=match s with
 | .FunctionDef _ _ b _ _ _ _ _ _ _=>b
 | _=>[]
def Yj (s:Stmt):Scope:=match s with
 | .FunctionDef _ _ _ _ _ _ sc _ _ _=>sc
 | _=>{ kind := .function,names:=[],isGenerator:=false,isCoroutine:=false }
abbrev CX0:CXT:=fun _ _ _ _ _ _=>False
abbrev E0:XK:=fun _ _ _=>False
theorem V2 {X:Cx}:WK CX0 X E0:=fun _ _ _ _ _ _ _ h=>h.elim
structure Fun (K:PySem.W.Frag) (x qual:Str) (st:Stmt) (f:Addr) (fd:FuncData):Prop where
 ex:∃ (oc:Value) (od:Option Addr) (kV doc pm:Value) (an:Option Addr) (cdv ct:Value) (osl:Array (Option Value)),
  fd=PySem.W.fnOf x qual (Xk st) (Xf st) (Yj st) .none kV doc pm an cdv ct∧K.lookup f=some ⟨oc,od,.func fd,osl⟩∧PySem.W.codeIn K cdv qual=true
 kp:PySem.W.keepIn K (.ref f)=true
section
variable {P:Program} {w:World} {K:PySem.W.Frag} {mg:Str→Option Value} {base:Heap}
theorem Fun.ok {x qual:Str} {st:Stmt} {f:Addr} {fd:FuncData} {N ps:List Str} {k:Nat} {sp:Sp} (F:Fun K x qual st f fd) (S:FnScope N ps (Yj st)) (len:∀ vs H Q E,sp vs H Q E→vs.length=ps.length)
  (hbody:∀ (cdv:Value) (A:Around) (outer:List Env) (s:Shared) (H:Hp) (vs:List V) (Q:VK) (E:XK),Room k (A.deeper (envOfC qual (Yj st) s.heap.objs.size f cdv))→sp vs H Q E →
   ∃ t,PSs (Vw CX0 P w K mg base N qual (Yj st) f cdv A outer s H E).nox (Xf st) t∧t { nx:=fun _ H'=>Q .non H',rt:=Q } (Wy N vs) H):FnOk P w K mg base CX0 (k+1) f fd ps sp:=by
 obtain ⟨oc,od,kV,doc,pm,an,cdv,ct,osl,rfl,lk,hcd⟩:=F.ex
 refine fn_of lk hcd S len fun A outer s H vs Q E hr hsp=>?_
 obtain ⟨t,h,q⟩:=hbody cdv A outer s H vs Q E hr hsp
 exact ⟨t,h.nox,q⟩
theorem Fun.binds {x qual:Str} {st:Stmt} {f:Addr} {fd:FuncData} {ps:List Str} (F:Fun K x qual st f fd)
  (h:∀ (kV doc pm:Value) (an:Option Addr) (cdv ct:Value) (us:List Value),us.length=ps.length→bindArgs (PySem.W.fnOf x qual (Xk st) (Xf st) (Yj st) .none kV doc pm an cdv ct) ⟨us,[]⟩=pure (ps.zip us)):Xw K fd ps []:=by
 obtain ⟨oc,od,kV,doc,pm,an,cdv,ct,osl,rfl,lk,hcd⟩:=F.ex
 exact .all (h kV doc pm an cdv ct)
theorem Vx {x qual:Str} {st:Stmt} {f:Addr} {oc:Value} {od an:Option Addr} {osl:Array (Option Value)} {kV doc pm cdv ct:Value} (l:K.lookup f=some ⟨oc,od,.func (PySem.W.fnOf x qual (Xk st) (Xf st) (Yj st) .none kV doc pm an cdv ct),osl⟩)
  (c:PySem.W.codeIn K cdv qual=true) (k:PySem.W.keepIn K (.ref f)=true):Fun K x qual st f (PySem.W.fnOf x qual (Xk st) (Xf st) (Yj st) .none kV doc pm an cdv ct):=⟨⟨oc,od,kV,doc,pm,an,cdv,ct,osl,rfl,l,c⟩,k⟩
end
section
variable {X:Cx}
theorem pv (i:Nat) {x:Str} {pos:Pos} (hN:X.N[i]?=some x) (hv:Vis X.env.scope x) (hd:(x==("__debug__":Str))=false)
  (hcd:(x==("__classdict__":Str))=false):PE X (.Name x pos) (Ui i):=YdP hN hv hd hcd
end
theorem iteT {A B:Prop} (h:A):if true=true then A else B:=by
 rw [if_pos rfl]
 exact h
theorem XB {c A B:Prop} [Decidable c] (h1:c→A) (h2:¬ c→B):if c then A else B:=by
 by_cases h:c
 ·rw [if_pos h]
  exact h1 h
 ·rw [if_neg h]
  exact h2 h
def Yq (H H':Hp):Prop:=∀ b o,H b=some o→H' b=some o
theorem Yq.refl (H:Hp):Yq H H:=fun _ _ h=>h
theorem Yq.trans {H H1 H2:Hp} (a:Yq H H1) (b:Yq H1 H2):Yq H H2:=fun c o h=>b c o (a c o h)
theorem Yq.free {H H':Hp} (e:Yq H H') {l:Addr} (h:H' l=Option.none):H l=Option.none:=by
 cases q:H l with
 | none=>rfl
 | some o =>
  rw [e l o q] at h
  cases h
theorem Yq.seq {K:PySem.W.Frag} {H H':Hp} {a:Addr} {xs:List V} (e:Yq H H') (h:SqL K H a xs):SqL K H' a xs:=by
 rcases h with (h | ⟨o,h⟩) | h
 ·exact .inl (.inl (e _ _ h))
 ·exact .inl (.inr ⟨o,e _ _ h⟩)
 ·exact .inr h
end L2
namespace L2
open PySem PySem.Spec PyProof.Rows
section
variable {κ:Type} [DecidableEq κ]
theorem WB.getD {o:Option V} {u:Option Value} {d:V} {d':Value} (r:WB o u) (rd:YB d d'):YB (o.getD d) (u.getD d'):=by
 cases o with
 | none=>cases u with
  | none=>exact rd
  | some _=>exact (show False from r).elim
 | some _=>cases u with
  | none=>exact (show False from r).elim
  | some _=>exact r
theorem KV.any {kvs:List (κ×V)} {vs:List (κ×Value)} (r:KV kvs vs) (k:κ):(kvs.any fun kv=>decide (kv.1=k))=vs.any fun kv=>decide (kv.1=k):=by
 unfold KV at r
 induction r with
 | nil=>rfl
 | cons h t ih=>rw [List.any_cons,List.any_cons,ih,h.1]
theorem KV.length {kvs:List (κ×V)} {vs:List (κ×Value)} (r:KV kvs vs):kvs.length=vs.length:=Paired.length r
end
theorem YcW {P:Program} {w:World} {k:Key} {u:Value} (r:YB (kV k) u):(XW P w).is k u=true:=by
 cases k with
 | inl i=>obtain ⟨t,e⟩:=(show ∃ t,u=Value.int i t from r);subst e;exact QX P w i t
 | inr x=>obtain ⟨t,e⟩:=(show ∃ t,u=Value.str x t from r);subst e;exact QY P w x t
abbrev KT (H:Hp):List (List Key×V)→List (List Key×Addr×Value)→Prop:=Paired fun p q=>p.1=q.1∧H q.2.1=some (.tup (p.1.map kV))∧YB p.2 q.2.2
theorem KT.keeps {H H':Hp} {kvs:List (List Key×V)} {xs:List (List Key×Addr×Value)} (r:KT H kvs xs) (ht:∀ b ys,H b=some (.tup ys)→H' b=some (.tup ys)):KT H' kvs xs :=
 Paired.mapP r fun _ _ z=>⟨z.1,ht _ _ z.2.1,z.2.2⟩
section
variable {P:Program} {w:World} {H:Hp} {h:Heap} {a:Addr}
end
section
variable {X:Cx} {pins:List (Addr×Obj)} {σ:St} {H:Hp} {s:Shared} {a:Addr} {y v:V} {u r:Value} {o:Option V} {A:Around} {E:Value→Shared→Prop}
theorem Inv.big (I:Inv X pins σ H s):sysModules<s.heap.objs.size:=by
 have h:mainGlobals<s.heap.objs.size:=(I.mod.glob.keeps I.bk).lt
 exact Nat.lt_trans (by decide) h
theorem Ydl {h':Heap} {t':Nat} {ob:HO} (I:Inv X pins σ H s) (mu:Mut (H a)) (hs:Heap.SameBut a s.heap h') (he:∃ q,h'.get? a=some q) (new:Xe X.prog X.w (upd H a ob) h' a ob) :
  Inv X pins σ (upd H a ob) { s with heap:=h',toks:=t' } :=
 I.write (x:=a) (e:=a) mu (.inl rfl) (fun b q hb z=>(hs.2 b hb).trans z) he new
end
section
variable {X:Cx} {pins:List (Addr×Obj)} {σ:St} {H:Hp} {s:Shared} {a:Addr} {kvs:List (Key×V)} {k:Key} {u:Value} {A:Around} {E:Value→Shared→Prop}
end
def NoSl (i:Expr):Prop:=∀ ov iv,subscripted i false ov iv=operate [ov,iv] (getItem ov iv)
theorem Ydm {prog:Program} {w:World} {A:Around} {E:Value→Shared→Prop} {s:Shared} {env:Env} {value slice:Expr} {pos:Pos} {T id:String} {Q:Value→Shared→Prop}
  (hl:typeLookup (.type T) "__getitem__"=pure (some (.builtin id))) (hs:NoSl slice)
  (h:wpAny (model prog w) A (eval value env) (fun o s₁=>wpAny (model prog w) A (eval slice env) (fun i s₂=>s₂.TypeIs o T∧wpAny (model prog w) A (getItem o i) Q E s₂) E s₁) E s) :
  wpAny (model prog w) A (eval (.Subscript value slice pos) env) Q E s:=by
 refine Subscript_ (wpAny_mono h (fun o s₁ h₁=>wpAny_mono h₁ (fun i s₂ h₂=>?_) fun _ _ x=>x) fun _ _ x=>x)
 obtain ⟨hT,h₂⟩:=h₂
 unfold subscriptTail
 refine wpAny_bind ?_
 rw [getitemInPython_of_ne hT.not_modules]
 refine wpAny_bind (wpAny_specialOf hT hl ?_)
 have fin:wpAny (model prog w) A (subscripted slice false o i) (fun r s₃=>wpAny (model prog w) A (letTemporaryGo value o r >>= fun _=>pure r) Q E s₃) E s₂:=by
  rw [hs o i]
  exact wpAny_operating (wpAny_mono h₂ (fun r s₃ h₃=>wpAny_bind (wpAny_letTemporaryGo (wpAny_pure h₃))) fun _ _ x=>x)
 first
  | exact wpAny_pure (wpAny_bind fin)
  | exact wpAny_bind (wpAny_pure (wpAny_bind fin))
  | exact wpAny_bind fin
section
variable {X:Cx} {o i e value:Expr} {pos pos' tpos:Pos} {td ty tv:TE}
end
section
variable {X:Cx} {pos:Pos}
end
section
variable {X:Cx} {pins:List (Addr×Obj)} {σ:St} {H:Hp} {s:Shared} {a:Addr} {y d:V} {u r:Value} {o:Option V} {A:Around} {E:Value→Shared→Prop}
end
section
variable {X:Cx} {o e f:Expr} {apos cpos:Pos} {td ty tx:TE}
end
section
variable {X:Cx} {pins:List (Addr×Obj)} {σ:St} {H:Hp} {s:Shared} {a:Addr} {kvs:List (Key×V)} {A:Around} {E:Value→Shared→Prop}
end
section
variable {X:Cx} {pins:List (Addr×Obj)} {σ:St} {H:Hp} {s:Shared} {a:Addr} {y:V} {u:Value} {A:Around} {E:Value→Shared→Prop}
end
end L2
namespace L2
open PySem PySem.Spec PyProof.Rows
theorem WL (env:Env):∀ (names:List (Str×NameKind)) (cs:List (Str×Addr)),(∀ x,(x,NameKind.free)∈names→∃ c,env.cells.lookup x=some c) →
  ∃ cl,(forIn names cs fun (p:Str×NameKind) (cs:List (Str×Addr))=>(if (p.2==NameKind.free)=true then (do let c ← cellOf env p.1;pure (ForInStep.yield ((p.1,c)::cs))) else pure (ForInStep.yield cs):Sem (ForInStep (List (Str×Addr)))))=pure cl ∧
   (∀ x c,cl.lookup x=some c→env.cells.lookup x=some c∨cs.lookup x=some c)∧(∀ x,(x,NameKind.free)∈names→∃ c,cl.lookup x=some c)∧(∀ x c,cs.lookup x=some c→∃ d,cl.lookup x=some d)
 | [],cs,_=>⟨cs,by simp,fun _ _ h => .inr h,(fun _ h=>nomatch h),fun x c h=>⟨c,h⟩⟩
 | (n,k)::r,cs,h=>by
  by_cases hk:k=NameKind.free
  ·subst hk
   obtain ⟨c,hc⟩:=h n (List.mem_cons_self ..)
   obtain ⟨cl,e,a,b,d⟩:=WL env r ((n,c)::cs) (fun x hx=>h x (List.mem_cons_of_mem _ hx))
   have hcell:cellOf env n=pure c:=by unfold cellOf;rw [hc]
   refine ⟨cl,?_,fun x c' hx=>?_,fun x hx=>?_,fun x c' hx=>?_⟩
   ·rw [List.forIn_cons]
    simp only [beq_self_eq_true,if_true,hcell,pure_bind]
    exact e
   ·rcases a x c' hx with q | q
    ·exact .inl q
    ·rw [List.lookup_cons] at q
     by_cases hxn:(x==n)=true
     ·rw [hxn] at q
      have hx':x=n:=by simpa using hxn
      subst hx'
      have:c=c':=by simpa using q
      subst this
      exact .inl hc
     ·rw [Bool.eq_false_iff.mpr hxn] at q
      exact .inr q
   ·rcases List.mem_cons.mp hx with q | q
    ·have hx':x=n:=congrArg Prod.fst q
     subst hx'
     exact d x c (by rw [List.lookup_cons];simp)
    ·exact b x q
   ·have:∃ d',((n,c)::cs).lookup x=some d':=by
     rw [List.lookup_cons]
     by_cases hxn:(x==n)=true
     ·rw [hxn];exact ⟨c,rfl⟩
     ·rw [Bool.eq_false_iff.mpr hxn];exact ⟨c',hx⟩
    obtain ⟨d',hd'⟩:=this
    exact d x d' hd'
  ·obtain ⟨cl,e,a,b,d⟩:=WL env r cs (fun x hx=>h x (List.mem_cons_of_mem _ hx))
   have hkf:(k==NameKind.free)=false:=by simpa using hk
   refine ⟨cl,?_,a,fun x hx=>?_,d⟩
   ·rw [List.forIn_cons]
    simp only [hkf,Bool.false_eq_true,if_false,pure_bind]
    exact e
   ·rcases List.mem_cons.mp hx with q | q
    ·exact absurd (congrArg Prod.snd q).symm hk
    ·exact b x q
theorem V3 (env:Env) (scope:Scope) (h:∀ x,(x,NameKind.free)∈scope.names→∃ c,env.cells.lookup x=some c) :
  ∃ cl,closureFor scope env=pure cl∧(∀ x c,cl.lookup x=some c→env.cells.lookup x=some c)∧(∀ x,(x,NameKind.free)∈scope.names→∃ c,cl.lookup x=some c):=by
 obtain ⟨cl,e,a,b,_⟩:=WL env scope.names [] h
 refine ⟨cl,?_,fun x c hx=>(a x c hx).elim id (fun z=>by simp at z),b⟩
 unfold closureFor
 simp only [bind_pure]
 exact e
def cxC (X:Cx) (scope:Scope) (N':List Str) (cl:List (Str×Addr)) (C:Addr) (s₀:Shared) (H₀:Hp) (fp:List Addr) (pn:List (Addr×Obj)):Cx :=
 { X with N:=N',s₀:=s₀,H₀:=H₀,env:=compEnvC scope cl C X.env,outer:=X.stack,ex:=fp,fn:=fun _=>false,pn:=pn,xe:=fun _ _=>False }
inductive Cap (X:Cx) (scope:Scope):List (Option Nat)→List Str→Prop
 | nil:Cap X scope [] []
 | own {x src N'}:Cap X scope src N'→Cap X scope (none::src) (x::N')
 | cap {x i src N'}:X.N[i]?=some x→scope.names.lookup x=some NameKind.free→(X.env.scope.names.lookup x=some NameKind.cell∨X.env.scope.names.lookup x=some NameKind.free)→Cap X scope src N'→Cap X scope (some i::src) (x::N')
def Y6 (src:List (Option Nat)) (σ:St):St:=src.map fun o=>match o with | none=>none | some i=>σ.getD i none
theorem Cap.length {X:Cx} {scope:Scope}:∀ {src:List (Option Nat)} {N':List Str},Cap X scope src N'→src.length=N'.length
 | _,_,.nil=>rfl
 | _,_,.own h=>congrArg (·+1) h.length
 | _,_,.cap _ _ _ h=>congrArg (·+1) h.length
theorem Cap.get {X:Cx} {scope:Scope} {σ:St}:∀ {src:List (Option Nat)} {N':List Str},Cap X scope src N'→∀ (j:Nat) (x:Str) (v:V),N'[j]?=some x→(Y6 src σ)[j]?=some (some v) →
  ∃ i:Nat,X.N[i]?=some x∧σ[i]?=some (some v)∧scope.names.lookup x=some NameKind.free∧(X.env.scope.names.lookup x=some NameKind.cell∨X.env.scope.names.lookup x=some NameKind.free)
 | _,_,.nil,j,x,v,h,_=>by simp at h
 | _,_,.own h,0,x,v,_,e=>by simp [Y6] at e
 | _,_,.own h,j+1,x,v,e1,e2=>h.get j x v (by simpa using e1) (by simpa [Y6] using e2)
 | _,_,.cap (x:=y) (i:=i) hN hf hk h,0,x,v,e1,e2=>by
  have ex:y=x:=by simpa using e1
  subst ex
  refine ⟨i,hN,?_,hf,hk⟩
  simp only [Y6,List.map_cons,List.getElem?_cons_zero,Option.some.injEq] at e2
  rw [List.getD_eq_getElem?_getD] at e2
  cases q:σ[i]? with
  | none=>rw [q] at e2;simp at e2
  | some o=>rw [q] at e2;simp at e2;rw [e2]
 | _,_,.cap hN hf hk h,j+1,x,v,e1,e2=>h.get j x v (by simpa using e1) (by simpa [Y6] using e2)
theorem W7 (env:Env) (x:Str):∀ {names:List (Str×NameKind)},
  (names.map fun (n,k)=>if (k==NameKind.free&&env.scope.kind == .function&&env.kindOf n==some .cell) then (n,NameKind.cell) else (n,k)).lookup x =
   (names.lookup x).map fun k=>if (k==NameKind.free&&env.scope.kind == .function&&env.kindOf x==some .cell) then NameKind.cell else k
 | []=>rfl
 | (n,k)::r=>by
  have ih:=@W7 env x r
  rw [List.map_cons]
  dsimp only
  by_cases hx:(x==n)=true
  ·have e:x=n:=by simpa using hx
   subst e
   by_cases hc:(k==NameKind.free&&env.scope.kind == .function&&env.kindOf x==some .cell)=true
   ·rw [if_pos hc,List.lookup_cons,List.lookup_cons,hx]
    simp only [Option.map_some]
    rw [if_pos hc]
   ·rw [if_neg hc,List.lookup_cons,List.lookup_cons,hx]
    simp only [Option.map_some]
    rw [if_neg hc]
  ·have hx':=Bool.eq_false_iff.mpr hx
   by_cases hc:(k==NameKind.free&&env.scope.kind == .function&&env.kindOf n==some .cell)=true
   ·rw [if_pos hc];simp only [List.lookup_cons,hx'];exact ih
   ·rw [if_neg hc];simp only [List.lookup_cons,hx'];exact ih
theorem WR {names:List (Str×NameKind)} {x:Str} (h:names.lookup x=some NameKind.free):(x,NameKind.free)∈names:=PySem.mem_of_lookup h
section
variable {X:Cx}
theorem Qs {scope:Scope} {N':List Str} {src:List (Option Nat)} {cl:List (Str×Addr)} {pins:List (Addr×Obj)} {σ:St} {H:Hp} {s s':Shared} {h':Heap} {tk:Nat} {fp:List Addr} {m:Str→Option Value}
  (hk:scope.kind = .function) (hcell:∀ y∈scope.names,y.2 ≠ .cell) (hcap:Cap X scope src N')
  (a:∀ x c,cl.lookup x=some c→X.env.cells.lookup x=some c) (b:∀ x,(x,NameKind.free)∈scope.names→∃ c,cl.lookup x=some c)
  (I:Inv X pins σ H s) (hf:∀ b∈fp,X1 X pins H b) (hfl:∀ b∈fp,b<s.heap.objs.size) (es':s'={ s with heap:=h',toks:=tk })
  (keep:∀ b o,s.heap.get? b=some o→h'.get? b=some o) (hn:h'.Ns s.heap.objs.size m) :
  Inv (cxC X scope N' cl s.heap.objs.size s H fp (X.pn++pins)) [] (Y6 src σ) H s':=by
 subst es'
 have kindOf:∀ x,(compEnvC scope cl s.heap.objs.size X.env).kindOf x=(scope.names.lookup x).map fun k=>if (k==NameKind.free&&X.env.scope.kind == .function&&X.env.kindOf x==some .cell) then NameKind.cell else k:=fun x=>W7 X.env x
 have freeOf:∀ x,((compEnvC scope cl s.heap.objs.size X.env).kindOf x=some .cell∨(compEnvC scope cl s.heap.objs.size X.env).kindOf x=some .free)→scope.names.lookup x=some .free:=fun x h=>by
  rw [kindOf] at h
  cases q:scope.names.lookup x with
  | none=>rw [q] at h;simp at h
  | some k =>
   rw [q] at h
   by_cases hkf:k=NameKind.free
   ·rw [hkf]
   ·have hkf':(k==NameKind.free)=false:=by simpa using hkf
    simp only [Option.map_some,hkf',Bool.false_and,Bool.false_eq_true,if_false] at h
    rcases h with h | h
    ·exact absurd (Option.some.inj h) (hcell _ (PySem.mem_of_lookup q))
    ·exact absurd (Option.some.inj h) hkf
 refine ⟨⟨I.ok.mod,hk,I.ok.glob,I.ok.blt,Nat.le_refl _,fun x y c h1 h2=>I.ok.inj x y c (a x c h1) (a y c h2),fun x hx=>b x (WR (freeOf x hx)),(fun x c z _=>nomatch z),I.ok.hd,I.ok.frames,.inl rfl,fun b' hb=>?_,I.bs,Nat.le_trans I.ok.bsz I.sz,fun b' o e hb=>?_,fun b' hb z=>?_,I.stack,I.stkFree⟩,
  rfl,I.bare,Un.kept keep,⟨m,hn,fun j x v h1 h2 h3=>?_⟩,fun x c h=>?_,I.hok.fresh (Nat.le_refl _),fun x c h=>I.freeC x c (a x c h),fun p hp=>?_,I.hok.kept keep,?_⟩
 ·obtain ⟨f0,f1,f2,f3,f4,f5⟩:=hf b' hb
  exact ⟨Nat.ne_of_lt (hfl b' hb),fun x c h=>f4 x c (a x c h)⟩
 ·obtain ⟨f0,f1,f2,f3,f4,f5⟩:=hf b' hb
  rcases f3 with z | z
  ·exact I.ok.noex b' o e z
  ·exact absurd (Nat.lt_of_lt_of_le (Heap.lt_size e) (Nat.le_trans I.ok.bsz z)) (Nat.lt_irrefl _)
 ·obtain ⟨f0,f1,f2,f3,f4,f5⟩:=hf b' hb
  rcases List.mem_cons.mp (I.stkSub b' z) with e | e
  ·exact f1 e
  ·exact f2 e
 ·obtain ⟨i,e1,e2,e3,e4⟩:=hcap.get j x v h1 h2
  obtain ⟨m0,hn0,hl⟩:=I.loc
  obtain ⟨u,r,l⟩:=hl i x v e1 e2 (by rcases e4 with e4 | e4;exact .inr (.inl e4);exact .inr (.inr e4))
  refine ⟨u,r,?_⟩
  rcases l with ⟨l,_⟩ | ⟨k,c,e,z⟩
  ·have l':X.env.scope.names.lookup x=some NameKind.local:=l
   rcases e4 with e4 | e4<;>(rw [e4] at l';cases l')
  ·refine .inr ⟨?_,?_⟩
   ·show (compEnvC scope cl s.heap.objs.size X.env).kindOf x=some .cell∨(compEnvC scope cl s.heap.objs.size X.env).kindOf x=some .free
    rw [kindOf,e3]
    simp only [Option.map_some]
    split
    ·exact .inl rfl
    ·exact .inr rfl
   ·obtain ⟨c',hc'⟩:=b x (WR e3)
    have:=a x c' hc'
    rw [e] at this
    cases this
    obtain ⟨o,ho,hd⟩:=z
    exact ⟨c,hc',o,keep _ _ ho,hd⟩
 ·obtain ⟨v,o,ho,hd⟩:=I.cell x c (a x c h)
  exact ⟨v,o,keep _ _ ho,hd⟩
 ·have hp':p∈X.pn++pins:=by simpa [cxC] using hp
  obtain ⟨e,n,ne,nf,d⟩:=I.pin p hp'
  refine ⟨keep _ _ e,n,Nat.ne_of_lt (Heap.lt_size e),fun z=>?_,d⟩
  rcases List.mem_cons.mp (I.stkSub p.1 z) with q | q
  ·exact ne q
  ·exact nf q
 ·show (Y6 src σ).length=N'.length
  rw [← hcap.length]
  simp [Y6]
end
end L2
namespace L2
open PySem PySem.Spec PyProof.Rows
section
variable {prog:Program} {w:World} {A:Around} {R:Result→Shared→Prop} {s:Shared}
theorem UH {elt tg iter:Expr} {ifs:List Expr} {scope:Scope} {pos:Pos} {it acc:Value} {env:Env} (J:Nat→Shared→Prop)
  (turn:∀ n s,J n s→wpAny (model prog w) A (pyNext it) (fun r s₁=>match r with
    | none=>R (.ok .next) s₁
    | some v=>wpAny (model prog w) A (letOwnedTupleGo tg it v) (fun _ z₁=>wpAny (model prog w) A (assign tg env v) (fun _ s₂ =>
      wpAny (model prog w) A (forIn ifs true fun c r=>if r=true then do let ok ← isTrue c env (eval c env);pure (ForInStep.yield ok) else pure (ForInStep.yield r))
       (fun ok s₃=>if ok=true then wpAny (model prog w) A (eval elt env) (fun x s₄=>wpAny (model prog w) A (call (.builtin "list.append") [acc,x]) (fun _ s₅=>∃ m,m<n∧J m s₅) (fun _ _=>False) s₄) (fun _ _=>False) s₃
        else ∃ m,m<n∧J m s₃) (fun _ _=>False) s₂) (fun _ _=>False) z₁) (fun _ _=>False) s₁) (fun _ _=>False) s)
  (n:Nat) (h:J n s):codeAny (model prog w) A (.compLoop (.ListComp elt [⟨tg,iter,ifs,0⟩] scope pos) 0 it acc env) R s:=by
 refine codeAny_loop rfl J (fun n s hJ=>?_) n h
 show wpAny _ A (Sem.onRaise (compTurn (.ListComp elt [⟨tg,iter,ifs,0⟩] scope pos) 0 it acc env) (fun x=>do noteFrame x env;theTreesLotGoes x)) _ _ s
 refine wpAny_noted ?_
 rw [compTurn_list]
 have no:∀ {E:Value→Shared→Prop},∀ (e:Value) (s':Shared),False→E e s':=fun _ _ f=>f.elim
 refine wpAny_bind (wpAny_standAt (wpAny_bind (wpAny_mono (turn n s hJ) (fun r s₁ h₁=>?_) no)))
 cases r with
 | none=>exact wpAny_pure h₁
 | some v =>
  refine wpAny_bind (wpAny_mono h₁ (fun _ z₁ hz=>?_) no)
  refine wpAny_bind (wpAny_mono hz (fun _ s₂ h₂=>wpAny_bind (wpAny_mono h₂ (fun ok s₃ h₃=>?_) no)) no)
  cases ok with
  | false=>exact wpAny_pure ⟨rfl,h₃⟩
  | true =>
   exact wpAny_bind (wpAny_bind (wpAny_mono h₃ (fun x s₄ h₄=>wpAny_bind (wpAny_mono h₄ (fun _ s₅ h₅=>wpAny_pure (wpAny_pure ⟨rfl,h₅⟩)) no)) no))
end
def PTs (X:Cx) (ifs:List Expr) (t:TT):Prop :=
 ∀ (pins:List (Addr×Obj)) (s:Shared) (σ:St) (H:Hp) (Q:Bool→Hp→Prop),Inv X pins σ H s→t σ H Q →
  wpAny (model X.prog X.w) X.A (forIn ifs true fun c r=>if r=true then do let ok ← isTrue c X.env (eval c X.env);pure (ForInStep.yield ok) else pure (ForInStep.yield r)) (TP X pins σ Q) X.xe s
def Vk:TT:=fun _ H Q=>Q true H
theorem Xs {X:Cx}:PTs X [] Vk:=fun _ _ _ H _ I h=>wpAny_tests_nil ⟨H,I,h⟩
def LC (src:List (Option Nat)) (J:It) (g:TG) (tt:TT) (te:TE) (σ:St) (H1:Hp) (Q:VK) (D:Addr):Prop:=∃ W:Nat→Nat→List V→St→Hp→Prop,(∃ m,W 0 m [] (Y6 src σ) (upd H1 D (.lst []))) ∧
 ∀ i m ys σ' H2,W i m ys σ' H2→H2 D=some (.lst ys)∧((J.stop i H2∧Q (.ref D) H2)∨(J.go i H2∧∃ N:List V→St→Hp→Prop,(∀ ys' σ3 H3,N ys' σ3 H3→∃ m',m'<m∧W (i+1) m' ys' σ3 H3)∧∀ x H3,J.yld i H2 x H3→g x σ' H3 fun σ2 H4=>tt σ2 H4 fun b H5 =>
  if b=true then te σ2 H5 fun y H6=>H6 D=some (.lst ys)∧ys.length<sizeLine∧N (ys++[y]) σ2 (upd H6 D (.lst (ys++[y])))
  else N ys σ2 H5))
def tLC (src:List (Option Nat)) (wi:TI) (g:TG) (tt:TT) (te:TE):TE:=fun σ H Q=>wi σ H fun J H1=>∀ D,H1 D=none→LC src J g tt te σ H1 Q D
section
variable {X:Cx}
theorem Wj {elt tg iter:Expr} {ifs:List Expr} {scope:Scope} {pos:Pos} {src:List (Option Nat)} {N':List Str} {wi:TI} {g:TG} {tt:TT} {te:TE} (hcap:Cap X scope src N') (hc:X.calm=true) (hi:PI X tg iter wi)
  (hg:∀ cl C s₀ H₀ fp pn,PG (cxC X scope N' cl C s₀ H₀ fp pn) tg g) (ht:∀ cl C s₀ H₀ fp pn,PTs (cxC X scope N' cl C s₀ H₀ fp pn) ifs tt) (he:∀ cl C s₀ H₀ fp pn,PE (cxC X scope N' cl C s₀ H₀ fp pn) elt te)
  (hfree:∀ x,(x,NameKind.free)∈scope.names→X.env.scope.names.lookup x=some NameKind.cell∨X.env.scope.names.lookup x=some NameKind.free)
  (hk:scope.kind = .function) (hcell:∀ y∈scope.names,y.2 ≠ .cell) (hnames:∀ y∈scope.names,y.2 = .local→scope.names.lookup y.1=some .local)
  (hs:∀ x,foldedSetIterable iter X.env x=pure x):PE X (.ListComp elt [⟨tg,iter,ifs,0⟩] scope pos) (tLC src wi g tt te):=by
 intro pins s σ H Q I h
 have no:∀ {E:Value→Shared→Prop},∀ (e:Value) (s':Shared),False→E e s':=fun _ _ f=>f.elim
 obtain ⟨cl,hcl,a,b⟩:=V3 X.env scope fun x hx=>I.ok.has x (hfree x hx)
 rw [eval_ListComp]
 refine wpAny_comprehension_free (use:=none) rfl hs hcl hk hnames (thn (hi pins s σ H _ I h) fun v s1 h1=>thn h1 fun itv s2 h2=>?_)
 obtain ⟨it,fp,tn,J,H2,e,I2,T,st2,f2,q⟩:=h2
 subst e
 have hD:H2 s2.heap.objs.size=none:=I2.hok.fresh (Nat.le_refl _)
 obtain ⟨W,⟨m0,w0⟩,turn⟩:=q s2.heap.objs.size hD
 have I3:=I2.lnew (t':=s2.toks) (ys:=[]) (its:=[]) .nil (Nat.zero_le _)
 have fl2:∀ b∈fp,b<s2.heap.objs.size:=fun b hb=>by
  obtain ⟨o,e,_⟩:=T.obj _ _ st2 b hb
  exact Heap.lt_size e
 refine wpAny_newObj_type ?_
 generalize es3:({ s2 with heap:=s2.heap.push { cls := .type "list",dict:=none,data := .seq ([]:List Value).toArray } }:Shared)=s3
 have I3':Inv X pins σ (upd H2 s2.heap.objs.size (.lst [])) s3:=es3▸I3
 have keep3:∀ b o,s2.heap.get? b=some o→s3.heap.get? b=some o:=fun b o e=>by rw [← es3];exact Heap.get?_push_of_some _ e
 have st3:tn 0 s3.heap:=T.keep _ _ _ st2 fun b _ o e=>keep3 b o e
 have fl3:∀ b∈fp,b<s3.heap.objs.size:=fun b hb=>by
  obtain ⟨o,e,_⟩:=T.obj _ _ st3 b hb
  exact Heap.lt_size e
 have f3:∀ b∈fp,X1 X pins (upd H2 s2.heap.objs.size (.lst [])) b:=fun b hb=>⟨by rw [Yd (Nat.ne_of_lt (fl2 b hb))];exact (f2 b hb).1,(f2 b hb).2⟩
 generalize eD:s2.heap.objs.size=D at *
 generalize eH3:upd H2 D (.lst [])=H3 at *
 refine wpAny_newFunctionEnv hcell (by intro y hy;simp at hy) (fun h₁ hns₁ hsb₁=>?_) hk
 have keep4:∀ b o,s3.heap.get? b=some o→h₁.get? b=some o:=fun b o e=>hsb₁.extBut b o (Nat.ne_of_lt (Heap.lt_size e)) (Heap.get?_push_of_some _ e)
 have I4:=Qs (N':=N') (src:=src) (tk:=s3.toks+([]:List (Str×Value)).length) hk hcell hcap a b I3' f3 fl3 rfl keep4 hns₁
 -- the iterator's objects,through the block
 have stat:∀ {H':Hp},(∀ b∈fp,H' b=none)→∀ b∈fp,X1 (cxC X scope N' cl s3.heap.objs.size s3 H3 fp (X.pn++pins)) [] H' b:=fun hn b' hb=>by
  obtain ⟨f0,f1,fs,fe,f4,f5⟩:=f3 b' hb
  refine ⟨hn b' hb,Nat.ne_of_lt (fl3 b' hb),fun z=>?_,.inl hb,fun x c h=>f4 x c (a x c h),fun p hp=>f5 p (by simpa [cxC] using hp)⟩
  rcases List.mem_cons.mp (I3'.stkSub b' z) with e | e
  ·exact f1 e
  ·exact fs e
 -- behind the block
 have fin:∀ {H':Hp} {s':Shared} {σ':St} {pins':List (Addr×Obj)},Inv (cxC X scope N' cl s3.heap.objs.size s3 H3 fp (X.pn++pins)) pins' σ' H' s'→∀ h',Heap.SameBut s3.heap.objs.size s'.heap h'→Inv X pins σ H' { s' with heap:=h' }:=fun {H' s' σ' pins'} J' h' sb=>by
  have same:∀ b o,b≠s3.heap.objs.size→s'.heap.get? b=some o→h'.get? b=some o:=fun b o hb e=>sb.extBut b o hb e
  have u:Un (frs X.stack) fp H3 H' s3.heap s'.heap:=J'.base
  refine I3'.call' (s':={ s' with heap:=h' }) (ch:=fp) J'.os ⟨fun b o e n hb hx=>?_,fun b o e n hb hx=>?_,u.free,fun b o e hx=>?_,u.tups,u.frzs,u.tbls⟩ (fun b o e=>?_) J'.bare fun b hb=>?_
  ·exact same b o (Nat.ne_of_lt (Heap.lt_size e)) (u.keep b o e n hb hx)
  ·obtain ⟨sl,z⟩:=u.slot b o e n hb hx
   exact ⟨sl,same b _ (Nat.ne_of_lt (Heap.lt_size e)) z⟩
  ·obtain ⟨o',z⟩:=u.there b o e hx
   exact ⟨o',same b o' (Nat.ne_of_lt (Heap.lt_size e)) z⟩
  ·have nC:∀ c v,H' c=some v→c≠s3.heap.objs.size:=fun c v z q=>by
    have:=J'.free
    rw [show (cxC X scope N' cl s3.heap.objs.size s3 H3 fp (X.pn++pins)).env.locals=s3.heap.objs.size from rfl,← q,z] at this
    cases this
   refine (J'.hok b o e).stay (fun c v hc q=>same c v ?_ q) (fun _ q=>q) fun _ _ q=>q
   rcases hc with z | z
   ·rw [z];exact nC b o e
   ·exact nC c _ z
  ·obtain ⟨f0,f1,fs,fe,f4,f5⟩:=f3 b hb
   exact ⟨fe,f1,f4,f5⟩
 have loop:codeAny (model X.prog X.w) X.A (.compLoop (.ListComp elt [⟨tg,iter,ifs,0⟩] scope pos) 0 (.ref it) (.ref D) (compEnvC scope cl s3.heap.objs.size X.env))
   (compPost (model X.prog X.w) X.A X.xe none (EP X pins σ Q) (.ref D) s3.heap.objs.size) { s3 with heap:=h₁,toks:=s3.toks+([]:List (Str×Value)).length }:=by
  refine UH (fun n s'=>∃ i ys σ' H',Inv (cxC X scope N' cl s3.heap.objs.size s3 H3 fp (X.pn++pins)) [] σ' H' s'∧tn i s'.heap∧(∀ b∈fp,H' b=none)∧W i n ys σ' H') ?_ m0 ⟨0,[],Y6 src σ,H3,I4,T.keep _ _ _ st3 fun b _ o e=>keep4 b o e,fun b hb=>(f3 b hb).1,w0⟩
  rintro n s5 ⟨i,ys,σ5,H5,I5,st5,fr5,w5⟩
  obtain ⟨hDs,stop | go⟩:=turn i n ys σ5 H5 w5
  ·obtain ⟨stop,qn⟩:=stop
   refine thn (T.done (cxC X scope N' cl s3.heap.objs.size s3 H3 fp (X.pn++pins)) rfl rfl rfl hc i [] s5 σ5 H5 _ I5 (stat fr5) st5 stop) fun r s6 ⟨hr,I6⟩=>?_
   subst hr
   obtain ⟨m,hn,_⟩:=id I6.loc
   exact ⟨m,hn,fun h' sb=>⟨.ref D,H5,fin I6 h' sb,rfl,qn⟩⟩
  ·obtain ⟨go,N,hN,step⟩:=go
   refine thn (T.item (cxC X scope N' cl s3.heap.objs.size s3 H3 fp (X.pn++pins)) rfl rfl rfl hc i [] s5 σ5 H5 _ I5 (stat fr5) st5 go) fun r s6 ⟨u,hr,h6⟩=>?_
   subst hr
   refine thn h6 fun _ s7 ⟨x,H7,I7,r7,y7,st7,fr7⟩=>?_
   have I7':=I7.pinned (stat fr7) (T.obj _ _ st7)
   have again:∀ {s8:Shared} {σ8:St} {H8:Hp} {ys':List V},Inv (cxC X scope N' cl s3.heap.objs.size s3 H3 fp (X.pn++pins)) ([]++W5 fp s7.heap) σ8 H8 s8→(∃ m',m'<n∧W (i+1) m' ys' σ8 H8) →
     ∃ m,m<n∧∃ i ys σ' H',Inv (cxC X scope N' cl s3.heap.objs.size s3 H3 fp (X.pn++pins)) [] σ' H' s8∧tn i s8.heap∧(∀ b∈fp,H' b=none)∧W i m ys σ' H':=fun {s8 σ8 H8 ys'} I8 ⟨m',hm,w8⟩=>by
    refine ⟨m',hm,i+1,ys',σ8,H8,I8.unpinned,T.keep _ _ _ st7 fun b hb o e=>(I8.pin (b,o) (List.mem_append_right _ (List.mem_append_right _ (XG hb e)))).1,fun b hb=>?_,w8⟩
    obtain ⟨o,e,d⟩:=T.obj _ _ st7 b hb
    exact (I8.pin (b,o) (List.mem_append_right _ (List.mem_append_right _ (XG hb e)))).2.1
   refine thn (hg cl _ s3 H3 fp _ _ s7 σ5 H7 x u _ I7' r7 (step x H7 y7)) fun _ s8 ⟨σ8,H8,I8,q8⟩=>?_
   refine thn (ht cl _ s3 H3 fp _ _ s8 σ8 H8 _ I8 q8) fun ok s9 ⟨H9,I9,q9⟩=>?_
   cases ok with
   | false=>exact again I9 (hN _ _ _ q9)
   | true =>
    rw [if_pos rfl]
    refine thn (he cl _ s3 H3 fp _ _ s9 σ8 H9 _ I9 q9) fun y s10 ⟨yv,H10,I10,r10,q10⟩=>?_
    obtain ⟨hDy,hlen,w10⟩:=q10
    refine thn (Y5 (X:=cxC X scope N' cl s3.heap.objs.size s3 H3 fp (X.pn++pins)) _ s10 σ8 H10 (.ref D) [yv] (.ref D) [y] (fun _ H'=>H'=upd H10 D (.lst (ys++[yv]))) I10 rfl (.cons r10 .nil) ⟨D,ys,yv,rfl,rfl,hDy,hlen,rfl⟩) fun _ s11 ⟨_,H11,I11,_,e11⟩=>?_
    subst e11
    exact again I11 (hN _ _ _ w10)
 exact codeAny_compStart_list loop (T.self _ 0 _ _ _ (T.keep _ _ _ st3 fun b _ o e=>keep4 b o e) loop)
end
end L2
namespace L2
open PySem PySem.Spec PyProof.Rows
section
variable {X:Cx}
end
end L2
namespace L2
open PySem PySem.Spec PyProof.Rows
section
variable {X:Cx} {tg:Expr}
def WS (J:It) (P:Hp→Prop) (xs:List V):Prop:=∀ H,P H→∀ i,(∀ x,xs[i]?=some x→J.go i H∧∀ y H',J.yld i H y H'→H'=H∧y=x)∧(xs.length≤i→J.stop i H)
theorem YbV {K:PySem.W.Frag} {a:Addr} {xs:List V}:WS (Itt K a) (fun H=>SqT K H a xs) xs:=fun H hq i=>by
 refine ⟨fun x hx=>⟨⟨xs,x,hq,hx⟩,fun y H' ⟨e1,e2⟩=>⟨e1,?_⟩⟩,fun hi=>⟨xs,hq,hi⟩⟩
 have:=e2 xs hq
 rw [hx] at this
 exact (Option.some.inj this).symm
theorem Vl {K:PySem.W.Frag} {a:Addr} {xs:List V}:WS (Itl K a) (fun H=>SqL K H a xs) xs:=fun H hq i=>by
 refine ⟨fun x hx=>⟨⟨xs,x,hq,hx⟩,fun y H' ⟨e1,e2⟩=>⟨e1,?_⟩⟩,fun hi=>⟨xs,hq,hi⟩⟩
 have:=e2 xs hq
 rw [hx] at this
 exact (Option.some.inj this).symm
theorem Q0 {lo:Int} {n:Nat} {P:Hp→Prop}:WS (Itr lo n) P ((List.range n).map fun (i:Nat)=>V.int (lo+i)):=fun H hq i=>by
 refine ⟨fun x hx=>?_,fun hi=>by show n≤i;simpa using hi⟩
 have hi:i<n:=by
  have:=(List.getElem?_eq_some_iff.mp hx).1
  simpa using this
 refine ⟨hi,fun y H' ⟨e1,e2⟩=>⟨e1,?_⟩⟩
 rw [List.getElem?_map,List.getElem?_range hi] at hx
 rw [e2]
 simpa using hx
theorem WS.imp {J:It} {P P':Hp→Prop} {xs:List V} (h:WS J P xs) (hp:∀ H,P' H→P H):WS J P' xs:=fun H q=>h H (hp H q)
theorem lc_by {J:It} {P:Hp→Prop} {xs:List V} (hJ:WS J P xs) {src:List (Option Nat)} {g:TG} {tt:TT} {te:TE} {σ:St} {H1:Hp} {Q:VK} {D:Addr} (Pv:Nat→List V→St→Hp→Prop)
  (h0:Pv 0 [] (Y6 src σ) (upd H1 D (.lst []))) (hP:∀ i ys σ' H',Pv i ys σ' H'→P H'∧H' D=some (.lst ys))
  (step:∀ i ys σ' H' x,xs[i]?=some x→Pv i ys σ' H'→g x σ' H' fun σ2 H4=>tt σ2 H4 fun b H5=>if b=true then te σ2 H5 fun y H6=>H6 D=some (.lst ys)∧ys.length<sizeLine∧Pv (i+1) (ys++[y]) σ2 (upd H6 D (.lst (ys++[y]))) else Pv (i+1) ys σ2 H5)
  (fin:∀ ys σ' H',Pv xs.length ys σ' H'→Q (.ref D) H') :
  LC src J g tt te σ H1 Q D:=by
 refine ⟨fun i m ys σ' H'=>m=xs.length - i∧i≤xs.length∧Pv i ys σ' H',⟨xs.length,by simp,Nat.zero_le _,h0⟩,?_⟩
 rintro i m ys σ' H2 ⟨rfl,hi,p⟩
 obtain ⟨hp,hD⟩:=hP i ys σ' H2 p
 refine ⟨hD,?_⟩
 by_cases hlt:i<xs.length
 ·obtain ⟨go,yl⟩:=(hJ H2 hp i).1 xs[i] (by simp [hlt])
  refine .inr ⟨go,fun ys' σ3 H3=>Pv (i+1) ys' σ3 H3,fun ys' σ3 H3 p'=>⟨xs.length - (i+1),by omega,rfl,hlt,p'⟩,fun x H3 y=>?_⟩
  obtain ⟨e1,e2⟩:=yl x H3 y
  subst e1 e2
  exact step i ys σ' _ _ (by simp [hlt]) p
 ·have e:i=xs.length:=by omega
  subst e
  exact .inl ⟨(hJ H2 hp _).2 (Nat.le_refl _),fin ys σ' H2 p⟩
theorem Yq.upd_new {H:Hp} {p:Addr} (h:H p=none) (o:HO):Yq H (upd H p o):=fun b u q=>by rw [Yd (Yk q h)];exact q
theorem Yq.upd_over {H H':Hp} {p:Addr} (h:H p=none) (e:Yq H H') (o:HO):Yq H (upd H' p o):=fun b u q=>by rw [Yd (Yk q h)];exact e b u q
theorem Yq.tup {K:PySem.W.Frag} {H H':Hp} {a:Addr} {xs:List V} (e:Yq H H') (h:SqT K H a xs):SqT K H' a xs:=by
 rcases h with (h | ⟨o,h⟩) | h
 ·exact .inl (.inl (e _ _ h))
 ·exact .inl (.inr ⟨o,e _ _ h⟩)
 ·exact .inr h
end
section
variable {X:Cx}
theorem Yam:∀ {ys:List Str} {us:List Value},Ys (ys.map V.str) us→StrsAre us ys
 | [],_,h=>by rw [Ys.zero h];exact .nil
 | y::ys,us,h=>by
  have h':Ys (V.str y::ys.map V.str) us:=h
  cases h' with
  | cons r t=>obtain ⟨t',rfl⟩:=r;exact .cons y t' (Yam t)
def rJoin (K:PySem.W.Frag):V→List V→Hp→VK→Prop:=fun x vs H Q=>∃ (z:Str) (p:Addr) (ys:List Str),x = .str z∧vs=[.ref p]∧SqL K H p (ys.map V.str)∧(ys.map (·.length)).sum+ys.length*z.length≤16777216∧Q (.str (Txt.join z ys)) H
theorem Ydn:MtR X "str.join" (rJoin X.K):=by
 intro pins s σ H x vs v us Q I rx rv h
 obtain ⟨z,p,ys,rfl,rfl,hq,hl,q⟩:=h
 obtain ⟨t,rfl⟩:=rx
 obtain ⟨u,rfl,ru⟩:=rv.one
 cases ru
 obtain ⟨its,r,pl,hz⟩:=I.list hq
 exact join_list pl.isList (by simpa using Yam r) hl fun t' k=>⟨.str _,H,I.tok k,⟨t',rfl⟩,q⟩
def YaZ:V→Option Value
 | .ty n=>some (.type n)
 | .ref a=>some (.ref a)
 | _=>none
theorem W0:Wh X (.builtin "isinstance") (fun xs H Q=>∃ x c cv t b,xs=[x,c]∧YaZ c=some cv∧TyOf X.K H x t∧PySem.W.kitOne X.K t cv=some b∧Q (.bl b) H):=by
 intro pins s σ H xs us Q I r h
 obtain ⟨x,c,cv,t,b,rfl,ec,ty,e,q⟩:=h
 obtain ⟨u,w',rfl,ru,rw'⟩:=YaQ r
 have ew:w'=cv:=by
  cases c with
  | ty n=>cases (show w'=Value.type n from rw');simpa [YaZ] using ec
  | ref a=>cases (show w'=Value.ref a from rw');simpa [YaZ] using ec
  | _=>simp [YaZ] at ec
 subst ew
 exact YbN I ru ty e fun tk=>⟨.bl b,H,I.tok tk,rfl,q⟩
end
end L2
namespace L2
open PySem PySem.Spec PyProof.Rows
structure Sub (P:Program) (w:World) (i:Addr) (St:Nat→Heap→Prop) (YZ:Heap→(Nat→Option Value)→Prop):Prop where
 obj:∀ k h,St k h→∃ o,h.get? i=some o∧∀ v,o.data ≠ .cell v
 keep:∀ k h h',St k h→(∀ o,h.get? i=some o→h'.get? i=some o)→St k h'
 item:∀ (A:Around) (k:Nat) (s:Shared) (get:Nat→Option Value) (x:Value) (Q:Value→Shared→Prop) (E:Value→Shared→Prop),St k s.heap→YZ s.heap get→get k=some x →
  (∀ h' tk,St (k+1) h'→Heap.SameBut i s.heap h'→Q x { s with heap:=h',toks:=tk })→wpAny (model P w) A (Builtin.SmallTypes.nextOf (.ref i)) Q E s
 fin:∀ (A:Around) (k:Nat) (s:Shared) (get:Nat→Option Value) (Q:Value→Shared→Prop) (E:Value→Shared→Prop),A.handled=none→St k s.heap→YZ s.heap get→get k=none →
  (∀ h' e,Heap.ExtBut i s.heap h'→(∃ o,h'.get? e=some o∧o.cls = .type "StopIteration")→E (.ref e) { s with heap:=h' })→wpAny (model P w) A (Builtin.SmallTypes.nextOf (.ref i)) Q E s
section
variable {prog:Program} {w:World} {A:Around} {E:Value→Shared→Prop} {s:Shared}
end
theorem Yct {P:Program} {w:World} (i t:Addr):Sub P w i (fun k h=>h.IsListIter i t k) (fun h get=>∃ items:Array Value,h.IsList t items∧∀ k,get k=items[k]?) where
 obj:=fun k h ⟨o,e,c,d⟩=>⟨o,e,fun v z=>by rw [d] at z;cases z⟩
 keep:=fun k h h' st q=>st.at q
 item:=fun A k s get x Q E st ⟨items,ht,hg⟩ hx hQ=>wpAny_nextOf_list_item st ht ((hg k).symm.trans hx) fun h' st' sb=>hQ h' s.toks st' sb
 fin:=fun A k s get Q E hh st ⟨items,ht,hg⟩ hx hE=>wpAny_nextOf_list_end hh st ht ((hg k).symm.trans hx) hE
structure ZApart (z TI TO i1 i2:Addr):Prop where
 a:TI≠z
 b:TO≠z
 c:i1≠z
 d:i2≠z
 e:TI≠TO
 f:TI≠i1
 g:TI≠i2
 h:TO≠i1
 i:TO≠i2
 j:i1≠i2
section
variable {prog:Program} {w:World} {A:Around} {E:Value→Shared→Prop} {s:Shared} {z TI TO i1 i2:Addr} {S1 S2:Nat→Heap→Prop} {R1 R2:Heap→(Nat→Option Value)→Prop} {g1 g2:Nat→Option Value} {k:Nat} {a b:Value}
theorem Ycu {x y:Value} {Q:Option Value→Shared→Prop} (D:ZApart z TI TO i1 i2) (U1:Sub prog w i1 S1 R1) (U2:Sub prog w i2 S2 R2)
  (k1:∀ h h' g,R1 h g→(∀ c o,c≠z→c≠TO→c≠i1→c≠i2→h.get? c=some o→h'.get? c=some o)→R1 h' g) (k2:∀ h h' g,R2 h g→(∀ c o,c≠z→c≠TO→c≠i1→c≠i2→h.get? c=some o→h'.get? c=some o)→R2 h' g)
  (hz:IsZip s.heap z TI TO .none) (hTI:IsPair s.heap TI (.ref i1) (.ref i2)) (hTO:IsPair s.heap TO a b) (h1:S1 k s.heap) (h2:S2 k s.heap) (r1:R1 s.heap g1) (r2:R2 s.heap g2) (hx:g1 k=some x) (hy:g2 k=some y)
  (hQ:∀ h' tk,IsZip h' z TI TO (rawInt s.heap.objs.size)→IsPair h' TO x y→S1 (k+1) h'→S2 (k+1) h'→IsPair h' s.heap.objs.size x y→h'.objs.size=s.heap.objs.size+1 →
   (∀ c o,c≠z→c≠TO→c≠i1→c≠i2→s.heap.get? c=some o→h'.get? c=some o)→Q (some (.ref s.heap.objs.size)) { s with heap:=h',toks:=tk }) :
  wpAny (model prog w) A (pyNext (.ref z)) Q E s:=by
 have hT:s.TypeIs (.ref z) "zip":=⟨_,hz,rfl⟩
 unfold pyNext
 refine wpAny_bind (wpAny_attempt (wpAny_callSpecial?_slot (name:=Str.ofString "__next__") hT F.slot_zip_next (wpAny_call_entry F.slot_zip_next hT F.entry_zip_next ?_ (F.args_zip_next_1 _))))
 show wpAny _ _ (field (.ref z) 2 >>= _) _ _ _
 refine wpAny_bind (wpAny_field hz rfl (x := .bool false) rfl ?_)
 show wpAny _ _ (field (.ref z) 3 >>= _) _ _ _
 refine wpAny_bind (wpAny_field hz rfl (x := .ref TI) rfl ?_)
 refine wpAny_bind (wpAny_seqItems hTI rfl ?_)
 show wpAny _ _ (Builtin.SmallTypes.ownedTupleIsFree (.ref z) >>= _) _ _ _
 refine wpAny_bind ?_
 unfold Builtin.SmallTypes.ownedTupleIsFree
 refine wpAny_bind (wpAny_field hz rfl (x := .none) rfl (wpAny_pure ?_))
 simp only [if_true]
 refine wpAny_bind (wpAny_rule ?_)
 refine wpAny_bind (wpAny_field hz rfl (x := .ref TO) rfl ?_)
 refine wpAny_bind (wpAny_setField_rec hz (by simp) fun h₁ hz₁ hs₁=>?_)
 replace hz₁:IsZip h₁ z TI TO .ellipsis:=hz₁
 refine wpAny_bind ?_
 simp only [List.zipIdx_cons,List.zipIdx_nil,List.forIn_cons,List.forIn_nil]
 refine wpAny_bind (wpAny_bind (wpAny_onRaise ?_))
 show wpAny _ _ (Builtin.SmallTypes.nextOf (.ref i1) >>= _) _ _ _
 have S1₁:S1 k h₁:=U1.keep _ _ _ h1 fun o e=>hs₁.extBut _ _ D.c e
 have R1₁:R1 h₁ g1:=k1 _ _ _ r1 fun c o c1 _ _ _ e=>hs₁.extBut _ _ c1 e
 refine wpAny_bind (U1.item _ k { s with heap:=h₁ } g1 x _ _ S1₁ R1₁ hx fun h₂ tk₂ S1₂ hs₂=>wpAny_pure ?_)
 have hTO₂:IsPair h₂ TO a b:=hs₂.extBut _ _ D.h (hs₁.extBut _ _ D.b hTO)
 refine wpAny_bind (wpAny_seqItems hTO₂ rfl ?_)
 refine wpAny_bind (wpAny_updateSeq_pair hTO₂ fun h₃ hTO₃ hs₃=>?_)
 replace hTO₃:IsPair h₃ TO x b:=hTO₃
 refine wpAny_bind (wpAny_letGo (wpAny_pure ?_))
 refine wpAny_bind (wpAny_bind (wpAny_onRaise ?_))
 show wpAny _ _ (Builtin.SmallTypes.nextOf (.ref i2) >>= _) _ _ _
 have kk₃:∀ c o,c≠z→c≠TO→c≠i1→c≠i2→s.heap.get? c=some o→h₃.get? c=some o:=fun c o c1 c2 c3 c4 e=>hs₃.extBut _ _ c2 (hs₂.extBut _ _ c3 (hs₁.extBut _ _ c1 e))
 have S2₃:S2 k h₃:=U2.keep _ _ _ h2 fun o e=>hs₃.extBut _ _ D.i.symm (hs₂.extBut _ _ D.j.symm (hs₁.extBut _ _ D.d e))
 refine wpAny_bind (U2.item _ k { s with heap:=h₃,toks:=tk₂ } g2 y _ _ S2₃ (k2 _ _ _ r2 kk₃) hy fun h₄ tk₄ S2₄ hs₄=>wpAny_pure ?_)
 have hTO₄:IsPair h₄ TO x b:=hs₄.extBut _ _ D.i hTO₃
 refine wpAny_bind (wpAny_seqItems hTO₄ rfl ?_)
 refine wpAny_bind (wpAny_updateSeq_pair hTO₄ fun h₅ hTO₅ hs₅=>?_)
 replace hTO₅:IsPair h₅ TO x y:=hTO₅
 refine wpAny_bind (wpAny_letGo (wpAny_pure (wpAny_pure ?_)))
 refine wpAny_bind (wpAny_seqItems hTO₅ rfl ?_)
 refine wpAny_bind (wpAny_newTuple ?_)
 have hsz:h₅.objs.size=s.heap.objs.size:=by rw [hs₅.1,hs₄.1,hs₃.1,hs₂.1,hs₁.1]
 have hz₅:IsZip h₅ z TI TO .ellipsis:=hs₅.extBut _ _ D.b.symm (hs₄.extBut _ _ D.d.symm (hs₃.extBut _ _ D.b.symm (hs₂.extBut _ _ D.c.symm hz₁)))
 have hk₅:∀ c o,c≠z→c≠TO→c≠i1→c≠i2→s.heap.get? c=some o→h₅.get? c=some o:=fun c o c1 c2 c3 c4 e=>hs₅.extBut _ _ c2 (hs₄.extBut _ _ c4 (kk₃ c o c1 c2 c3 c4 e))
 have S1₅:S1 (k+1) h₅:=U1.keep _ _ _ S1₂ fun o e=>hs₅.extBut _ _ D.h.symm (hs₄.extBut _ _ D.j (hs₃.extBut _ _ D.h.symm e))
 have S2₅:S2 (k+1) h₅:=U2.keep _ _ _ S2₄ fun o e=>hs₅.extBut _ _ D.i.symm e
 have hzlt:z<h₅.objs.size:=Heap.lt_size hz₅
 show wpAny _ _ (Builtin.SmallTypes.ownedTupleHandOut (.ref z) (.ref h₅.objs.size) >>= _) _ _ _
 refine wpAny_bind ?_
 unfold Builtin.SmallTypes.ownedTupleHandOut
 have hz₆:IsZip (h₅.push { cls := .type "tuple",data := .seq #[x,y] }) z TI TO .ellipsis:=Heap.get?_push_of_some _ hz₅
 refine wpAny_bind (wpAny_setField_rec hz₆ (by simp) fun h₇ hz₇ hs₇=>?_)
 replace hz₇:IsZip h₇ z TI TO (rawInt h₅.objs.size):=hz₇
 refine wpAny_setField_rec hz₇ (by simp) fun h₈ hz₈ hs₈=>?_
 replace hz₈:IsZip h₈ z TI TO (rawInt h₅.objs.size):=hz₈
 have up:∀ c o,c≠z→h₅.get? c=some o→h₈.get? c=some o:=fun c o c1 e=>hs₈.extBut _ _ c1 (hs₇.extBut _ _ c1 (Heap.get?_push_of_some _ e))
 have hT₈:IsPair h₈ h₅.objs.size x y:=hs₈.extBut _ _ (Nat.ne_of_gt hzlt) (hs₇.extBut _ _ (Nat.ne_of_gt hzlt) (Heap.get?_push_size _ rfl))
 have hz8:h₈.objs.size=h₅.objs.size+1:=by rw [hs₈.1,hs₇.1,Heap.size_push]
 rw [hsz] at hz₈ hT₈ hz8
 refine wpAny_pure ⟨_,rfl,wpAny_pure ?_⟩
 show Q (some (.ref h₅.objs.size)) _
 rw [hsz]
 exact hQ h₈ tk₄ hz₈ (up _ _ D.b hTO₅) (U1.keep _ _ _ S1₅ fun o e=>up _ o D.c e) (U2.keep _ _ _ S2₅ fun o e=>up _ o D.d e) hT₈ hz8 fun c o c1 c2 c3 c4 e=>up c o c1 (hk₅ c o c1 c2 c3 c4 e)
theorem Ydo {Q:Option Value→Shared→Prop} (hh:A.handled=none) (D:ZApart z TI TO i1 i2) (U1:Sub prog w i1 S1 R1) (U2:Sub prog w i2 S2 R2)
  (k1:∀ h h' g,R1 h g→(∀ c o,c≠z→c≠TO→c≠i1→c≠i2→h.get? c=some o→h'.get? c=some o)→R1 h' g) (k2:∀ h h' g,R2 h g→(∀ c o,c≠z→c≠TO→c≠i1→c≠i2→h.get? c=some o→h'.get? c=some o)→R2 h' g)
  (hz:IsZip s.heap z TI TO .none) (hTI:IsPair s.heap TI (.ref i1) (.ref i2)) (hTO:IsPair s.heap TO a b) (h1:S1 k s.heap) (h2:S2 k s.heap) (r1:R1 s.heap g1) (r2:R2 s.heap g2) (hend:g1 k=none∨g2 k=none)
  (hQ:∀ h' tk,(∀ c o,c≠z→c≠TO→c≠i1→c≠i2→s.heap.get? c=some o→h'.get? c=some o)→Q none { s with heap:=h',toks:=tk }):wpAny (model prog w) A (pyNext (.ref z)) Q E s:=by
 have hT:s.TypeIs (.ref z) "zip":=⟨_,hz,rfl⟩
 unfold pyNext
 refine wpAny_bind (wpAny_attempt (wpAny_callSpecial?_slot (name:=Str.ofString "__next__") hT F.slot_zip_next (wpAny_call_entry F.slot_zip_next hT F.entry_zip_next ?_ (F.args_zip_next_1 _))))
 show wpAny _ _ (field (.ref z) 2 >>= _) _ _ _
 refine wpAny_bind (wpAny_field hz rfl (x := .bool false) rfl ?_)
 show wpAny _ _ (field (.ref z) 3 >>= _) _ _ _
 refine wpAny_bind (wpAny_field hz rfl (x := .ref TI) rfl ?_)
 refine wpAny_bind (wpAny_seqItems hTI rfl ?_)
 show wpAny _ _ (Builtin.SmallTypes.ownedTupleIsFree (.ref z) >>= _) _ _ _
 refine wpAny_bind ?_
 unfold Builtin.SmallTypes.ownedTupleIsFree
 refine wpAny_bind (wpAny_field hz rfl (x := .none) rfl (wpAny_pure ?_))
 simp only [if_true]
 refine wpAny_bind (wpAny_rule ?_)
 refine wpAny_bind (wpAny_field hz rfl (x := .ref TO) rfl ?_)
 refine wpAny_bind (wpAny_setField_rec hz (by simp) fun h₁ hz₁ hs₁=>?_)
 replace hz₁:IsZip h₁ z TI TO .ellipsis:=hz₁
 refine wpAny_bind ?_
 simp only [List.zipIdx_cons,List.zipIdx_nil,List.forIn_cons,List.forIn_nil]
 refine wpAny_bind (wpAny_bind (wpAny_onRaise ?_))
 show wpAny _ _ (Builtin.SmallTypes.nextOf (.ref i1) >>= _) _ _ _
 have S1₁:S1 k h₁:=U1.keep _ _ _ h1 fun o e=>hs₁.extBut _ _ D.c e
 have R1₁:R1 h₁ g1:=k1 _ _ _ r1 fun c o c1 _ _ _ e=>hs₁.extBut _ _ c1 e
 cases hx:g1 k with
 | none =>
  refine wpAny_bind (U1.fin _ k { s with heap:=h₁ } g1 _ _ hh S1₁ R1₁ hx fun h₂ e hs₂ he=>?_)
  obtain ⟨oe,hoe,hce⟩:=he
  have hz₂:IsZip h₂ z TI TO .ellipsis:=hs₂ _ _ D.c.symm hz₁
  have hez:e≠z:=fun x=>by subst x;rw [hz₂] at hoe;cases hoe;simp at hce
  refine wpAny_setField_rec hz₂ (by simp) fun h₃ _ hs₃=>?_
  refine wpAny_bind (wpAny_isInstance (T:="StopIteration") (b:=true) ⟨oe,hs₃.extBut _ _ hez hoe,hce⟩ isSubtype_stop ?_)
  exact wpAny_pure (hQ h₃ s.toks fun c o c1 _ c3 _ x=>hs₃.extBut _ _ c1 (hs₂ _ _ c3 (hs₁.extBut _ _ c1 x)))
 | some x =>
  have hy:g2 k=none:=by rcases hend with h | h;rw [hx] at h;cases h;exact h
  refine wpAny_bind (U1.item _ k { s with heap:=h₁ } g1 x _ _ S1₁ R1₁ hx fun h₂ tk₂ S1₂ hs₂=>wpAny_pure ?_)
  have hTO₂:IsPair h₂ TO a b:=hs₂.extBut _ _ D.h (hs₁.extBut _ _ D.b hTO)
  refine wpAny_bind (wpAny_seqItems hTO₂ rfl ?_)
  refine wpAny_bind (wpAny_updateSeq_pair hTO₂ fun h₃ hTO₃ hs₃=>?_)
  refine wpAny_bind (wpAny_letGo (wpAny_pure ?_))
  refine wpAny_bind (wpAny_bind (wpAny_onRaise ?_))
  show wpAny _ _ (Builtin.SmallTypes.nextOf (.ref i2) >>= _) _ _ _
  have kk₃:∀ c o,c≠z→c≠TO→c≠i1→c≠i2→s.heap.get? c=some o→h₃.get? c=some o:=fun c o c1 c2 c3 c4 e=>hs₃.extBut _ _ c2 (hs₂.extBut _ _ c3 (hs₁.extBut _ _ c1 e))
  have S2₃:S2 k h₃:=U2.keep _ _ _ h2 fun o e=>hs₃.extBut _ _ D.i.symm (hs₂.extBut _ _ D.j.symm (hs₁.extBut _ _ D.d e))
  refine wpAny_bind (U2.fin _ k { s with heap:=h₃,toks:=tk₂ } g2 _ _ hh S2₃ (k2 _ _ _ r2 kk₃) hy fun h₄ e hs₄ he=>?_)
  obtain ⟨oe,hoe,hce⟩:=he
  have hz₄:IsZip h₄ z TI TO .ellipsis:=hs₄ _ _ D.d.symm (hs₃.extBut _ _ D.b.symm (hs₂.extBut _ _ D.c.symm hz₁))
  have hez:e≠z:=fun x=>by subst x;rw [hz₄] at hoe;cases hoe;simp at hce
  refine wpAny_setField_rec hz₄ (by simp) fun h₅ _ hs₅=>?_
  refine wpAny_bind (wpAny_isInstance (T:="StopIteration") (b:=true) ⟨oe,hs₅.extBut _ _ hez hoe,hce⟩ isSubtype_stop ?_)
  exact wpAny_pure (hQ h₅ tk₂ fun c o c1 c2 c3 c4 x=>hs₅.extBut _ _ c1 (hs₄ _ _ c4 (kk₃ c o c1 c2 c3 c4 x)))
end
end L2
namespace L2
open PySem PySem.Spec PyProof.Rows
abbrev zpH (h:Heap) (o1 o2:Obj):Heap:=((h.push o1).push o2)
abbrev zpT (h:Heap) (o1 o2:Obj):Heap:=(zpH h o1 o2).push { cls := .type "tuple",data := .seq #[.ref h.objs.size,.ref (h.push o1).objs.size] }
abbrev zpO (h:Heap) (o1 o2:Obj):Heap:=(zpT h o1 o2).push { cls := .type "tuple",data := .seq #[.none,.none] }
abbrev zpZ (h:Heap) (o1 o2:Obj):Heap:=(zpO h o1 o2).push { cls := .type "zip",data := .fields #[.none,.bool false,.bool false,.ref (zpH h o1 o2).objs.size,.ref (zpT h o1 o2).objs.size] }
def Wp (h:Heap) (v:Value) (o:Obj):Prop:=∀ (prog:Program) (w:World) (A:Around) (E:Value→Shared→Prop) (s:Shared) (Q:Value→Shared→Prop),(∀ b ob,h.get? b=some ob→s.heap.get? b=some ob) →
 Q (.ref s.heap.objs.size) { s with heap:=s.heap.push o }→wpAny (model prog w) A (pyIter v) Q E s
theorem Vy {h:Heap} {t:Addr} {items:Array Value} (ht:h.IsList t items):Wp h (.ref t) { cls := .type "list_iterator",data := .fields #[.ref t,.int 0 0] }:=fun prog w A E s Q k q=>by
 obtain ⟨o,e,r⟩:=ht
 exact wpAny_pyIter_list (items:=items) ⟨o,k _ _ e,r⟩ q
theorem Ya0 (v1 v2:Value) (o1 o2:Obj) :
  Meets (Builtin.«zip.__new__» ⟨[.type "zip",v1,v2],[]⟩) (fun _ R s=>Wp s.heap v1 o1∧Wp s.heap v2 o2∧R (.ok (.ret (.ref (zpO s.heap o1 o2).objs.size))) { s with heap:=zpZ s.heap o1 o2 }) :=
 .of_wp fun prog w A R s h=>by
  obtain ⟨hp,g,d,tk,os⟩:=s
  obtain ⟨h1,h2,h⟩:=h
  have hsub:=sub_zip
  have p1:∀ {A':Around} {E:Value→Shared→Prop} {Q:Value→Shared→Prop},Q (.ref hp.objs.size) ⟨hp.push o1,g,d,tk,os⟩→wpAny (model prog w) A' (pyIter v1) Q E ⟨hp,g,d,tk,os⟩:=fun q=>h1 prog w _ _ ⟨hp,g,d,tk,os⟩ _ (fun _ _ e=>e) q
  have p2:∀ {A':Around} {E:Value→Shared→Prop} {Q:Value→Shared→Prop},Q (.ref (hp.push o1).objs.size) ⟨(hp.push o1).push o2,g,d,tk,os⟩→wpAny (model prog w) A' (pyIter v2) Q E ⟨hp.push o1,g,d,tk,os⟩:=fun q=>h2 prog w _ _ ⟨hp.push o1,g,d,tk,os⟩ _ (fun _ _ e=>Heap.get?_push_of_some _ e) q
  wp_walk using p1,p2
  exact ⟨_,rfl,h⟩
section
variable {prog:Program} {w:World} {A:Around} {E:Value→Shared→Prop} {s:Shared}
theorem YbW {v1 v2:Value} {o1 o2:Obj} {Q:Value→Shared→Prop} (p1:Wp s.heap v1 o1) (p2:Wp s.heap v2 o2) (f1:o1.isFreed=false) (f2:o2.isFreed=false)
  (h:∀ h',IsZip h' (s.heap.objs.size+4) (s.heap.objs.size+2) (s.heap.objs.size+3) .none→IsPair h' (s.heap.objs.size+2) (.ref s.heap.objs.size) (.ref (s.heap.objs.size+1))→IsPair h' (s.heap.objs.size+3) .none .none →
   h'.get? s.heap.objs.size=some o1→h'.get? (s.heap.objs.size+1)=some o2→h'.objs.size=s.heap.objs.size+5→(∀ c o,s.heap.get? c=some o→h'.get? c=some o)→Q (.ref (s.heap.objs.size+4)) { s with heap:=h' }) :
  wpAny (model prog w) A (call (.type "zip") [v1,v2]) Q E s:=by
 refine callType_new F.called_zip (by decide) (F.typeCall_zip_2 _ _) (F.newCall_zip_2 _ _) (fun obj=>F.args_object_init_3 obj _ _) F.entry_zip_new (Ya0 v1 v2 o1 o2) ⟨p1,p2,?_⟩
 have z1:(s.heap.push o1).objs.size=s.heap.objs.size+1:=Heap.size_push ..
 have z2:(zpH s.heap o1 o2).objs.size=s.heap.objs.size+2:=by rw [Heap.size_push,z1]
 have z3:(zpT s.heap o1 o2).objs.size=s.heap.objs.size+3:=by rw [Heap.size_push,z2]
 have z4:(zpO s.heap o1 o2).objs.size=s.heap.objs.size+4:=by rw [Heap.size_push,z3]
 have z5:(zpZ s.heap o1 o2).objs.size=s.heap.objs.size+5:=by rw [Heap.size_push,z4]
 have g5:(zpZ s.heap o1 o2).get? (zpO s.heap o1 o2).objs.size=some _:=Heap.get?_push_size _ rfl
 have g4:(zpZ s.heap o1 o2).get? (zpT s.heap o1 o2).objs.size=some _:=Heap.get?_push_of_some _ (Heap.get?_push_size _ rfl)
 have g3:(zpZ s.heap o1 o2).get? (zpH s.heap o1 o2).objs.size=some _:=Heap.get?_push_of_some _ (Heap.get?_push_of_some _ (Heap.get?_push_size _ rfl))
 have g2:(zpZ s.heap o1 o2).get? (s.heap.push o1).objs.size=some o2:=Heap.get?_push_of_some _ (Heap.get?_push_of_some _ (Heap.get?_push_of_some _ (Heap.get?_push_size _ f2)))
 have g1:(zpZ s.heap o1 o2).get? s.heap.objs.size=some o1:=Heap.get?_push_of_some _ (Heap.get?_push_of_some _ (Heap.get?_push_of_some _ (Heap.get?_push_of_some _ (Heap.get?_push_size _ f1))))
 show _∧_
 rw [z2,z3,z4] at g5
 rw [z1,z2] at g3
 rw [z3] at g4
 rw [z1] at g2
 rw [z4]
 exact ⟨⟨_,g5,rfl⟩,h _ g5 g3 g4 g1 g2 z5 fun c o x=>Heap.get?_push_of_some _ (Heap.get?_push_of_some _ (Heap.get?_push_of_some _ (Heap.get?_push_of_some _ (Heap.get?_push_of_some _ x))))⟩
end
section
variable {X:Cx} {pins:List (Addr×Obj)} {σ:St} {H:Hp} {s:Shared} {h':Heap}
theorem Inv.turnedL {t':Nat} {ch:List Addr} (I:Inv X pins σ H s) (k:∀ b o,b∉ch→s.heap.get? b=some o→h'.get? b=some o) (hf:∀ b∈ch,X1 X pins H b):Inv X pins σ H { s with heap:=h',toks:=t' }:=by
 have nit:∀ b u,H b=some u→b∉ch:=fun b u e z=>by rw [(hf b z).1] at e;cases e
 refine I.step (g':=s.gens) (d':=s.drawn) (ch:=ch) (fun b hb=>?_) (fun b o _ _ hc e _=>k b o hc e) (fun b o _ _ hc e _=>⟨o.slots,k b o hc e⟩) (fun _ _ _ _ n=>n)
  (fun b o hc e=>⟨o,k b o hc e⟩) (fun _ _ e=>e) (fun _ _ _ e=>e) (fun b ps e=>⟨#[],by rw [e];simp⟩) (fun m hm=>?_) (fun b u e=>?_) I.bare
 ·obtain ⟨f0,f1,f2,f3,f4,f5⟩:=hf b hb
  exact ⟨f3,f1,f4,f5⟩
 ·obtain ⟨o,es,ep,ho,r⟩:=hm
  exact ⟨o,es,ep,k _ o (fun z=>(hf _ z).2.1 rfl) ho,r⟩
 ·refine (I.hok b u e).stay (fun c v hc q=>k c v ?_ q) (fun _ q=>q) fun _ _ q=>q
  rcases hc with z | z
  ·rw [z];exact nit b u e
  ·exact nit c _ z
theorem Inv.turnedT {t':Nat} {ch:List Addr} {T:Addr} {vs:List V} (I:Inv X pins σ H s) (k:∀ b o,b∉ch→s.heap.get? b=some o→h'.get? b=some o) (hf:∀ b∈ch,X1 X pins H b) (hT:s.heap.objs.size≤T)
  (new:Xe X.prog X.w (upd H T (.tup vs)) h' T (.tup vs)):Inv X pins σ (upd H T (.tup vs)) { s with heap:=h',toks:=t' }:=by
 have hn:H T=none:=I.hok.fresh hT
 have nit:∀ b u,H b=some u→b∉ch:=fun b u e z=>by rw [(hf b z).1] at e;cases e
 have nT:∀ b o,s.heap.get? b=some o→b≠T:=fun b o e z=>absurd (Heap.lt_size e) (by rw [z];exact Nat.not_lt.mpr hT)
 have up:∀ b u,H b=some u→upd H T (.tup vs) b=some u:=fun b u e=>by rw [Yd (Yk e hn)];exact e
 refine I.step (g':=s.gens) (d':=s.drawn) (ch:=ch) (fun b hb=>?_) (fun b o _ _ hc e _=>k b o hc e) (fun b o _ _ hc e _=>⟨o.slots,k b o hc e⟩) (fun b o _ e n=>by rw [Yd (nT b o e)];exact n)
  (fun b o hc e=>⟨o,k b o hc e⟩) (fun b xs e=>up b _ e) (fun b o u e=>up b _ e) (fun b ps e=>⟨#[],by rw [up b _ e];simp⟩) (fun m hm=>?_) (fun b u e=>?_) I.bare
 ·obtain ⟨f0,f1,f2,f3,f4,f5⟩:=hf b hb
  exact ⟨f3,f1,f4,f5⟩
 ·obtain ⟨o,es,ep,ho,r⟩:=hm
  exact ⟨o,es,ep,k _ o (fun z=>(hf _ z).2.1 rfl) ho,r⟩
 ·by_cases hb:b=T
  ·subst hb;rw [Ye] at e;cases e;exact new
  ·rw [Yd hb] at e
   refine (I.hok b u e).stay (fun c v hc q=>k c v ?_ q) (fun c q=>up c _ q) fun c xs q=>up c _ q
   rcases hc with z | z
   ·rw [z];exact nit b u e
   ·exact nit c _ z
end
def Itz (G1 G2:Hp→List V→Prop):It :=
 ⟨fun i H=>∃ xs ys x y,G1 H xs∧G2 H ys∧xs[i]?=some x∧ys[i]?=some y,fun i H v H'=>∃ T,v = .ref T∧H T=none∧∀ xs ys x y,G1 H xs→G2 H ys→xs[i]?=some x→ys[i]?=some y→H'=upd H T (.tup [x,y]),
  fun i H=>∃ xs ys,G1 H xs∧G2 H ys∧(xs.length≤i∨ys.length≤i)⟩
structure Part (K:PySem.W.Frag) (G:Hp→List V→Prop) (Si:Addr→Nat→Heap→Prop) (R:Heap→(Nat→Option Value)→Prop) (own:Addr):Prop where
 sub:∀ (P:Program) (w:World) (i:Addr),Sub P w i (Si i) R
 ready:∀ (X:Cx),X.K=K→∀ (pins:List (Addr×Obj)) (σ:St) (H:Hp) (s:Shared) (xs:List V),Inv X pins σ H s→G H xs→∃ us:List Value,Ys xs us∧R s.heap (fun k=>us[k]?)
 inj:∀ (X:Cx),X.K=K→∀ (pins:List (Addr×Obj)) (σ:St) (H:Hp) (s:Shared) (xs ys:List V),Inv X pins σ H s→G H xs→G H ys→xs=ys
 keep:∀ h h' g,R h g→(∀ o,h.get? own=some o→h'.get? own=some o)→R h' g
theorem UI {K:PySem.W.Frag} (a:Addr):Part K (fun H xs=>SqL K H a xs) (fun i k h=>h.IsListIter i a k) (fun h get=>∃ items:Array Value,h.IsList a items∧∀ k,get k=items[k]?) a where
 sub:=fun P w i=>Yct i a
 ready:=fun X hK pins σ H s xs I hq=>by
  subst hK
  obtain ⟨its,r,ht,_⟩:=I.list hq
  exact ⟨its,r,its.toArray,ht.isList,fun k=>by simp⟩
 inj:=fun X hK pins σ H s xs ys I h1 h2=>by subst hK;exact I.list_inj h1 h2
 keep:=fun h h' g ⟨items,⟨o,e,r⟩,q⟩ k=>⟨items,⟨o,k o e,r⟩,q⟩
theorem Ycv {P:Program} {w:World} {K:PySem.W.Frag} {elts:List Expr} {kk:Nat} {pos:Pos} {G1 G2:Hp→List V→Prop} {S1 S2:Addr→Nat→Heap→Prop} {R1 R2:Heap→(Nat→Option Value)→Prop} {a1 a2:Addr}
  (p1:Part K G1 S1 R1 a1) (p2:Part K G2 S2 R2 a2) {z TI TO i1 i2:Addr} (D:ZApart z TI TO i1 i2) (n1:a1∉[z,TO,i1,i2]) (n2:a2∉[z,TO,i1,i2]) :
  Turn P w K (.Tuple elts kk pos) (Itz G1 G2) [z,TI,TO,i1,i2] z (fun i h=>IsZip h z TI TO .none∧IsPair h TI (.ref i1) (.ref i2)∧(∃ a b,IsPair h TO a b)∧S1 i1 i h∧S2 i2 i h) where
 mem:=by simp
 obj:=fun i h ⟨hz,hTI,⟨a,b,hTO⟩,h1,h2⟩ c hc=>by
  simp only [List.mem_cons,List.not_mem_nil,or_false] at hc
  rcases hc with rfl | rfl | rfl | rfl | rfl
  ·exact ⟨_,hz,fun v e=>by cases e⟩
  ·exact ⟨_,hTI,fun v e=>by cases e⟩
  ·exact ⟨_,hTO,fun v e=>by cases e⟩
  ·exact (p1.sub P w _).obj _ _ h1
  ·exact (p2.sub P w _).obj _ _ h2
 keep:=fun i h h' ⟨hz,hTI,⟨a,b,hTO⟩,h1,h2⟩ q =>
  ⟨q z (by simp) _ hz,q TI (by simp) _ hTI,⟨a,b,q TO (by simp) _ hTO⟩,(p1.sub P w i1).keep _ _ _ h1 (q i1 (by simp)),(p2.sub P w i2).keep _ _ _ h2 (q i2 (by simp))⟩
 item:=by
  intro X hP hw hK hc i pins s σ H E I hf ⟨hz,hTI,⟨a,b,hTO⟩,h1,h2⟩ hg
  subst hP hw
  obtain ⟨xs,ys,x,y,g1,g2,hx,hy⟩:=hg
  obtain ⟨us1,r1,rd1⟩:=p1.ready X hK pins σ H s xs I g1
  obtain ⟨us2,r2,rd2⟩:=p2.ready X hK pins σ H s ys I g2
  obtain ⟨u,hu,ru⟩:=r1.get hx
  obtain ⟨v,hv,rv⟩:=r2.get hy
  have out:∀ c,c≠z→c≠TO→c≠i1→c≠i2→c∉[z,TO,i1,i2]:=fun c c1 c2 c3 c4 hm=>by
   simp only [List.mem_cons,List.not_mem_nil,or_false] at hm
   rcases hm with e | e | e | e<;>contradiction
  have sep:∀ {c:Addr},c∉[z,TO,i1,i2]→c≠z∧c≠TO∧c≠i1∧c≠i2:=fun hm=>⟨fun e=>hm (by simp [e]),fun e=>hm (by simp [e]),fun e=>hm (by simp [e]),fun e=>hm (by simp [e])⟩
  obtain ⟨m1,m2,m3,m4⟩:=sep n1
  obtain ⟨m5,m6,m7,m8⟩:=sep n2
  refine Ycu (k:=i) D (p1.sub _ _ i1) (p2.sub _ _ i2) (fun h h' g r q=>p1.keep _ _ _ r fun o e=>q a1 o m1 m2 m3 m4 e) (fun h h' g r q=>p2.keep _ _ _ r fun o e=>q a2 o m5 m6 m7 m8 e) hz hTI hTO h1 h2 rd1 rd2 hu hv fun h' tk hz' hTO' h1' h2' hT' hsz keep=>?_
  refine ⟨_,rfl,?_⟩
  refine wpAny_letOwnedTupleGo_zip (s:={ s with heap:=h',toks:=tk }) hz' fun h'' hz'' sb=>?_
  have zlt:z<s.heap.objs.size:=Heap.lt_size hz
  have kp:∀ c o,c∉[z,TO,i1,i2]→s.heap.get? c=some o→h''.get? c=some o:=fun c o hm e=>by
   obtain ⟨c1,c2,c3,c4⟩:=sep hm
   exact sb.extBut c o c1 (keep c o c1 c2 c3 c4 e)
  have hT'':IsPair h'' s.heap.objs.size u v:=sb.extBut _ _ (Nat.ne_of_gt zlt) hT'
  have fp4:∀ c∈[z,TO,i1,i2],X1 X pins H c:=fun c hm=>hf c (by
   simp only [List.mem_cons,List.not_mem_nil,or_false] at hm ⊢
   rcases hm with e | e | e | e<;>simp [e])
  have I':=I.turnedT (t':=tk) (h':=h'') (T:=s.heap.objs.size) (vs:=[x,y]) kp fp4 (Nat.le_refl _) (show Xe X.prog X.w _ h'' _ (.tup [x,y]) from ⟨by show 2≤sizeLine;decide,[u,v],.cons ru (.cons rv .nil),_,hT'',rfl,_,rfl⟩)
  have fresh:H s.heap.objs.size=none:=I.hok.fresh (Nat.le_refl _)
  refine ⟨.ref s.heap.objs.size,_,I',rfl,⟨_,rfl,fresh,fun xs' ys' x' y' g1' g2' hx' hy'=>?_⟩,⟨hz'',sb.extBut _ _ D.a (keep _ _ D.a D.e D.f D.g hTI),⟨_,_,sb.extBut _ _ D.b hTO'⟩,(p1.sub X.prog X.w i1).keep _ _ _ h1' fun o e=>sb.extBut _ _ D.c e,(p2.sub X.prog X.w i2).keep _ _ _ h2' fun o e=>sb.extBut _ _ D.d e⟩,fun c hm=>?_⟩
  ·rw [p1.inj X hK pins σ H s _ _ I g1' g1,hx] at hx'
   rw [p2.inj X hK pins σ H s _ _ I g2' g2,hy] at hy'
   cases hx'
   cases hy'
   rfl
  ·have h0:=(hf c hm).1
   have clt:c<s.heap.objs.size:=by
    simp only [List.mem_cons,List.not_mem_nil,or_false] at hm
    rcases hm with rfl | rfl | rfl | rfl | rfl
    ·exact zlt
    ·exact Heap.lt_size hTI
    ·exact Heap.lt_size hTO
    ·obtain ⟨o,e,_⟩:=(p1.sub X.prog X.w _).obj _ _ h1;exact Heap.lt_size e
    ·obtain ⟨o,e,_⟩:=(p2.sub X.prog X.w _).obj _ _ h2;exact Heap.lt_size e
   rw [Yd (Nat.ne_of_lt clt)]
   exact h0
 done:=by
  intro X hP hw hK hc i pins s σ H E I hf ⟨hz,hTI,⟨a,b,hTO⟩,h1,h2⟩ hg
  subst hP hw
  obtain ⟨xs,ys,g1,g2,hend⟩:=hg
  obtain ⟨us1,r1,rd1⟩:=p1.ready X hK pins σ H s xs I g1
  obtain ⟨us2,r2,rd2⟩:=p2.ready X hK pins σ H s ys I g2
  have sep:∀ {c:Addr},c∉[z,TO,i1,i2]→c≠z∧c≠TO∧c≠i1∧c≠i2:=fun hm=>⟨fun e=>hm (by simp [e]),fun e=>hm (by simp [e]),fun e=>hm (by simp [e]),fun e=>hm (by simp [e])⟩
  obtain ⟨m1,m2,m3,m4⟩:=sep n1
  obtain ⟨m5,m6,m7,m8⟩:=sep n2
  have l1:=r1.length
  have l2:=r2.length
  refine Ydo (k:=i) (I.ok.hd hc) D (p1.sub _ _ i1) (p2.sub _ _ i2) (fun h h' g r q=>p1.keep _ _ _ r fun o e=>q a1 o m1 m2 m3 m4 e) (fun h h' g r q=>p2.keep _ _ _ r fun o e=>q a2 o m5 m6 m7 m8 e) hz hTI hTO h1 h2 rd1 rd2 ?_ fun h' tk keep=>?_
  ·rcases hend with e | e
   ·exact .inl (by simp;omega)
   ·exact .inr (by simp;omega)
  ·refine ⟨rfl,I.turnedL (ch:=[z,TO,i1,i2]) (fun c o hm e=>?_) fun c hm=>hf c (by
    simp only [List.mem_cons,List.not_mem_nil,or_false] at hm ⊢
    rcases hm with e | e | e | e<;>simp [e])⟩
   obtain ⟨c1,c2,c3,c4⟩:=sep hm
   exact keep c o c1 c2 c3 c4 e
 self:=fun A i s Q E ⟨hz,_⟩ q=>wpAny_pyIter_zip hz q
end L2
namespace L2
open PySem PySem.Spec PyProof.Rows
section
variable {X:Cx} {elts:List Expr} {kk:Nat} {tpos:Pos}
theorem Ya1 (n:Nat):ZApart (n+4) (n+2) (n+3) n (n+1):=by
 constructor<;>(intro e;have e':@Eq Nat _ _:=e;omega)
def YcX (K:PySem.W.Frag) (ta:TA):TI:=fun σ H R=>ta σ H fun vs H1=>∃ a b xs ys,vs=[.ref a,.ref b]∧SqL K H1 a xs∧SqL K H1 b ys∧R (Itz (fun H xs=>SqL K H a xs) (fun H ys=>SqL K H b ys)) H1
theorem Ydp {pins:List (Addr×Obj)} {σ:St} {H:Hp} {s:Shared} {R:It→Hp→Prop} {E:Value→Shared→Prop} {G1 G2:Hp→List V→Prop} {S1 S2:Addr→Nat→Heap→Prop} {R1 R2:Heap→(Nat→Option Value)→Prop} {a b:Addr} {o1 o2:Obj}
  (I:Inv X pins σ H s) (p1:Part X.K G1 S1 R1 a) (p2:Part X.K G2 S2 R2 b) (t1:Wp s.heap (.ref a) o1) (t2:Wp s.heap (.ref b) o2) (f1:o1.isFreed=false) (f2:o2.isFreed=false) (la:a<s.heap.objs.size) (lb:b<s.heap.objs.size)
  (s1:∀ h i,h.get? i=some o1→S1 i 0 h) (s2:∀ h i,h.get? i=some o2→S2 i 0 h) (q:R (Itz G1 G2) H) :
  wpAny (model X.prog X.w) X.A (call (.type "zip") [.ref a,.ref b]) (fun v s1=>wpAny (model X.prog X.w) X.A (pyIter v) (PIE X pins σ (.Tuple elts kk tpos) R) E s1) E s:=by
 refine YbW t1 t2 f1 f2 fun h' hz hTI hTO g1 g2 hsz keep=>?_
 refine wpAny_pyIter_zip hz ?_
 have I1:Inv X pins σ H { s with heap:=h' }:=I.kept (t':=s.toks) keep
 refine ⟨_,[s.heap.objs.size+4,s.heap.objs.size+2,s.heap.objs.size+3,s.heap.objs.size,s.heap.objs.size+1],_,_,H,rfl,I1,Ycv (K:=X.K) p1 p2 (Ya1 s.heap.objs.size) ?_ ?_,⟨hz,hTI,⟨_,_,hTO⟩,s1 _ _ g1,s2 _ _ g2⟩,fun c hc=>?_,q⟩
 ·intro hm
  simp only [List.mem_cons,List.not_mem_nil,or_false] at hm
  rcases hm with e | e | e | e<;>(have e':@Eq Nat _ _:=e;have la':@LT.lt Nat _ a s.heap.objs.size:=la;have lb':@LT.lt Nat _ b s.heap.objs.size:=lb;omega)
 ·intro hm
  simp only [List.mem_cons,List.not_mem_nil,or_false] at hm
  rcases hm with e | e | e | e<;>(have e':@Eq Nat _ _:=e;have la':@LT.lt Nat _ a s.heap.objs.size:=la;have lb':@LT.lt Nat _ b s.heap.objs.size:=lb;omega)
 ·have hle:s.heap.objs.size≤c:=by
   simp only [List.mem_cons,List.not_mem_nil,or_false] at hc
   rcases hc with e | e | e | e | e<;>(have e':@Eq Nat _ _:=e;show @LE.le Nat _ s.heap.objs.size c;omega)
  exact I.fpOk hle (I.hok.fresh hle)
theorem Ydq {a b:Expr} {ta:TA} {p pos:Pos} (hg:Gl X "zip") (hm:X.mg "zip"=none) (ha:PA X [a,b] ta) (hs:starEach [a,b] X.env=[(false,eval a X.env),(false,eval b X.env)]) (hs2:starEach [b] X.env=[(false,eval b X.env)]) :
  PI X (.Tuple elts kk tpos) (.Call (.Name "zip" p) [a,b] [] pos) (YcX X.K ta):=by
 intro pins s σ H R I h
 refine Call_ (W3 I hg hm boot_zip (PyProof.Rows.callWith_type1 (thn (ha pos pins s σ H _ I h) fun us s1 ⟨vs,H1,I1,r1,q1⟩=>?_) (by rw [hs,hs2]) (by rw [hs2];rfl)))
 obtain ⟨x,y,xs,ys,e,hx,hy,q⟩:=q1
 subst e
 obtain ⟨u,v,rfl,ru,rv⟩:=r1.two
 cases ru
 cases rv
 obtain ⟨i1,_,ht1,_⟩:=I1.list hx
 obtain ⟨i2,_,ht2,_⟩:=I1.list hy
 have l1:x<s1.heap.objs.size:=by obtain ⟨_,e,_⟩:=ht1.isList;exact Heap.lt_size e
 have l2:y<s1.heap.objs.size:=by obtain ⟨_,e,_⟩:=ht2.isList;exact Heap.lt_size e
 exact Ydp I1 (UI x) (UI y) (Vy ht1.isList) (Vy ht2.isList) rfl rfl l1 l2 (fun h i e=>⟨_,e,rfl,rfl⟩) (fun h i e=>⟨_,e,rfl,rfl⟩) q
theorem V4 {J:It} {P:Hp→Prop} {xs:List V} (hJ:WS J P xs) {src:List (Option Nat)} {g:TG} {te:TE} {σ:St} {H1:Hp} {Q:VK} {D:Addr} (Pv:Nat→List V→St→Hp→Prop)
  (h0:Pv 0 [] (Y6 src σ) (upd H1 D (.lst []))) (hP:∀ i ys σ' H',Pv i ys σ' H'→P H'∧H' D=some (.lst ys))
  (mono:∀ x σ H Q Q',(∀ σ' H',Q σ' H'→Q' σ' H')→g x σ H Q→g x σ H Q')
  (step:∀ i ys σ' H' x,xs[i]?=some x→Pv i ys σ' H'→g x σ' H' fun σ2 H4=>te σ2 H4 fun y H6=>H6 D=some (.lst ys)∧ys.length<sizeLine∧Pv (i+1) (ys++[y]) σ2 (upd H6 D (.lst (ys++[y]))))
  (fin:∀ ys σ' H',Pv xs.length ys σ' H'→Q (.ref D) H'):LC src J g Vk te σ H1 Q D :=
 lc_by hJ Pv h0 hP (fun i ys σ' H' x hx p=>by
  refine mono _ _ _ _ _ ?_ (step i ys σ' H' x hx p)
  intro σ2 H4 q
  unfold Vk
  dsimp only
  rw [if_pos rfl]
  exact q) fin
theorem Vm (i:Nat):∀ x σ H Q Q',(∀ σ' H',Q σ' H'→Q' σ' H')→YL i x σ H Q→YL i x σ H Q':=fun _ _ _ _ _ h q=>h _ _ q
end
end L2
namespace L2
open PySem PySem.Spec PyProof.Rows
structure Gx where
 P:Program
 w:World
 K:PySem.W.Frag
 mg:Str→Option Value
 base:Heap
def Cx.gx (X:Cx):Gx:=⟨X.prog,X.w,X.K,X.mg,X.base⟩
def Gx.Raw (g:Gx) (x qual:Str) (st:Stmt) (ps:List Str):Prop:=∃ f fd,Fun g.K x qual st f fd∧Xw g.K fd ps []∧g.mg x=some (.ref f)
def Gx.Fn (g:Gx) (k:Nat) (x:Str) (ps:List Str) (sp:Sp):Prop:=∃ f fd,FnOk g.P g.w g.K g.mg g.base CX0 k f fd ps sp∧Xw g.K fd ps []∧PySem.W.keepIn g.K (.ref f)=true∧g.mg x=some (.ref f)
def Gx.RawM (g:Gx) (C:Addr) (m qual:Str) (st:Stmt) (ps:List Str):Prop:=∃ f fd,Fun g.K m qual st f fd∧Xw g.K fd ps []∧Meth g.K C m f
def Gx.Me (g:Gx) (k:Nat) (C:Addr) (m:Str) (ps:List Str) (sp:Sp):Prop:=∃ f fd,FnOk g.P g.w g.K g.mg g.base CX0 k f fd ps sp∧Xw g.K fd ps []∧Meth g.K C m f
def Gx.RawI (g:Gx) (x:Str) (C:Addr) (qual:Str) (st:Stmt) (ps:List Str):Prop:=∃ f fd,Fun g.K "__init__" qual st f fd∧Xw g.K fd ps []∧Mk g.K C f∧g.mg x=some (.ref C)
def Gx.Ma (g:Gx) (k:Nat) (x:Str) (C:Addr) (ps:List Str) (sp:Sp):Prop:=∃ f fd,FnOk g.P g.w g.K g.mg g.base CX0 k f fd ps sp∧Xw g.K fd ps []∧Mk g.K C f∧g.mg x=some (.ref C)
abbrev Gx.cx (g:Gx) (N:List Str) (qual:Str) (st:Stmt) (f:Addr) (cdv:Value) (A:Around) (outer:List Env) (s:Shared) (H:Hp) (E:XK):Cx:=(Vw CX0 g.P g.w g.K g.mg g.base N qual (Yj st) f cdv A outer s H E).nox
def VT (g:Gx) (k:Nat) (N:List Str) (qual:Str) (st:Stmt) (sp:Sp):Prop:=∀ (f:Addr) (cdv:Value) (A:Around) (outer:List Env) (s:Shared) (H:Hp) (vs:List V) (Q:VK) (E:XK),Room k (g.cx N qual st f cdv A outer s H E).A→sp vs H Q E →
 ∃ t,PSs (g.cx N qual st f cdv A outer s H E) (Xf st) t∧t { nx:=fun _ H'=>Q .non H',rt:=Q } (Wy N vs) H
section
variable {g:Gx} {k:Nat} {x qual m:Str} {st:Stmt} {N ps:List Str} {sp:Sp} {C:Addr}
theorem Gx.Raw.fn (R:g.Raw x qual st ps) (S:FnScope N ps (Yj st)) (len:∀ vs H Q E,sp vs H Q E→vs.length=ps.length) (b:VT g k N qual st sp):g.Fn (k+1) x ps sp:=by
 obtain ⟨f,fd,F,bd,hm⟩:=R
 exact ⟨f,fd,F.ok S len fun cdv A outer s H vs Q E hr h=>b f cdv A outer s H vs Q E hr h,bd,F.kp,hm⟩
theorem Gx.RawM.me (R:g.RawM C m qual st ps) (S:FnScope N ps (Yj st)) (len:∀ vs H Q E,sp vs H Q E→vs.length=ps.length) (b:VT g k N qual st sp):g.Me (k+1) C m ps sp:=by
 obtain ⟨f,fd,F,bd,hm⟩:=R
 exact ⟨f,fd,F.ok S len fun cdv A outer s H vs Q E hr h=>b f cdv A outer s H vs Q E hr h,bd,hm⟩
theorem Gx.RawI.ma (R:g.RawI x C qual st ps) (S:FnScope N ps (Yj st)) (len:∀ vs H Q E,sp vs H Q E→vs.length=ps.length) (b:VT g k N qual st sp):g.Ma (k+1) x C ps sp:=by
 obtain ⟨f,fd,F,bd,hm,hg⟩:=R
 exact ⟨f,fd,F.ok S len fun cdv A outer s H vs Q E hr h=>b f cdv A outer s H vs Q E hr h,bd,hm,hg⟩
theorem Gx.Fn.mono {j:Nat} (F:g.Fn j x ps sp) (h:j≤k):g.Fn k x ps sp:=by
 obtain ⟨f,fd,F,r⟩:=F
 exact ⟨f,fd,F.mono h,r⟩
theorem Gx.Me.mono {j:Nat} (F:g.Me j C m ps sp) (h:j≤k):g.Me k C m ps sp:=by
 obtain ⟨f,fd,F,r⟩:=F
 exact ⟨f,fd,F.mono h,r⟩
theorem Gx.RawM.none (R:g.RawM C m qual st ps) (no:∀ vs H Q E,¬ sp vs H Q E):g.Me k C m ps sp:=by
 obtain ⟨f,fd,F,bd,hm⟩:=R
 exact ⟨f,fd,⟨fun vs H Q E h=>absurd h (no vs H Q E),fun A outer s H args us vs Q E _ _ _ _ h=>absurd h (no vs H Q E)⟩,bd,hm⟩
end
section
variable {g:Gx} {X:Cx} {k j:Nat} {x m:Str} {ps:List Str} {sp:Sp} {C:Addr} {e o:Expr} {es:List Expr} {t:TA} {ta:TE} {p pos apos:Pos}
theorem Yx (F:g.Fn j x ps sp) (hr:Room k X.A) (ha:PA X (e::es) t) (hj:j≤k) (hX:X.gx=g) (hg:Gl X x) (hdb:(x==("__debug__":Str))=false)
  (he:starEach (e::es) X.env=(false,eval e X.env)::starEach es X.env) (hpl:(backTo pos (starEach es X.env)).any (·.1)=false):PE X (.Call (.Name x p) (e::es) [] pos) (VZ sp [] E0 t):=by
 subst hX
 obtain ⟨f,fd,F,b,kp,hm⟩:=F
 exact Ydg F (hr.mono hj) hg hm kp b .nil V2 ha hdb he hpl
theorem Yn {pl:Sem Bool} (F:g.Me j C m ps sp) (c:Cls g.K C) (hr:Room k X.A) (ho:PE X o ta) (ha:PA X (e::es) t) (hj:j≤k) (hX:X.gx=g)
  (hst:starEach (e::es) X.env=(false,eval e X.env)::starEach es X.env) (hpl:(backTo pos (starEach es X.env)).any (·.1)=false)
  (ht:eval (.Call (.Attribute o m apos) (e::es) [] pos) X.env=(do
   let ov ← eval o X.env
   standAt apos.atName
   let (f,first) ← holding [ov] (getMethod ov m pl)
   callWith pos f first (backTo pos (starEach (e::es) X.env)) (backToKw pos (keywordEach [] X.env)))):PE X (.Call (.Attribute o m apos) (e::es) [] pos) (U4 C m sp [] E0 ta t):=by
 subst hX
 obtain ⟨f,fd,F,b,hm⟩:=F
 exact Ydh ho c hm F (hr.mono hj) b .nil V2 ha hst hpl ht
theorem Wz (F:g.Ma j x C ps sp) (hr:Room k X.A) (ha:PA X (e::es) t) (hj:j+1≤k) (hX:X.gx=g) (hg:Gl X x) (hdb:(x==("__debug__":Str))=false)
  (he:starEach (e::es) X.env=(false,eval e X.env)::starEach es X.env) (hpl:(backTo pos (starEach es X.env)).any (·.1)=false):PE X (.Call (.Name x p) (e::es) [] pos) (V0 C sp [] E0 t):=by
 subst hX
 obtain ⟨f,fd,F,b,M,hm⟩:=F
 exact Ydi M F (hr.mono hj) hg hm b .nil V2 ha hdb he hpl
theorem YT {id:String} {r:List V→Hp→VK→Prop} (hm:g.mg x=none) (hc:Wh X (.builtin id) r) (ha:PA X (e::es) t) (hv:bootBuiltins x=some (.builtin id)) (hX:X.gx=g) (hg:Gl X x) (hn:x≠"__name__") (hdb:(x==("__debug__":Str))=false)
  (he:starEach (e::es) X.env=(false,eval e X.env)::starEach es X.env) (hpl:(backTo pos (starEach es X.env)).any (·.1)=false):PE X (.Call (.Name x p) (e::es) [] pos) (tCB r t):=by
 subst hX
 exact Ycp hc hg hm hv ha hn hdb he hpl
theorem pe_bt {T:String} {r:List V→Hp→VK→Prop} (hm:g.mg x=none) (hc:Wh X (.type T) r) (ha:PA X (e::es) t) (hv:bootBuiltins x=some (.type T)) (hX:X.gx=g) (hg:Gl X x) (hn:x≠"__name__") (hdb:(x==("__debug__":Str))=false)
  (he:starEach (e::es) X.env=(false,eval e X.env)::starEach es X.env) (hpl:(backTo pos (starEach es X.env)).any (·.1)=false):PE X (.Call (.Name x p) (e::es) [] pos) (tCB r t):=by
 subst hX
 exact YbP hc hg hm hv ha hn hdb he hpl
theorem Ya2 {T:String} (hm:g.mg x=none) (hv:bootBuiltins x=some (.type T)) (hX:X.gx=g) (hg:Gl X x) (hn:x≠"__name__") (hdb:(x==("__debug__":Str))=false):PE X (.Name x pos) (tC (.ty T)):=by
 subst hX
 exact Yda hg hm hv rfl hn hdb
end
def S (l:List Nat):Str:=⟨l.toArray⟩
theorem Yd1 (l:List Nat):(S l).cps.toList=l:=by simp [S]
theorem U5 (l:List Nat):(S l).length=l.length:=by simp [S,Str.length]
theorem YcY (a b:List Nat):S a++S b=S (a++b):=by
 show Str.append (S a) (S b)=S (a++b)
 simp [Str.append,S]
theorem V5 {a b:List Nat} (h:S a=S b):a=b:=by
 have:=congrArg (fun x:Str=>x.cps.toList) h
 simpa [Yd1] using this
theorem YcZ (c:Nat):(⟨#[c]⟩:Str)=S [c]:=rfl
def U6 (s:List Nat):List (List Nat)→List Nat
 | []=>[]
 | [x]=>x
 | x::y::r=>x++s++U6 s (y::r)
theorem Yd2 (s:List Nat):∀ ys:List (List Nat),Txt.join (S s) (ys.map S)=S (U6 s ys):=fun ys=>by
 have e:Txt.join (S s) (ys.map S)=Str.join (S s) (ys.map S):=eq_of_beq (join_plain_closes _ _)
 rw [e]
 induction ys with
 | nil=>rfl
 | cons x r ih =>
  cases r with
  | nil=>rfl
  | cons y r =>
   have ih':=ih (eq_of_beq (join_plain_closes _ _))
   show S x++S s++Str.join (S s) ((y::r).map S)=_
   rw [ih',YcY,YcY]
   rfl
end L2
namespace L2
open PySem PySem.Spec PyProof.Rows
section
variable {K:PySem.W.Frag} {h:Heap} {mg:Str→Option Value} {P:Program} {w:World} {base:Heap} {f C:Addr} {x qual m:Str} {st:Stmt} {ps:List Str} {oc kV dc pm cd ct:Value} {od an:Option Addr} {sl:Array (Option Value)}
theorem Xb (X:K.In h) (G:h.Ns mainGlobals mg) (ps:List Str)
  (a:PySem.W.nsIn K mainGlobals x=some (some (.ref f))) (l:K.lookup f=some ⟨oc,od,.func (PySem.W.fnOf x x (Xk st) (Xf st) (Yj st) .none kV dc pm an cd ct),sl⟩) (c:PySem.W.codeIn K cd x=true) (k:PySem.W.keepIn K (.ref f)=true)
  (b:∀ (kV doc pm:Value) (an:Option Addr) (cdv ct:Value) (us:List Value),us.length=ps.length→bindArgs (PySem.W.fnOf x x (Xk st) (Xf st) (Yj st) .none kV doc pm an cdv ct) ⟨us,[]⟩=pure (ps.zip us)) :
  ∀ P w base,(Gx.mk P w K mg base).Raw x x st ps:=fun P w base =>
 have F:=Vx (st:=st) l c k
 ⟨f,_,F,F.binds b,PySem.W.mg_of X G a⟩
theorem YG (X:K.In h) (G:h.Ns mainGlobals mg) (ps:List Str)
  (a:PySem.W.findIn K (.ref C) m=some (some (.ref f))) (i:PySem.W.isFn K (.ref f)=true) (l:K.lookup f=some ⟨oc,od,.func (PySem.W.fnOf m qual (Xk st) (Xf st) (Yj st) .none kV dc pm an cd ct),sl⟩) (c:PySem.W.codeIn K cd qual=true) (k:PySem.W.keepIn K (.ref f)=true)
  (b:∀ (kV doc pm:Value) (an:Option Addr) (cdv ct:Value) (us:List Value),us.length=ps.length→bindArgs (PySem.W.fnOf m qual (Xk st) (Xf st) (Yj st) .none kV doc pm an cdv ct) ⟨us,[]⟩=pure (ps.zip us)) :
  ∀ P w base,(Gx.mk P w K mg base).RawM C m qual st ps:=fun P w base =>
 have F:=Vx (st:=st) l c k
 ⟨f,_,F,F.binds b,⟨a,i,k⟩⟩
theorem XE (X:K.In h) (G:h.Ns mainGlobals mg) (ps:List Str) (aC:PySem.W.nsIn K mainGlobals x=some (some (.ref C))) (mk:PySem.W.makesIn K C=true) (kc:PySem.W.keepIn K (.ref C)=true)
  (a:PySem.W.findIn K (.ref C) "__init__"=some (some (.ref f))) (i:PySem.W.isFn K (.ref f)=true) (l:K.lookup f=some ⟨oc,od,.func (PySem.W.fnOf "__init__" qual (Xk st) (Xf st) (Yj st) .none kV dc pm an cd ct),sl⟩) (c:PySem.W.codeIn K cd qual=true) (k:PySem.W.keepIn K (.ref f)=true)
  (b:∀ (kV doc pm:Value) (an:Option Addr) (cdv ct:Value) (us:List Value),us.length=ps.length→bindArgs (PySem.W.fnOf "__init__" qual (Xk st) (Xf st) (Yj st) .none kV doc pm an cdv ct) ⟨us,[]⟩=pure (ps.zip us)) :
  ∀ P w base,(Gx.mk P w K mg base).RawI x C qual st ps:=fun P w base =>
 have F:=Vx (st:=st) l c k
 ⟨f,_,F,F.binds b,⟨mk,a,i,kc⟩,PySem.W.mg_of X G aC⟩
end
def V6 (K:PySem.W.Frag):Sp:=fun vs H Q _=>∃ (a:Addr) (ns:List Int),vs=[.ref a]∧SqL K H a (ns.map V.int)∧ns.length≤63∧∀ H',Q (.bl true) H'
def YbX (K:PySem.W.Frag) (mg:Str→Option Value) (st:Stmt) (x n:Str):Prop:=∃ f fd,Fun K n n st f fd∧(∀ (s:Shared) (u:Value),BindsTo s fd ⟨[u],[]⟩ [(x,u)])∧mg n=some (.ref f)
theorem YbY {K:PySem.W.Frag} {h:Heap} {mg:Str→Option Value} {f:Addr} {x n:Str} {st:Stmt} {oc kV dc pm cd ct:Value} {od an:Option Addr} {sl:Array (Option Value)} (X:K.In h) (G:h.Ns mainGlobals mg)
  (a:PySem.W.nsIn K mainGlobals n=some (some (.ref f))) (l:K.lookup f=some ⟨oc,od,.func (PySem.W.fnOf n n (Xk st) (Xf st) (Yj st) .none kV dc pm an cd ct),sl⟩) (c:PySem.W.codeIn K cd n=true) (k:PySem.W.keepIn K (.ref f)=true)
  (b:∀ (kV doc pm:Value) (an:Option Addr) (cdv ct:Value) (s:Shared) (u:Value),BindsTo s (PySem.W.fnOf n n (Xk st) (Xf st) (Yj st) .none kV doc pm an cdv ct) ⟨[u],[]⟩ [(x,u)]):YbX K mg st x n :=
 ⟨f,_,Vx (st:=st) l c k,b kV dc pm an cd ct,PySem.W.mg_of X G a⟩
theorem Ydr {l:PySem.W.OpenLaw} {q:Program} {loose:List Str} {XP:(Str→Option Value)→Heap→Prop} {YP:World→Heap→Prop} {d:DefRec} {K:Params→PySem.W.Frag} (k:Nat) (x:Str) (st:Stmt) (N:List Str) (hn:l.most=some 63) (hdf:d.params.defaults=[]) (hk:Room (k+1) callerA) (S:FnScope N [x] (Yj st))
  (hY:∀ (w:World) (h:Heap),YP w h→(K w.params).In h)
  (F:∀ (w:World) (mg:Str→Option Value) (h:Heap),(K w.params).In h→h.Ns mainGlobals mg→YbX (K w.params) mg st x d.name∧∀ base,VT (Gx.mk l.prog w (K w.params) mg base) k N d.name st (V6 (K w.params))) :
  PySem.W.WalkO q loose XP YP l.row.toRowW d [] (fun f vs=>PySem.call f vs):=by
 refine L2.Ydk (n:=63) (k:=k+1) (x:=x) (CX:=fun _=>CX0) (sp:=fun w=>V6 (K w.params)) hn (by decide) hdf hk hY (fun w mg fa h KX G hmg=>?_) (fun _ _ a ns hl _ hS=>⟨a,ns,rfl,hS,hl,fun _=>rfl⟩) fun _ _ _ _ _ z=>z
 obtain ⟨⟨f,fd,Fu,hb,hm⟩,B⟩:=F w mg h KX G
 have e:=hmg.symm.trans hm
 cases e
 exact ⟨fd,hb,fun base _ _=>Fu.ok S (fun vs H Q E h=>by obtain ⟨a,ns,rfl,_⟩:=h;rfl) fun cdv A outer s H vs Q E hr h=>B base fa cdv A outer s H vs Q E hr h⟩
end L2
namespace L2
open PySem PySem.Spec PyProof.Rows
section
variable {X:Cx}
theorem Yan {a:Int} {m:Nat} (h:a.natAbs<2^m):Builtin.Int.intBits a≤m:=by
 unfold Builtin.Int.intBits
 split
 ·omega
 ·rename_i h0
  have h0:a.natAbs≠0:=by simpa using h0
  have:=(Nat.log2_lt h0).mpr h
  omega
def V7 (i j:Int):Prop:=∃ m n:Nat,i.natAbs<2^m∧j.natAbs<2^n∧m+n≤100000000
theorem V7.ok {i j:Int} (h:V7 i j):IntMulOk i j:=by
 obtain ⟨m,n,h1,h2,h3⟩:=h
 exact IntMulOk.of_le (Yan h1) (Yan h2) (by omega)
def Ya3 (i j:Int):Prop:=0<j∧j.natAbs<2^9000
theorem YH:OpR X (binaryOp .FloorDiv) (rI Ya3 fun i j => .int (i / j)):=opI fun i j _ _ _ _ _ hc q=>by
 have h1:(0:Int)<j:=hc.1
 have h2:=hc.2
 have h3:j.natAbs≠0:=by omega
 exact floordiv_int (by omega) (by rw [Int.fdiv_eq_ediv_of_nonneg i (by omega)];exact q) (.inl (PyProof.noPylong_of_log2 ((Nat.log2_lt h3).mpr h2)))
theorem YX {j:Int} (h:0<j) (h2:j<1073741824) {i:Int}:Ya3 i j:=⟨h,Nat.lt_of_lt_of_le (show j.natAbs<2^30 by omega) (Nat.pow_le_pow_right (by decide) (by decide))⟩
end
end L2
namespace L2
open PySem PySem.Spec PyProof.Rows
theorem Yd3 {CX:CXT} {P:Program} {w:World} {K:PySem.W.Frag} {mg:Str→Option Value} {base:Heap} {N:List Str} {qual:Str} {scope:Scope} {f:Addr} {cd:Value} {A:Around} {outer:List Env} {s:Shared} {H:Hp} {E:XK} :
  (Vw CX P w K mg base N qual scope f cd A outer s H E).K=K:=rfl
theorem nox_K {X:Cx}:X.nox.K=X.K:=rfl
section
variable {g:TG} {tb:TS} {D:Ends} {σ:St} {H:Hp}
theorem XJ {ta:TA} {n:Nat} (Pv:Nat→St→Hp→Prop) (ha:∀ R:List V→Hp→Prop,R [.int n] H→ta σ H R) (hn:n<2^62) (h0:Pv 0 σ H)
  (hs:∀ i σ H,i<n→Pv i σ H→g (.int i) σ H fun σ2 H2=>tb { D with nx:=Pv (i+1),ct:=Pv (i+1),bk:=D.nx } σ2 H2) (hd:∀ σ H,Pv n σ H→D.nx σ H):Uj (YaM ta) g tb D σ H:=by
 refine ha _ ⟨n,rfl,by omega,by omega,?_⟩
 refine YbI (lo:=0) (n:=n) Pv h0 (fun i σ H hi p=>?_) hd
 have e:(0:Int)+i=i:=by omega
 rw [e];exact hs i σ H hi p
end
end L2
namespace L2
open PySem PySem.Spec PyProof.Rows
section
variable {X:Cx}
theorem US (hc:X.calm=true:=by rfl):Wh X (.builtin "sum") (fun xs H Q=>∃ (p:Addr) (ns:List Int),xs=[.ref p]∧SqL X.K H p (ns.map V.int)∧Q (.int ns.sum) H):=by
 intro pins s σ H xs us Q I r h
 obtain ⟨p,ns,rfl,hq,q⟩:=h
 obtain ⟨u,rfl,rx⟩:=UZ r
 cases rx
 obtain ⟨its,r',pl,hz⟩:=I.list hq
 have hi:=YaW r'
 have hl:=pl.isList
 obtain ⟨xs,ex⟩:=hi.allInts.items
 rw [ex] at hl
 have e:preSum (numAt xs) xs.size=ns.sum:=by
  have h1:=nums_intItems (xs:=xs)
  rw [← ex] at h1
  have h2:=hi.numsOf
  rw [preSum_eq,List.take_of_length_le (by simp)]
  rw [← h1]
  exact congrArg List.sum h2
 refine sum_intListG (I.ok.hd hc) hl fun h' tk t' hk=>?_
 rw [e]
 exact ⟨.int _,H,I.kept (t':=tk) hk,⟨t',rfl⟩,q⟩
end
section
variable {X:Cx} {elts:List Expr} {kk:Nat} {tpos:Pos}
end
end L2
namespace L2
open PySem PySem.Spec PyProof.Rows
mutual
inductive Den (K:PySem.W.Frag) (H:Hp):V→PyData→Prop
 | non:Den K H .non .none
 | bl (b:Bool):Den K H (.bl b) (.bool b)
 | int (i:Int):Den K H (.int i) (.int i)
 | str (x:Str) (h:PyData.strOk x=true):Den K H (.str x) (.str x)
 | lst {a:Addr} {vs:List V} {ds:List PyData}:SqL K H a vs→Dens K H vs ds→Den K H (.ref a) (.list ds)
 | tup {a:Addr} {vs:List V} {ds:List PyData}:SqT K H a vs→Dens K H vs ds→Den K H (.ref a) (.tuple ds)
inductive Dens (K:PySem.W.Frag) (H:Hp):List V→List PyData→Prop
 | nil:Dens K H [] []
 | cons {v:V} {d:PyData} {vs:List V} {ds:List PyData}:Den K H v d→Dens K H vs ds→Dens K H (v::vs) (d::ds)
end
mutual
theorem Den.keep {K:PySem.W.Frag} {H H':Hp} (e:Yq H H'):∀ {v:V} {d:PyData},Den K H v d→Den K H' v d
 | _,_,.non => .non
 | _,_,.bl b => .bl b
 | _,_,.int i => .int i
 | _,_,.str x h => .str x h
 | _,_,.lst h hs => .lst (e.seq h) (hs.keep e)
 | _,_,.tup h hs => .tup (e.tup h) (hs.keep e)
theorem Dens.keep {K:PySem.W.Frag} {H H':Hp} (e:Yq H H'):∀ {vs:List V} {ds:List PyData},Dens K H vs ds→Dens K H' vs ds
 | _,_,.nil => .nil
 | _,_,.cons h hs => .cons (h.keep e) (hs.keep e)
end
mutual
theorem Den.lay {K:PySem.W.Frag} {H:Hp}:∀ {v:V} {d:PyData},Den K H v d→d.canLay0=true
 | _,_,.non=>rfl
 | _,_,.bl b=>rfl
 | _,_,.int i=>rfl
 | _,_,.str x h=>by simpa [PyData.canLay0] using h
 | _,_,.lst _ hs=>by rw [PyData.canLay0];exact hs.lay
 | _,_,.tup _ hs=>by rw [PyData.canLay0];exact hs.lay
theorem Dens.lay {K:PySem.W.Frag} {H:Hp}:∀ {vs:List V} {ds:List PyData},Dens K H vs ds→PyData.canLayAll0 ds=true
 | _,_,.nil=>rfl
 | _,_,.cons h hs=>by rw [PyData.canLayAll0,h.lay,hs.lay];rfl
end
theorem Dens.length {K:PySem.W.Frag} {H:Hp}:∀ {vs:List V} {ds:List PyData},Dens K H vs ds→vs.length=ds.length
 | _,_,.nil=>rfl
 | _,_,.cons _ hs=>congrArg (·+1) hs.length
theorem Dens.append {K:PySem.W.Frag} {H:Hp} {vs':List V} {ds':List PyData}:∀ {vs:List V} {ds:List PyData},Dens K H vs ds→Dens K H vs' ds'→Dens K H (vs++vs') (ds++ds')
 | _,_,.nil,h=>h
 | _,_,.cons a b,h => .cons a (b.append h)
section
variable {X:Cx}
mutual
theorem Den.reads {pins:List (Addr×Obj)} {σ:St} {H:Hp} {s:Shared} (I:Inv X pins σ H s):∀ {v:V} {d:PyData} {u:Value},Den X.K H v d→YB v u→∃ as,Reads s.heap u d as
 | _,_,u,.non,r=>by cases (show u = .none from r);exact ⟨_,.none⟩
 | _,_,u,.bl b,r=>by cases (show u = .bool b from r);exact ⟨_,.bool b⟩
 | _,_,u,.int i,r=>by obtain ⟨t,rfl⟩:=r;exact ⟨_,.int i t⟩
 | _,_,u,.str x h,r=>by obtain ⟨t,rfl⟩:=r;exact ⟨_,.str x t⟩
 | _,_,u,.lst (a:=a) h hs,r=>by
  cases (show u = .ref a from r)
  obtain ⟨its,rv,pl,hz⟩:=I.list h
  obtain ⟨as,ra⟩:=hs.reads I rv
  obtain ⟨o,e1,e2,n,e3⟩:=pl.isList
  exact ⟨_,.list e1 e2 e3 (by simpa using ra)⟩
 | _,_,u,.tup (a:=a) h hs,r=>by
  cases (show u = .ref a from r)
  obtain ⟨its,rv,pl,hz⟩:=I.tuple h
  obtain ⟨as,ra⟩:=hs.reads I rv
  obtain ⟨o,e1,e2,n,e3⟩:=(show s.heap.IsTuple a its.toArray from pl)
  exact ⟨_,.tuple e1 e2 e3 (by simpa using ra)⟩
theorem Dens.reads {pins:List (Addr×Obj)} {σ:St} {H:Hp} {s:Shared} (I:Inv X pins σ H s):∀ {vs:List V} {ds:List PyData} {us:List Value},Dens X.K H vs ds→Ys vs us→∃ as,ReadsAll s.heap us ds as
 | _,_,us,.nil,r=>by cases r;exact ⟨_,.nil⟩
 | _,_,us,.cons h hs,r=>by
  cases r with
  | cons r rr =>
   obtain ⟨as,ra⟩:=h.reads I r
   obtain ⟨bs,rb⟩:=hs.reads I rr
   exact ⟨_,.cons ra rb⟩
end
end
theorem WT {α:Type} {l:List α} {i:Nat} {x:α} (h:l[i]?=some x):l.take (i+1)=l.take i++[x]:=by
 obtain ⟨hi,hc⟩:=List.getElem?_eq_some_iff.mp h
 rw [List.take_succ_eq_append_getElem hi,hc]
theorem VR (K:PySem.W.Frag) (i j:Nat):∀ x σ H Q Q',(∀ σ' H',Q σ' H'→Q' σ' H')→WZ K 2 (Xq (YL i) (Xq (YL j) WY)) x σ H Q→WZ K 2 (Xq (YL i) (Xq (YL j) WY)) x σ H Q':=by
 rintro x σ H Q Q' h ⟨a,xs,e,sq,l,v,r,e1,v2,r2,e2,e3,q⟩
 exact ⟨a,xs,e,sq,l,v,r,e1,v2,r2,e2,e3,h _ _ q⟩
end L2
namespace L2
open PySem PySem.Spec PyProof.Rows
section
variable {a b c d e r:TS} {D:Ends} {σ:St} {H:Hp} (M:St→Hp→Prop) (h1:∀ σ H,M σ H→r D σ H)
include h1
theorem Up (h2:∀ N:St→Hp→Prop,(∀ σ H,M σ H→N σ H)→a { D with nx:=N } σ H):Xh a r D σ H:=h2 (r D) h1
theorem cut2 (h2:∀ N:St→Hp→Prop,(∀ σ H,M σ H→N σ H)→Xh a b { D with nx:=N } σ H):Xh a (Xh b r) D σ H:=h2 (r D) h1
theorem cut3 (h2:∀ N:St→Hp→Prop,(∀ σ H,M σ H→N σ H)→Xh a (Xh b c) { D with nx:=N } σ H):Xh a (Xh b (Xh c r)) D σ H:=h2 (r D) h1
theorem cut4 (h2:∀ N:St→Hp→Prop,(∀ σ H,M σ H→N σ H)→Xh a (Xh b (Xh c d)) { D with nx:=N } σ H):Xh a (Xh b (Xh c (Xh d r))) D σ H:=h2 (r D) h1
theorem cut5 (h2:∀ N:St→Hp→Prop,(∀ σ H,M σ H→N σ H)→Xh a (Xh b (Xh c (Xh d e))) { D with nx:=N } σ H):Xh a (Xh b (Xh c (Xh d (Xh e r)))) D σ H:=h2 (r D) h1
end
theorem Yds (i j:Int):YaP (.int i) (.int j)=true:=rfl
theorem YU (i j:Str):YaP (.str i) (.str j)=true:=rfl
end L2
namespace L2
open PySem PySem.Spec PyProof.Rows
theorem YV {α:Type} {c:TT} {tb:TS} {D:Ends} {σ:St} {H:Hp} (Pv:α→St→Hp→Prop) (cond:α→Bool) (μ:α→Nat) (a₀:α) (h0:Pv a₀ σ H)
  (hc:∀ a σ H,Pv a σ H→∀ R:Bool→Hp→Prop,(∀ H',Pv a σ H'→R (cond a) H')→c σ H R)
  (hb:∀ a σ H,Pv a σ H→cond a=true→tb { D with nx:=fun σ' H'=>∃ a',Pv a' σ' H'∧μ a'<μ a,ct:=fun σ' H'=>∃ a',Pv a' σ' H'∧μ a'<μ a,bk:=D.nx } σ H)
  (hd:∀ a σ H,Pv a σ H→cond a=false→D.nx σ H):YbE c tb D σ H:=by
 refine ⟨fun m σ H=>∃ a,m=μ a∧Pv a σ H,⟨_,a₀,rfl,h0⟩,?_⟩
 rintro m σ H ⟨a,rfl,p⟩
 refine hc a σ H p _ fun H' p'=>?_
 cases e:cond a with
 | true=>exact ⟨_,fun σ' H' ⟨a',q,l⟩=>⟨_,l,a',rfl,q⟩,hb a σ H' p' e⟩
 | false=>exact hd a σ H' p' e
section
variable {X:Cx} {tg:Expr}
def Itd (hi:Int) (n:Nat):It:=⟨fun i _=>i<n,fun i H x H'=>H'=H∧x = .int (hi - i),fun i _=>n≤i⟩
theorem YbZ {P:Program} {w:World} {K:PySem.W.Frag} {tg:Expr} (it:Addr) (hi:Int) (n:Nat):Turn P w K tg (Itd hi n) [it] it (fun i h=>IsRangeIter h it (hi+(i:Nat)*(-1)) ((n:Int) - (i:Nat)) (-1)) where
 mem:=by simp
 obj:=fun i h st b hb=>by
  have e:b=it:=by simpa using hb
  subst e
  exact ⟨_,st,fun v z=>by
   have z':Data.fields _=Data.cell v:=z
   cases z'⟩
 keep:=fun i h h' st k=>k it (by simp) _ st
 item:=by
  intro X hP hw hK hc i pins s σ H E I hf st hg
  subst hP hw hK
  obtain ⟨f0,f1,f2,f3,f4,f5⟩:=hf it (by simp)
  have W:=Walks.range (prog:=X.prog) (w:=X.w) (I.ok.hd hc) it hi (-1) n
  refine W.item i s _ _ hg st fun v h' tk hv st' kk=>?_
  obtain ⟨t,rfl⟩:=hv
  have I1:Inv X pins σ H { s with heap:=h',toks:=tk }:=I.turned (fun b o hb e=>kk b o (by simpa using hb) e) f0 f1 f3 f4 f5
  refine ⟨_,rfl,UX (s:={ s with heap:=h',toks:=tk }) (n:="range_iterator") st' rfl rfl (by decide) ⟨.int (hi - i),H,I1,⟨t,?_⟩,⟨rfl,rfl⟩,st',fun b hb=>(hf b hb).1⟩⟩
  have:hi+(i:Int) * -1=hi - i:=by omega
  rw [this]
 done:=by
  intro X hP hw hK hc i pins s σ H E I hf st hg
  subst hP hw hK
  obtain ⟨f0,f1,f2,f3,f4,f5⟩:=hf it (by simp)
  exact wpAny_pyNext_range_end (I.ok.hd hc) st (by have:n≤i:=hg;omega) fun h' eb=>⟨rfl,I.turned (t':=s.toks) (fun b o hb e=>eb b o hb e) f0 f1 f3 f4 f5⟩
 self:=fun _ _ _ _ _ st h=>wpAny_pyIter_rangeiter st h
theorem Ya4 {a b:Int} (ha : -(2^62)≤a) (ha':a<2^62) (hb : -(2^62)≤b) (hb':b<2^62):Builtin.Range.small a b (-1)=true:=by
 have e:Builtin.Range.rangeSize a b (-1)=if a>b then a - b else 0:=by unfold Builtin.Range.rangeSize;simp
 unfold Builtin.Range.small
 rw [e]
 simp only [Builtin.Range.rangeFitsLong,Bool.and_eq_true,Bool.or_eq_true,decide_eq_true_eq,beq_iff_eq,show ¬ ((-1:Int)>0) by decide,if_false]
 split<;>omega
theorem Ydt {pins:List (Addr×Obj)} {σ:St} {H:Hp} {s:Shared} {R:It→Hp→Prop} {E:Value→Shared→Prop} {lo hi:Int} {t u v:Tok} {tk:Nat} (I:Inv X pins σ H s) (h1 : -(2^62)≤lo) (h2:lo<2^62) (h3 : -(2^62)≤hi) (h4:hi<2^62)
  (q:R (Itd lo (lo - hi).toNat) H):wpAny (model X.prog X.w) X.A (pyIter (.ref s.heap.objs.size)) (PIE X pins σ tg R) E { s with heap:=s.heap.push { cls := .type "range",data := .fields #[.int lo t,.int hi u,.int (-1) v] },toks:=tk }:=by
 refine wpAny_pyIter_range (IsRange.new ..) (Ya4 h1 h2 h3 h4) ?_
 have I1:Inv X pins σ H { s with heap:=s.heap.push { cls := .type "range",data := .fields #[.int lo t,.int hi u,.int (-1) v] },toks:=tk }:=I.kept fun b o e=>Heap.get?_push_of_some _ e
 refine ⟨(s.heap.push { cls := .type "range",data := .fields #[.int lo t,.int hi u,.int (-1) v] }).objs.size,[(s.heap.push { cls := .type "range",data := .fields #[.int lo t,.int hi u,.int (-1) v] }).objs.size],_,_,H,rfl,
  I1.kept (t':=tk) fun b o e=>Heap.get?_push_of_some _ e,YbZ _ lo (lo - hi).toNat,?_,fun b hb=>?_,q⟩
 ·have e1:lo+((0:Nat):Int)*(-1)=lo:=by simp
  have e2:(((lo - hi).toNat:Nat):Int) - ((0:Nat):Int)=Builtin.Range.rangeSize lo hi (-1):=by unfold Builtin.Range.rangeSize;simp;split<;>omega
  show IsRangeIter _ _ (lo+((0:Nat):Int)*(-1)) ((((lo - hi).toNat:Nat):Int) - ((0:Nat):Int)) (-1)
  rw [e1,e2]
  exact Heap.get?_push_size _ rfl
 ·have e:b=(s.heap.push { cls := .type "range",data := .fields #[.int lo t,.int hi u,.int (-1) v] }).objs.size:=by simpa using hb
  subst e
  exact I1.fpOk (Nat.le_refl _) (I1.hok.fresh (Nat.le_refl _))
def Yc0 (ta:TA):TI:=fun σ H R=>ta σ H fun vs H1=>∃ i j:Int,vs=[.int i,.int j,.int (-1)]∧(-(2^62)≤i∧i<2^62 ∧ -(2^62)≤j∧j<2^62)∧R (Itd i (i - j).toNat) H1
theorem UJ {a b c:Expr} {ta:TA} {p pos:Pos} (hg:Gl X "range") (hm:X.mg "range"=none) (ha:PA X [a,b,c] ta) (hs:starEach [a,b,c] X.env=[(false,eval a X.env),(false,eval b X.env),(false,eval c X.env)]) (hs2:starEach [b,c] X.env=[(false,eval b X.env),(false,eval c X.env)]) :
  PI X tg (.Call (.Name "range" p) [a,b,c] [] pos) (Yc0 ta):=by
 intro pins s σ H R I h
 refine Call_ (W3 I hg hm boot_range (PyProof.Rows.callWith_type1 (thn (ha pos pins s σ H _ I h) fun us s1 ⟨vs,H1,I1,r1,q1⟩=>?_) (by rw [hs,hs2]) (by rw [hs2];rfl)))
 obtain ⟨i,j,e,⟨q1,q2,q3,q4⟩,q⟩:=q1
 subst e
 cases r1 with
 | cons r rr =>
  cases rr with
  | cons r' rr =>
   cases rr with
   | cons r'' rr =>
    cases rr
    obtain ⟨t,rfl⟩:=r
    obtain ⟨t',rfl⟩:=r'
    obtain ⟨t'',rfl⟩:=r''
    exact call_range_3 (by decide) (Ydt I1 q1 q2 q3 q4 q) (.inl (PyProof.noPylong_small (by decide)))
end
end L2
namespace L2
open PySem PySem.Spec PyProof.Rows
theorem Ya5 {g:TG} {tb:TS} {D:Ends} {σ:St} {H:Hp} {K:PySem.W.Frag} {tl:TE} {xs:List V} (Pv:Addr→Nat→St→Hp→Prop) (ha:∀ R:V→Hp→Prop,(∀ c H1,Pv c 0 σ H1→R (.ref c) H1)→tl σ H R) (hl:∀ c i σ H,i≤xs.length→Pv c i σ H→SqL K H c xs)
  (hs:∀ c (i:Nat) x σ H,xs[i]?=some x→Pv c i σ H→g x σ H fun σ2 H2=>tb { D with nx:=Pv c (i+1),ct:=Pv c (i+1),bk:=D.nx } σ2 H2) (hd:∀ c σ H,Pv c xs.length σ H→D.nx σ H):Uj (Vj K tl) g tb D σ H:=by
 refine ha _ fun c H1 h0=>⟨c,rfl,⟨xs,hl c 0 σ H1 (Nat.zero_le _) h0⟩,?_⟩
 exact Qh (Pv c) h0 (hl c) (hs c) (hd c)
end L2
namespace L2
open PySem PySem.Spec PyProof.Rows
section
variable {src:List (Option Nat)} {te:TE} {σ:St} {H:Hp} {Q:VK}
end
end L2
namespace L2
open PySem PySem.Spec PyProof.Rows
section
variable {src:List (Option Nat)} {te:TE} {σ:St} {H:Hp} {Q:VK}
end
section
variable {X:Cx} {K:PySem.W.Frag}
end
end L2
namespace L2
open PySem PySem.Spec PyProof.Rows
section
variable {tb:TS} {D:Ends} {σ:St} {H:Hp}
theorem Yb0 {K:PySem.W.Frag} {ta:TA} (i j:Nat) {xs ys:List V} (Pv:Addr→Addr→Nat→St→Hp→Prop) (ha:∀ R:List V→Hp→Prop,(∀ a b H1,Pv a b 0 σ H1→R [.ref a,.ref b] H1)→ta σ H R)
  (hl:∀ a b n σ H,n≤min xs.length ys.length→Pv a b n σ H→SqL K H a xs∧SqL K H b ys)
  (hs:∀ a b (n:Nat) x y σ H T,xs[n]?=some x→ys[n]?=some y→Pv a b n σ H→H T=none→tb { D with nx:=Pv a b (n+1),ct:=Pv a b (n+1),bk:=D.nx } ((σ.set i (some x)).set j (some y)) (upd H T (.tup [x,y])))
  (hd:∀ a b σ H,Pv a b (min xs.length ys.length) σ H→D.nx σ H):Uj (YcX K ta) (WZ K 2 (Xq (YL i) (Xq (YL j) WY))) tb D σ H:=by
 refine ha _ fun a b H1 h0=>?_
 obtain ⟨s1,s2⟩:=hl a b 0 σ H1 (Nat.zero_le _) h0
 refine ⟨a,b,xs,ys,rfl,s1,s2,?_⟩
 refine ⟨fun n m σ H=>m=min xs.length ys.length - n∧n≤min xs.length ys.length∧Pv a b n σ H,⟨min xs.length ys.length,by simp,Nat.zero_le _,h0⟩,?_⟩
 rintro n m σ H ⟨rfl,hn,p⟩
 obtain ⟨g1,g2⟩:=hl a b n σ H hn p
 by_cases hlt:n<min xs.length ys.length
 ·have hx:xs[n]?=some (xs[n]'(by omega)):=List.getElem?_eq_getElem _
  have hy:ys[n]?=some (ys[n]'(by omega)):=List.getElem?_eq_getElem _
  refine .inr ⟨⟨xs,ys,_,_,g1,g2,hx,hy⟩,Pv a b (n+1),fun σ' H' p'=>⟨min xs.length ys.length - (n+1),by omega,rfl,hlt,p'⟩,?_⟩
  rintro v H' ⟨T,rfl,hT,heq⟩
  have e:=heq xs ys _ _ g1 g2 hx hy
  subst e
  exact ⟨T,_,rfl,SqT.of Ye,rfl,_,_,rfl,_,_,rfl,rfl,hs a b n _ _ σ H T hx hy p hT⟩
 ·have e:n=min xs.length ys.length:=by omega
  subst e
  refine .inl ⟨⟨xs,ys,g1,g2,?_⟩,hd a b σ H p⟩
  omega
end
end L2
namespace L2
open PySem PySem.Spec PyProof.Rows
section
variable {X:Cx} {e st:Expr} {te ts:TE} {pos p2:Pos}
end
end L2
namespace L2
open PySem PySem.Spec PyProof.Rows
section
variable {X:Cx} {pos:Pos}
end
def Gx.ConT (g:Gx) (x:Str) (xs:List V):Prop:=∃ c,g.mg x=some (.ref c)∧∀ H,SqT g.K H c xs
theorem Ydu {K:PySem.W.Frag} {h:Heap} {mg:Str→Option Value} {x:Str} {i:Addr} {dc:Option Addr} {its:Array Value} {n:Nat} {sl:Array (Option Value)} {xs:List V} (X:K.In h) (G:h.Ns mainGlobals mg)
  (a:PySem.W.nsIn K mainGlobals x=some (some (.ref i))) (l:K.lookup i=some ⟨.type "tuple",dc,.seq its n,sl⟩) (hz:its.size≤sizeLine) (r:Ys xs its.toList):∀ P w base,(Gx.mk P w K mg base).ConT x xs :=
 fun P w base=>⟨i,PySem.W.mg_of X G a,fun H => .inr ⟨_,its,n,l,rfl,rfl,hz,r⟩⟩
section
variable {X:Cx} {g:Gx} {x:Str} {pos:Pos}
def Yc1 (K:PySem.W.Frag) (xs:List V):TE:=fun _ H Q=>∀ c,SqT K H c xs→Q (.ref c) H
theorem pe_gt {xs:List V} (F:g.ConT x xs) (hX:X.gx=g) (hg:Gl X x) (hd:(x==("__debug__":Str))=false):PE X (.Name x pos) (Yc1 g.K xs):=by
 subst hX
 obtain ⟨c,e,hc⟩:=F
 exact fun pins s σ H Q I h=>Yab hg e (show YB (.ref c) (.ref c) from rfl) hd pins s σ H Q I (h c (hc H))
end
end L2
namespace L2
open PySem PySem.Spec PyProof.Rows
theorem YW {c A B:Prop} [Decidable c] (h:¬ c) (hb:B):if c then A else B:=by rw [if_neg h];exact hb
theorem X2 {c A B:Prop} [Decidable c] (h:c) (ha:A):if c then A else B:=by rw [if_pos h];exact ha
section
variable {src:List (Option Nat)} {te:TE} {σ:St} {H:Hp} {Q:VK}
end
section
variable {X:Cx} {K:PySem.W.Frag} {o e:Expr} {es:List Expr} {to:TE} {t:TA} {name:Str} {apos cpos:Pos} {T id:String} {r:V→List V→Hp→VK→Prop}
end
section
variable {X:Cx}
def CMulC (i j:Int):Prop:=V7 i j∨CMul i j
theorem Xt:OpR X (binaryOp .Mult) (rI CMulC fun i j => .int (i*j)):=opI fun _ _ _ _ _ _ _ hc q=>mul_int q (hc.elim (fun h=>h.ok) fun h=>h.ok)
end
end L2
namespace L2
open PySem PySem.Spec PyProof.Rows
section
variable {prog:Program} {w:World} {A:Around} {E:Value→Shared→Prop} {s:Shared} {z TI TO i1 i2 T:Addr} {S1 S2:Nat→Heap→Prop} {R1 R2:Heap→(Nat→Option Value)→Prop} {g1 g2:Nat→Option Value} {k:Nat} {a b:Value} {f:Bool} {oT:Obj}
end
section
variable {prog:Program} {w:World} {A:Around} {s:Shared} {R:Result→Shared→Prop} {z TI TO i1 i2 S p1 p2:Addr} {xs ys:List Value}
end
end L2
namespace L2
open PySem PySem.Calls PySem.Spec PyProof.Rows PyProof.V
section
variable {prog:Program} {w:World} {A:Around} {E:Value→Shared→Prop} {s:Shared} {z TI TO i1 i2 p1 p2:Addr} {xs ys:List Value}
end
end L2
namespace L2
open PySem PySem.Spec PyProof.Rows
section
variable {X:Cx} {pins:List (Addr×Obj)} {σ:St} {H H':Hp} {s:Shared} {h':Heap}
end
section
variable {X:Cx}
end
end L2
namespace L2
open PySem PySem.Spec PyProof.Rows
section
variable {src:List (Option Nat)} {te:TE} {σ:St} {H:Hp} {Q:VK}
end
end L2
namespace L2
open PySem PySem.Spec PyProof.Rows
section
variable {X:Cx}
theorem Ydv {i:Nat} {x:Str} {pos' apos:Pos} {elt tg iter:Expr} {ifs:List Expr} {scope:Scope} {pos:Pos} {src:List (Option Nat)} {N':List Str} {wi:TI} {g:TG} {tt:TT} {te:TE} (hN:X.N.Nodup) (hix:X.N[i]?=some x) (hlx:Loc X.env.scope x) (hcap:Cap X scope src N') (hc:X.calm=true) (hi:PI X tg iter wi)
  (hg:∀ cl C s₀ H₀ fp pn,PG (cxC X scope N' cl C s₀ H₀ fp pn) tg g) (ht:∀ cl C s₀ H₀ fp pn,PTs (cxC X scope N' cl C s₀ H₀ fp pn) ifs tt) (he:∀ cl C s₀ H₀ fp pn,PE (cxC X scope N' cl C s₀ H₀ fp pn) elt te)
  (hfree:∀ x,(x,NameKind.free)∈scope.names→X.env.scope.names.lookup x=some NameKind.cell∨X.env.scope.names.lookup x=some NameKind.free)
  (hk:scope.kind = .function) (hcell:∀ y∈scope.names,y.2 ≠ .cell) (hnames:∀ y∈scope.names,y.2 = .local→scope.names.lookup y.1=some .local)
  (hs:∀ x,foldedSetIterable iter X.env x=pure x) (hsw:swapsWithSole [.Name x pos'] (.ListComp elt [⟨tg,iter,ifs,0⟩] scope pos) apos.line X.env=pure true) (hf:X.fn x=true∨X.env.scope.names.lookup x=some .local) :
  PS X (.Assign [.Name x pos'] (.ListComp elt [⟨tg,iter,ifs,0⟩] scope pos) apos) (YaJ (tLC src wi g tt te) (YL i)):=by
 intro pins s σ H D0 I h
 have no:∀ {E:Value→Shared→Prop},∀ (e:Value) (s':Shared),False→E e s':=fun _ _ f=>f.elim
 obtain ⟨cl,hcl,a,b⟩:=V3 X.env scope fun x hx=>I.ok.has x (hfree x hx)
 rw [exec_Assign_arm]
 refine wpAny_bind (wpAny_standAt ?_)
 rw [hsw]
 refine wpAny_bind (wpAny_pure ?_)
 rw [if_pos rfl]
 refine wpAny_bind ?_
 rw [arm_evalThenUse_ListComp]
 refine wpAny_bind ?_
 refine wpAny_comprehension_free (use:=some _) rfl hs hcl hk hnames (thn (hi pins s σ H _ I h) fun v s1 h1=>thn h1 fun itv s2 h2=>?_)
 obtain ⟨it,fp,tn,J,H2,e,I2,T,st2,f2,q⟩:=h2
 subst e
 have hD:H2 s2.heap.objs.size=none:=I2.hok.fresh (Nat.le_refl _)
 obtain ⟨W,⟨m0,w0⟩,turn⟩:=q s2.heap.objs.size hD
 have I3:=I2.lnew (t':=s2.toks) (ys:=[]) (its:=[]) .nil (Nat.zero_le _)
 have fl2:∀ b∈fp,b<s2.heap.objs.size:=fun b hb=>by
  obtain ⟨o,e,_⟩:=T.obj _ _ st2 b hb
  exact Heap.lt_size e
 refine wpAny_newObj_type ?_
 generalize es3:({ s2 with heap:=s2.heap.push { cls := .type "list",dict:=none,data := .seq ([]:List Value).toArray } }:Shared)=s3
 have I3':Inv X pins σ (upd H2 s2.heap.objs.size (.lst [])) s3:=es3▸I3
 have keep3:∀ b o,s2.heap.get? b=some o→s3.heap.get? b=some o:=fun b o e=>by rw [← es3];exact Heap.get?_push_of_some _ e
 have st3:tn 0 s3.heap:=T.keep _ _ _ st2 fun b _ o e=>keep3 b o e
 have fl3:∀ b∈fp,b<s3.heap.objs.size:=fun b hb=>by
  obtain ⟨o,e,_⟩:=T.obj _ _ st3 b hb
  exact Heap.lt_size e
 have f3:∀ b∈fp,X1 X pins (upd H2 s2.heap.objs.size (.lst [])) b:=fun b hb=>⟨by rw [Yd (Nat.ne_of_lt (fl2 b hb))];exact (f2 b hb).1,(f2 b hb).2⟩
 generalize eD:s2.heap.objs.size=D at *
 generalize eH3:upd H2 D (.lst [])=H3 at *
 refine wpAny_newFunctionEnv hcell (by intro y hy;simp at hy) (fun h₁ hns₁ hsb₁=>?_) hk
 have keep4:∀ b o,s3.heap.get? b=some o→h₁.get? b=some o:=fun b o e=>hsb₁.extBut b o (Nat.ne_of_lt (Heap.lt_size e)) (Heap.get?_push_of_some _ e)
 have I4:=Qs (N':=N') (src:=src) (tk:=s3.toks+([]:List (Str×Value)).length) hk hcell hcap a b I3' f3 fl3 rfl keep4 hns₁
 -- the iterator's objects,through the block
 have stat:∀ {H':Hp},(∀ b∈fp,H' b=none)→∀ b∈fp,X1 (cxC X scope N' cl s3.heap.objs.size s3 H3 fp (X.pn++pins)) [] H' b:=fun hn b' hb=>by
  obtain ⟨f0,f1,fs,fe,f4,f5⟩:=f3 b' hb
  refine ⟨hn b' hb,Nat.ne_of_lt (fl3 b' hb),fun z=>?_,.inl hb,fun x c h=>f4 x c (a x c h),fun p hp=>f5 p (by simpa [cxC] using hp)⟩
  rcases List.mem_cons.mp (I3'.stkSub b' z) with e | e
  ·exact f1 e
  ·exact fs e
 -- behind the block
 have fin:∀ {H':Hp} {s':Shared} {σ':St} {pins':List (Addr×Obj)},Inv (cxC X scope N' cl s3.heap.objs.size s3 H3 fp (X.pn++pins)) pins' σ' H' s'→∀ h',Heap.SameBut s3.heap.objs.size s'.heap h'→Inv X pins σ H' { s' with heap:=h' }:=fun {H' s' σ' pins'} J' h' sb=>by
  have same:∀ b o,b≠s3.heap.objs.size→s'.heap.get? b=some o→h'.get? b=some o:=fun b o hb e=>sb.extBut b o hb e
  have u:Un (frs X.stack) fp H3 H' s3.heap s'.heap:=J'.base
  refine I3'.call' (s':={ s' with heap:=h' }) (ch:=fp) J'.os ⟨fun b o e n hb hx=>?_,fun b o e n hb hx=>?_,u.free,fun b o e hx=>?_,u.tups,u.frzs,u.tbls⟩ (fun b o e=>?_) J'.bare fun b hb=>?_
  ·exact same b o (Nat.ne_of_lt (Heap.lt_size e)) (u.keep b o e n hb hx)
  ·obtain ⟨sl,z⟩:=u.slot b o e n hb hx
   exact ⟨sl,same b _ (Nat.ne_of_lt (Heap.lt_size e)) z⟩
  ·obtain ⟨o',z⟩:=u.there b o e hx
   exact ⟨o',same b o' (Nat.ne_of_lt (Heap.lt_size e)) z⟩
  ·have nC:∀ c v,H' c=some v→c≠s3.heap.objs.size:=fun c v z q=>by
    have:=J'.free
    rw [show (cxC X scope N' cl s3.heap.objs.size s3 H3 fp (X.pn++pins)).env.locals=s3.heap.objs.size from rfl,← q,z] at this
    cases this
   refine (J'.hok b o e).stay (fun c v hc q=>same c v ?_ q) (fun _ q=>q) fun _ _ q=>q
   rcases hc with z | z
   ·rw [z];exact nC b o e
   ·exact nC c _ z
  ·obtain ⟨f0,f1,fs,fe,f4,f5⟩:=f3 b hb
   exact ⟨fe,f1,f4,f5⟩
 have loop:codeAny (model X.prog X.w) X.A (.compLoop (.ListComp elt [⟨tg,iter,ifs,0⟩] scope pos) 0 (.ref it) (.ref D) (compEnvC scope cl s3.heap.objs.size X.env))
   (compPost (model X.prog X.w) X.A X.xe (some fun v=>assignAll v ((assignEach [.Name x pos'] X.env).map (·.2))) (fun _ s'=>wpAny (model X.prog X.w) X.A (pure PUnit.unit) (fun _ s'=>wpAny (model X.prog X.w) X.A (pure Flow.next) (SP X pins D0) X.xe s') X.xe s') (.ref D) s3.heap.objs.size) { s3 with heap:=h₁,toks:=s3.toks+([]:List (Str×Value)).length }:=by
  refine UH (fun n s'=>∃ i ys σ' H',Inv (cxC X scope N' cl s3.heap.objs.size s3 H3 fp (X.pn++pins)) [] σ' H' s'∧tn i s'.heap∧(∀ b∈fp,H' b=none)∧W i n ys σ' H') ?_ m0 ⟨0,[],Y6 src σ,H3,I4,T.keep _ _ _ st3 fun b _ o e=>keep4 b o e,fun b hb=>(f3 b hb).1,w0⟩
  rintro n s5 ⟨i,ys,σ5,H5,I5,st5,fr5,w5⟩
  obtain ⟨hDs,stop | go⟩:=turn i n ys σ5 H5 w5
  ·obtain ⟨stop,qn⟩:=stop
   refine thn (T.done (cxC X scope N' cl s3.heap.objs.size s3 H3 fp (X.pn++pins)) rfl rfl rfl hc i [] s5 σ5 H5 _ I5 (stat fr5) st5 stop) fun r s6 ⟨hr,I6⟩=>?_
   subst hr
   obtain ⟨m,hn,_⟩:=id I6.loc
   have IO:Inv X pins σ H5 s6:=fin I6 s6.heap (Heap.SameBut.refl _ _)
   have hCn:H5 s3.heap.objs.size=none:=I6.free
   have hC:∀ {H':Hp},H' s3.heap.objs.size=none→X1 X pins H' s3.heap.objs.size:=fun {H'} z=>I3'.fpOk (Nat.le_refl _) z
   obtain ⟨oC,es,ep,hoC,rC⟩:=hn
   have IP:=IO.pinned (fp:=[s3.heap.objs.size]) (fun b hb=>by rw [List.mem_singleton.mp hb];exact hC hCn) (fun b hb=>by rw [List.mem_singleton.mp hb];exact ⟨oC,hoC,fun v z=>by (rw [rC.1] at z;cases z)⟩)
   show wpAny _ _ (assign (.Name x pos') X.env (.ref D)) _ _ _
   refine thn (YF hN hix hlx hf _ s6 σ H5 (.ref D) (.ref D) _ IP rfl qn) fun _ s7 ⟨σ7,H7,I7,q7⟩=>?_
   obtain ⟨g1,g2,_⟩:=I7.pin (s3.heap.objs.size,oC) (List.mem_append_right _ (List.mem_append_right _ (XG (List.mem_singleton.mpr rfl) hoC)))
   refine ⟨m,⟨oC,es,ep,g1,rC⟩,fun h' sb=>wpAny_pure (wpAny_pure ⟨σ7,H7,?_,q7⟩)⟩
   exact I7.unpinned.turnedL (t':=s7.toks) (ch:=[s3.heap.objs.size]) (fun b o hb e=>sb.extBut b o (fun z=>hb (by rw [z];exact List.mem_singleton.mpr rfl)) e) (fun b hb=>by rw [List.mem_singleton.mp hb];exact hC g2)
  ·obtain ⟨go,N,hN,step⟩:=go
   refine thn (T.item (cxC X scope N' cl s3.heap.objs.size s3 H3 fp (X.pn++pins)) rfl rfl rfl hc i [] s5 σ5 H5 _ I5 (stat fr5) st5 go) fun r s6 ⟨u,hr,h6⟩=>?_
   subst hr
   refine thn h6 fun _ s7 ⟨x,H7,I7,r7,y7,st7,fr7⟩=>?_
   have I7':=I7.pinned (stat fr7) (T.obj _ _ st7)
   have again:∀ {s8:Shared} {σ8:St} {H8:Hp} {ys':List V},Inv (cxC X scope N' cl s3.heap.objs.size s3 H3 fp (X.pn++pins)) ([]++W5 fp s7.heap) σ8 H8 s8→(∃ m',m'<n∧W (i+1) m' ys' σ8 H8) →
     ∃ m,m<n∧∃ i ys σ' H',Inv (cxC X scope N' cl s3.heap.objs.size s3 H3 fp (X.pn++pins)) [] σ' H' s8∧tn i s8.heap∧(∀ b∈fp,H' b=none)∧W i m ys σ' H':=fun {s8 σ8 H8 ys'} I8 ⟨m',hm,w8⟩=>by
    refine ⟨m',hm,i+1,ys',σ8,H8,I8.unpinned,T.keep _ _ _ st7 fun b hb o e=>(I8.pin (b,o) (List.mem_append_right _ (List.mem_append_right _ (XG hb e)))).1,fun b hb=>?_,w8⟩
    obtain ⟨o,e,d⟩:=T.obj _ _ st7 b hb
    exact (I8.pin (b,o) (List.mem_append_right _ (List.mem_append_right _ (XG hb e)))).2.1
   refine thn (hg cl _ s3 H3 fp _ _ s7 σ5 H7 x u _ I7' r7 (step x H7 y7)) fun _ s8 ⟨σ8,H8,I8,q8⟩=>?_
   refine thn (ht cl _ s3 H3 fp _ _ s8 σ8 H8 _ I8 q8) fun ok s9 ⟨H9,I9,q9⟩=>?_
   cases ok with
   | false=>exact again I9 (hN _ _ _ q9)
   | true =>
    rw [if_pos rfl]
    refine thn (he cl _ s3 H3 fp _ _ s9 σ8 H9 _ I9 q9) fun y s10 ⟨yv,H10,I10,r10,q10⟩=>?_
    obtain ⟨hDy,hlen,w10⟩:=q10
    refine thn (Y5 (X:=cxC X scope N' cl s3.heap.objs.size s3 H3 fp (X.pn++pins)) _ s10 σ8 H10 (.ref D) [yv] (.ref D) [y] (fun _ H'=>H'=upd H10 D (.lst (ys++[yv]))) I10 rfl (.cons r10 .nil) ⟨D,ys,yv,rfl,rfl,hDy,hlen,rfl⟩) fun _ s11 ⟨_,H11,I11,_,e11⟩=>?_
    subst e11
    exact again I11 (hN _ _ _ w10)
 exact codeAny_compStart_list loop (T.self _ 0 _ _ _ (T.keep _ _ _ st3 fun b _ o e=>keep4 b o e) loop)
end
end L2
namespace L2
open PySem PySem.Spec PyProof.Rows
structure Fly (P:Program) (w:World) (l:List Env) (H:Hp) (h:Heap) (e:Addr) (cls:Value) (H':Hp) (h' B:Heap):Prop where
 fl:∃ a0,Heap.FlyingW B l e cls a0 h'
 hok:HOk P w H' B
 keep:∀ b o,h.get? b=some o→H b=none→b∉frs l→B.get? b=some o
 slot:∀ b o,h.get? b=some o→H b=none→b∈frs l→∃ sl,h'.get? b=some { o with slots:=sl }
 al:∀ b o,h.get? b=some o→b∉frs l→∃ o',B.get? b=some o'
 free:∀ b o,h.get? b=some o→H b=none→H' b=none
 tups:∀ b xs,H b=some (.tup xs)→H' b=some (.tup xs)
 frzs:∀ b o u,H b=some (.frz o u)→H' b=some (.frz o u)
 tbls:∀ b ps,H b=some (.tbl ps)→∃ more,H' b=some (.tbl (ps++more))
section
variable {P:Program} {w:World} {l:List Env} {H H':Hp} {h h' h'' B:Heap} {e:Addr} {cls:Value}
theorem Fly.un (F:Fly P w l H h e cls H' h' B) (hf:∀ b∈frs l,H b=none):Un (frs l) [] H H' h h':=by
 obtain ⟨a0,fl⟩:=F.fl
 refine ⟨fun b o q n hb _=>fl.1 b o (F.keep b o q n hb),fun b o q n hb _=>F.slot b o q n hb,fun b o q n _=>F.free b o q n,fun b o q _=>?_,F.tups,F.frzs,F.tbls⟩
 by_cases hb:b∈frs l
 ·obtain ⟨sl,z⟩:=F.slot b o q (hf b hb) hb
  exact ⟨_,z⟩
 ·obtain ⟨o',z⟩:=F.al b o q hb
  exact ⟨o',fl.1 b o' z⟩
end
section
variable {X:Cx} {pins:List (Addr×Obj)} {σ:St} {H H':Hp} {s s':Shared} {h' B:Heap} {e:Addr} {cls:Value} {M:Model} {A:Around} {Q:Unit→Shared→Prop} {EE:Value→Shared→Prop}
end
section
variable {g:Gx} {N:List Str} {qual:Str} {st:Stmt} {f:Addr} {cdv:Value} {A:Around} {outer:List Env} {s:Shared} {H:Hp} {E:XK}
end
section
variable {g:Gx} {k:Nat} {x qual m:Str} {st:Stmt} {N ps:List Str} {sp:Sp} {C:Addr}
end
section
variable {g:Gx} {X:Cx} {k j:Nat} {x:Str} {ps:List Str} {sp:Sp} {E:XK} {e:Expr} {es:List Expr} {t:TA} {p pos cpos np:Pos}
theorem PS.nox {st:Stmt} {t:TS} (h:PS X.nox st t):PS X st t:=fun pins s σ H D I hw =>
 wpAny_mono (h pins s σ H D (I.wish _) hw) (fun _ _ q=>q.unwish) fun _ _ z=>False.elim z
end
abbrev Cx.caught (X:Cx) (e:Addr):Cx:={ X with A:=X.A.mark (some (.ref e)),calm:=false,xe:=fun _ _=>False }
section
variable {X:Cx} {pins:List (Addr×Obj)} {σ:St} {H H' H1:Hp} {s s1 s':Shared} {e:Value} {D:Ends} {ts:TS} {b₀:Stmt} {suite:List Stmt} {c:Str} {cv:Value} {cp hpos:Pos}
theorem Inv.caught (I:Inv X pins σ H s) (a:Addr):Inv (X.caught a) pins σ H s :=
 ⟨⟨I.ok.mod,I.ok.kind,I.ok.glob,I.ok.blt,I.ok.above,I.ok.inj,I.ok.has,I.ok.cab,fun z=>(by cases z),I.ok.frames,I.ok.stk,I.ok.exf,I.ok.bs,I.ok.bsz,I.ok.noex,I.ok.exfs,I.ok.funs,I.ok.frf⟩,I.os,I.bare,I.base,I.loc,I.cell,I.free,I.freeC,I.pin,I.hok,I.len⟩
end
section
variable {g:Gx} {X:Cx} {k j i:Nat} {x f c:Str} {ps:List Str} {sp:Sp} {e:Expr} {es:List Expr} {t:TA} {ts:TS} {b₀:Stmt} {suite:List Stmt} {cv:Value} {fp px cp hpos apos cpos pos:Pos}
end
end L2
namespace L2
open PySem PySem.Spec PyProof.Rows
section
variable {prog:Program} {w:World} {A:Around} {E:Value→Shared→Prop} {s:Shared}
open AutoSeq1 (wpAny_loadPart') in
end
section
variable {X:Cx} {elts:List Expr} {kk:Nat} {tpos:Pos}
end
section
variable {g:TG} {tb:TS} {D:Ends} {σ:St} {H:Hp}
end
end L2
namespace L2
open PySem PySem.Spec PyProof.Rows
section
variable {prog:Program} {w:World} {A:Around} {E:Value→Shared→Prop} {s:Shared}
open AutoSeq1 (wpAny_loadPart') in
end
end L2
namespace L2
open PySem PySem.Spec PyProof.Rows
section
variable {X:Cx} {elts:List Expr} {kk:Nat} {tpos:Pos}
end
section
variable {g:TG} {tb:TS} {D:Ends} {σ:St} {H:Hp}
end
section
variable {X:Cx} {tg:Expr}
end
end L2
namespace L2
open PySem PySem.Spec PyProof.Rows
section
variable {P:Program} {w:World} {l:List Env} {H H':Hp} {h h' h'' B:Heap} {a e:Addr} {cls:Value} {o:HO}
theorem Fly.new (F:Fly P w l H h e cls H' h' B) (hf:∀ b∈frs l,H b=none) (nf:∀ b∈frs l,∀ o,h.get? b=some o→∀ vs,o.data ≠ .fields vs):h.get? e=none:=by
 obtain ⟨a0,fl⟩:=F.fl
 cases q:h.get? e with
 | none=>rfl
 | some o =>
  by_cases hb:e∈frs l
  ·obtain ⟨sl,z⟩:=F.slot e o q (hf e hb) hb
   obtain ⟨oe,vs,z',_,d,_⟩:=fl.first
   rw [z] at z'
   cases z'
   exact absurd d (nf e hb o q vs)
  ·obtain ⟨o',z⟩:=F.al e o q hb
   rw [fl.2.1] at z
   cases z
end
section
variable {X:Cx} {pins:List (Addr×Obj)} {σ:St} {H H' H1:Hp} {s s1 s':Shared}
end
section
variable {X:Cx} {pins:List (Addr×Obj)} {σ:St} {H H' H1:Hp} {s s1 s':Shared} {e:Value} {D:Ends} {ts:TS} {b₀:Stmt} {suite:List Stmt} {c n:Str} {cv:Value} {cp hpos:Pos} {j:Nat}
end
end L2
namespace L2
open PySem PySem.Spec PyProof.Rows
section
variable {g:Gx} {X:Cx} {k jj i j:Nat} {x f c n:Str} {ps:List Str} {sp:Sp} {e:Expr} {es:List Expr} {t:TA} {ts:TS} {b₀:Stmt} {suite:List Stmt} {cv:Value} {fp px cp hpos apos cpos pos:Pos}
end
structure RoomM (k:Nat) (A:Around):Prop where
 dp:A.depth+3*k+5<recursionLimit
 un:A.units+16*k+200<cLine
theorem Room.m {k:Nat} {A:Around} (r:Room k A) (h:Option Value):RoomM k (A.mark h):=⟨r.dp,r.un⟩
section
variable {g:Gx} {k:Nat} {x qual:Str} {st:Stmt} {N ps:List Str} {sp:Sp}
end
section
variable {g:Gx} {X:Cx} {k j:Nat} {x:Str} {ps:List Str} {sp:Sp} {e:Expr} {es:List Expr} {t:TA} {p pos:Pos}
end
end L2
namespace PySem.W
open PySem PySem.Calls PyProof.Rows Builtin Builtin.ObjectAttr Builtin.Getset_descriptor
section
variable {prog:Program} {w:World} {A:Around} {E:Value→Shared→Prop} {K:Frag} {x C:Addr} {ox:Obj} {hh:Heap} {g:Array GenState} {d:Drawn} {t:Nat} {os:OsState}
end
end PySem.W
namespace L2
open PySem PySem.Spec PyProof.Rows
section
variable {X:Cx}
theorem Yd4 {g:Gx} {x:Str} {C:Addr} {pos:Pos} (h:g.mg x=some (.ref C)) (hX:X.gx=g:=by rfl) (hg:Gl X x:=by rfl) (hd:(x==("__debug__":Str))=false:=by decide):PE X (.Name x pos) (tC (.ref C)):=by
 subst hX
 exact Yab hg h rfl hd
end
theorem Ycw {X:Cx} {a:Addr}:(X.caught a).K=X.K:=rfl
end L2
namespace L2
open PySem PySem.Spec PyProof.Rows
theorem Yz {K:PySem.W.Frag} {C:Addr} {f:Str} (h:PySem.W.findIn K (.ref C) f=some none):Yb K C f:=h
end L2
namespace L2
open PySem PySem.Spec PyProof.Rows
section
variable {src:List (Option Nat)} {te:TE} {σ:St} {H:Hp} {Q:VK}
end
end L2
namespace L2
open PySem PySem.Spec PyProof.Rows
section
variable {X:Cx}
end
end L2
namespace L2
open PySem PySem.Spec PyProof.Rows
section
variable {src:List (Option Nat)} {te:TE} {σ:St} {H:Hp} {Q:VK}
end
end L2
namespace L2
open PySem PySem.Spec PyProof.Rows
def SqX (K:PySem.W.Frag) (H:Hp) (a:Addr) (xs:List V):Prop:=Rd H a (.lst xs)∨∃ (its:Array Value) (n:Nat),K.lookup a=some { cls := .type "list",data := .seq its n }∧its.size≤sizeLine∧Ys xs its.toList
theorem SqX.keep {K:PySem.W.Frag} {H H':Hp} {a:Addr} {xs:List V} (h:SqX K H a xs) (s:Yq H H'):SqX K H' a xs:=by
 rcases h with h | h
 ·rcases h with h | ⟨o,h⟩
  ·exact .inl (.inl (s _ _ h))
  ·exact .inl (.inr ⟨o,s _ _ h⟩)
 ·exact .inr h
section
variable {X:Cx}
end
end L2
namespace L2
open PySem PySem.Spec PyProof.Rows
section
variable {X:Cx} {g:Gx} {k j i:Nat} {x:Str} {ps:List Str} {sp:Sp} {p pos:Pos} {e:Expr} {es:List Expr} {t:TA}
end
theorem XH (es:List Expr) (x:Nat) (p:Pos) (es':List Expr) (env:Env):starEach (.Tuple es x p::es') env=(false,eval (.Tuple es x p) env)::starEach es' env:=rfl
theorem Qt (es:List Expr) (p:Pos) (es':List Expr) (env:Env):starEach (.List es p::es') env=(false,eval (.List es p) env)::starEach es' env:=rfl
end L2
namespace L2
open PySem PySem.Spec PyProof.Rows
section
variable {X:Cx} {pins:List (Addr×Obj)} {σ:St} {H:Hp} {s:Shared} {A:Around} {E Q:Value→Shared→Prop}
end
section
variable {X:Cx}
end
section
variable {src:List (Option Nat)} {te:TE} {σ:St} {Q:VK}
variable {X:Cx} {H:Hp}
end
end L2
namespace L2
open PySem PySem.Spec PyProof.Rows
section
open PySem.SeqAt
open PySem.AutoSeq1 (wpAny_loadPart')
open PySem.MeetsSeq PySem.MeetsSeq2 PySem.MeetsSeq3
variable {X:Cx}
end
end L2
namespace L2
open PySem PySem.Spec PyProof.Rows
section
open PySem.SeqAt
open PySem.AutoSeq1 (wpAny_loadPart')
open PySem.MeetsSeq PySem.MeetsSeq2 PySem.MeetsSeq3
variable {X:Cx}
variable {K:PySem.W.Frag}
end
end L2
namespace L2
open PySem
mutual
inductive KD:PyData→Prop
 | int (i:Int):KD (.int i)
 | tup {ds:List PyData}:KDs ds→KD (.tuple ds)
inductive KDs:List PyData→Prop
 | nil:KDs []
 | cons {d:PyData} {ds:List PyData}:KD d→KDs ds→KDs (d::ds)
end
mutual
theorem KD.eqv:∀ {d e:PyData},KD d→KD e→(PyData.eqv d e=true↔d=e)
 | _,_,.int i,.int j=>by rw [PyData.eqv];simp
 | _,_,.int i,.tup _=>by rw [PyData.eqv];simp
 | _,_,.tup _,.int i=>by rw [PyData.eqv];simp
 | _,_,.tup h,.tup k=>by
  rw [PyData.eqv,h.eqv k]
  simp
theorem KDs.eqv:∀ {ds es:List PyData},KDs ds→KDs es→(PyData.eqvAll ds es=true↔ds=es)
 | _,_,.nil,.nil=>by simp [PyData.eqvAll]
 | _,_,.nil,.cons _ _=>by simp [PyData.eqvAll]
 | _,_,.cons _ _,.nil=>by simp [PyData.eqvAll]
 | _,_,.cons (d:=d) (ds:=ds) h hs,.cons (d:=e) (ds:=es) k ks=>by
  rw [PyData.eqvAll,Bool.and_eq_true,h.eqv k,hs.eqv ks]
  simp
end
end L2
namespace L2
open PySem
section
variable {src:List (Option Nat)} {te:TE} {σ:St} {H:Hp} {Q:VK}
end
end L2
namespace L2
open PySem
mutual
inductive VL (H:Hp):V→PyData→List Addr→Prop
 | int (i:Int):VL H (.int i) (.int i) []
 | str (x:Str) (h:PyData.strOk x=true):VL H (.str x) (.str x) []
 | lst {a:Addr} {vs:List V} {ds:List PyData} {L:List Addr}:H a=some (.lst vs)→vs.length≤10000→VLs H vs ds L→VL H (.ref a) (.list ds) (a::L)
 | tup {a:Addr} {vs:List V} {ds:List PyData} {L:List Addr}:H a=some (.tup vs)→vs.length≤10000→VLs H vs ds L→VL H (.ref a) (.tuple ds) L
inductive VLs (H:Hp):List V→List PyData→List Addr→Prop
 | nil:VLs H [] [] []
 | cons {v:V} {d:PyData} {L:List Addr} {vs:List V} {ds:List PyData} {L':List Addr}:VL H v d L→VLs H vs ds L'→VLs H (v::vs) (d::ds) (L++L')
end
def Tps (H H':Hp):Prop:=∀ a vs,H a=some (.tup vs)→H' a=some (.tup vs)
theorem Yq.tps {H H':Hp} (s:Yq H H'):Tps H H':=fun a vs h=>s a _ h
theorem Tps.upd_lst {H:Hp} {p:Addr} {xs ys:List V} (h:H p=some (.lst xs)):Tps H (upd H p (.lst ys)):=fun a vs ha=>by
 rw [Yd (XD ha h (by intro z;cases z))];exact ha
mutual
theorem VL.keepL {H H':Hp} (t:Tps H H'):∀ {v:V} {d:PyData} {L:List Addr},VL H v d L→(∀ a∈L,∀ vs,H a=some (.lst vs)→H' a=some (.lst vs))→VL H' v d L
 | _,_,_,.int i,_ => .int i
 | _,_,_,.str x h,_ => .str x h
 | _,_,_,.lst h hn hs,e => .lst (e _ (.head _) _ h) hn (hs.keepL t fun a ha=>e a (.tail _ ha))
 | _,_,_,.tup h hn hs,e => .tup (t _ _ h) hn (hs.keepL t e)
theorem VLs.keepL {H H':Hp} (t:Tps H H'):∀ {vs:List V} {ds:List PyData} {L:List Addr},VLs H vs ds L→(∀ a∈L,∀ vs,H a=some (.lst vs)→H' a=some (.lst vs))→VLs H' vs ds L
 | _,_,_,.nil,_ => .nil
 | _,_,_,.cons h hs,e => .cons (h.keepL t fun a ha=>e a (List.mem_append_left _ ha)) (hs.keepL t fun a ha=>e a (List.mem_append_right _ ha))
end
theorem VL.keep {H H':Hp} {v:V} {d:PyData} {L:List Addr} (h:VL H v d L) (s:Yq H H'):VL H' v d L:=h.keepL s.tps fun a _ vs e=>s _ _ e
theorem VLs.keep {H H':Hp} {vs:List V} {ds:List PyData} {L:List Addr} (h:VLs H vs ds L) (s:Yq H H'):VLs H' vs ds L:=h.keepL s.tps fun a _ vs e=>s _ _ e
mutual
theorem VL.mem {H:Hp}:∀ {v:V} {d:PyData} {L:List Addr},VL H v d L→∀ a∈L,∃ vs,H a=some (.lst vs)∧vs.length≤10000
 | _,_,_,.lst (a:=b) h hn hs,a,ha=>by
  rcases List.mem_cons.mp ha with e | ha
  ·subst e;exact ⟨_,h,hn⟩
  ·exact hs.mem a ha
 | _,_,_,.tup h hn hs,a,ha=>hs.mem a ha
theorem VLs.mem {H:Hp}:∀ {vs:List V} {ds:List PyData} {L:List Addr},VLs H vs ds L→∀ a∈L,∃ vs,H a=some (.lst vs)∧vs.length≤10000
 | _,_,_,.cons h hs,a,ha=>by
  rcases List.mem_append.mp ha with ha | ha
  ·exact h.mem a ha
  ·exact hs.mem a ha
end
theorem VLs.length {H:Hp}:∀ {vs:List V} {ds:List PyData} {L:List Addr},VLs H vs ds L→vs.length=ds.length
 | _,_,_,.nil=>rfl
 | _,_,_,.cons _ hs=>congrArg (·+1) hs.length
theorem VLs.append {H:Hp} {vs':List V} {ds':List PyData} {L':List Addr}:∀ {vs:List V} {ds:List PyData} {L:List Addr},VLs H vs ds L→VLs H vs' ds' L'→VLs H (vs++vs') (ds++ds') (L++L')
 | _,_,_,.nil,h=>h
 | _,_,_,.cons a b,h=>by rw [List.append_assoc];exact .cons a (b.append h)
structure Owns (H0 H:Hp) (vs:List V) (ds:List PyData) (L:List Addr):Prop where
 vl:VLs H vs ds L
 nd:L.Nodup
 new:∀ a∈L,H0 a=none
theorem Owns.ext {H0 H1 H2:Hp} {vs:List V} {ds:List PyData} {L L':List Addr} {ys:List V} {es:List PyData} {D:Addr} {zs zs':List V} (h:Owns H0 H1 vs ds L) (hD:∀ a∈L,a≠D) (s0:Yq H0 H1) (s:Yq H1 H2) (o:Owns H1 H2 ys es L') (h1:H1 D=some (.lst zs)):Owns H0 (upd H2 D (.lst zs')) (vs++ys) (ds++es) (L++L')∧∀ a∈L++L',a≠D:=by
 have hD':∀ a∈L',a≠D:=fun a ha e=>by have:=o.new a ha;rw [e,h1] at this;cases this
 have t:Tps H2 (upd H2 D (.lst zs')) := .upd_lst (s _ _ h1)
 refine ⟨⟨((h.vl.keep s).keepL t fun a ha vs e=>by rw [Yd (hD a ha)];exact e).append (o.vl.keepL t fun a ha vs e=>by rw [Yd (hD' a ha)];exact e),?_,fun a ha=>?_⟩,fun a ha=>?_⟩
 ·refine List.nodup_append.mpr ⟨h.nd,o.nd,fun a ha b hb e=>?_⟩
  subst e
  obtain ⟨vs,e1,_⟩:=h.vl.mem a ha
  rw [o.new a hb] at e1
  cases e1
 ·rcases List.mem_append.mp ha with ha | ha
  ·exact h.new a ha
  ·exact s0.free (o.new a ha)
 ·rcases List.mem_append.mp ha with ha | ha
  ·exact hD a ha
  ·exact hD' a ha
section
variable {src:List (Option Nat)} {te:TE} {σ:St} {H:Hp} {Q:VK}
end
end L2
namespace L2
open PySem PySem.Spec PyProof.Rows
section
variable {X:Cx} {pos:Pos}
end
end L2
namespace L2
open PySem
section
variable {src:List (Option Nat)} {te:TE} {σ:St} {H:Hp} {Q:VK}
theorem XI {ta:TA} {n:Nat} (I:Addr→Nat→List V→Hp→Prop) (ha:∀ R:List V→Hp→Prop,R [.int n] H→ta σ H R) (hlen:n≤100000)
  (i0:∀ D,H D=none→I D 0 [] (upd H D (.lst []))) (dl:∀ D i zs H',I D i zs H'→zs.length=i∧H' D=some (.lst zs))
  (step:∀ D (i:Nat) zs H',H D=none→i<n→I D i zs H'→∀ R:VK,(∀ y H'',H'' D=some (.lst zs)→I D (i+1) (zs++[y]) (upd H'' D (.lst (zs++[y])))→R y H'')→te (some (.int i)::Y6 src σ) H' R)
  (fin:∀ D zs H',H D=none→I D n zs H'→Q (.ref D) H'):tLC (none::src) (YaM ta) (YL 0) Vk te σ H Q:=by
 refine ha _ ⟨n,rfl,by omega,by omega,fun D hD=>?_⟩
 have h6:100000<sizeLine:=by decide
 refine V4 (Q0 (lo:=0) (n:=n) (P:=fun _=>True)) (fun i zs σ' H'=>(∃ o,σ'=o::Y6 src σ)∧i≤n∧I D i zs H') ⟨⟨none,rfl⟩,Nat.zero_le _,i0 D hD⟩ (fun i zs σ' H' q=>⟨trivial,(dl _ _ _ _ q.2.2).2⟩) (Vm 0) ?_ ?_
 ·rintro i zs σ' H' x hx ⟨⟨o,rfl⟩,_,hI⟩
  have hi:i<n:=by have:=(List.getElem?_eq_some_iff.mp hx).1;simpa using this
  rw [List.getElem?_map,List.getElem?_range hi] at hx
  have e:V.int (0+(i:Int))=x:=Option.some.inj hx
  rw [Int.zero_add] at e
  subst e
  have hl:=(dl _ _ _ _ hI).1
  show te (some (.int i)::Y6 src σ) H' _
  exact step D i zs H' hD hi hI _ fun y H'' hd hI'=>⟨hd,by omega,⟨_,rfl⟩,hi,hI'⟩
 ·rintro zs σ' H' ⟨_,_,hI⟩
  exact fin D zs H' hD (by simpa using hI)
end
end L2
namespace L2
open PySem PySem.Spec PyProof.Rows
section
variable {g:Gx} {k:Nat} {x qual m:Str} {st:Stmt} {N ps:List Str} {sp:Sp} {C:Addr}
end
section
variable {g:Gx} {X:Cx} {k j:Nat} {x m:Str} {ps:List Str} {sp:Sp} {E:XK} {C:Addr} {e o:Expr} {es:List Expr} {t:TA} {ta:TE} {p pos apos:Pos}
end
section
variable {g:Gx} {X:Cx} {k jj j:Nat} {f c n:Str} {ps:List Str} {sp:Sp} {e:Expr} {es:List Expr} {t:TA} {ts:TS} {b₀:Stmt} {suite:List Stmt} {cv:Value} {fp cp hpos apos cpos pos:Pos}
end
end L2
namespace L2
open PySem PySem.Spec PyProof.Rows
def Ydw (l:List Str) (v:Str):List Str:=if l.any (·==v) then l else l++[v]
def met (val:Nat→Str) (i:Nat):List Str:=((List.range i).map val).foldl Ydw []
section
variable {prog:Program} {w:World} {A:Around} {R:Result→Shared→Prop} {I:Addr} {fp wr:List Addr} {G:Array GenState→Array GenState→Prop} {n:Nat} {P:Nat→Value→Prop} {St:Nat→Shared→Prop}
end
end L2
namespace L2
open PySem PySem.Spec PyProof.Rows
def sg (x:Str) (i:Nat):Str:=⟨#[x.cps.getD i 0]⟩
section
variable {prog:Program} {w:World} {A:Around} {E:Value→Shared→Prop} {s:Shared}
end
def SetO (a:Addr) (n:Nat):HO := .ext fun h=>∃ (o:Obj) (es:Array (Int×Value)) (ep:Nat) (t:SetTable),h.get? a=some o∧o.ExactSet∧o.data = .set es ep t∧t.fits es.size=true∧es.size=n∧n<scanBound
section
variable {X:Cx}
end
end L2
namespace L2
open PySem PySem.Spec PyProof.Rows
section
variable {X:Cx}
end
end L2
namespace L2
open PySem PySem.Spec PyProof.Rows
section
variable {X:Cx}
end
end L2
namespace L2
open PySem PySem.Spec PyProof.Rows
section
variable {X:Cx}
end
end L2
namespace L2
open PySem PySem.Spec PyProof.Rows
theorem UK {xs:List V} {its:List Value} (r:Ys xs its):∀ idx:List Nat,∃ ys,Ys ys (idx.filterMap (its.toArray[·]?))∧(∀ v∈ys,v∈xs)∧ys.length≤idx.length
 | []=>⟨[],.nil,(fun v h=>absurd h (by simp)),Nat.le_refl _⟩
 | i::idx=>by
  obtain ⟨ys,h1,h2,h3⟩:=UK r idx
  cases hx:xs[i]? with
  | none =>
   have hn:=r.none_of hx
   refine ⟨ys,?_,h2,by rw [List.length_cons];omega⟩
   rw [List.filterMap_cons,show its.toArray[i]?=none by simpa using hn]
   exact h1
  | some x =>
   obtain ⟨u,hu,ru⟩:=r.get hx
   refine ⟨x::ys,?_,?_,by rw [List.length_cons,List.length_cons];omega⟩
   ·rw [List.filterMap_cons,show its.toArray[i]?=some u by simpa using hu]
    exact .cons ru h1
   ·intro v hv
    rcases List.mem_cons.mp hv with rfl | hv
    ·exact List.mem_of_getElem? hx
    ·exact h2 v hv
section
variable {X:Cx} {e lo st:Expr} {te tl ts:TE} {pos p2:Pos}
def Yao (K:PySem.W.Frag) (te tl ts:TE):TE:=fun σ H Q=>te σ H fun x H1=>tl σ H1 fun y H2=>ts σ H2 fun z H3 =>
 ∃ (a:Addr) (xs:List V) (k n:Int),x = .ref a∧y = .int k∧z = .int n∧0≤k∧0<n∧SqL K H3 a xs∧∀ p ys,H3 p=none→(∀ v∈ys,v∈xs)→ys.length≤xs.length→Q (.ref p) (upd H3 p (.lst ys))
theorem Yb1 (he:PE X e te) (hl:PE X lo tl) (hs:PE X st ts):PE X (.Subscript e (.Slice (some lo) none (some st) p2) pos) (Yao X.K te tl ts):=by
 intro pins s σ H Q I h
 refine Subscript_ (thn (he pins s σ H _ I h) fun v s1 ⟨x,H1,I1,r1,q1⟩=>?_)
 refine wpAny_Slice ?_
 rw [evalPart_some]
 refine thn (hl pins s1 σ H1 _ I1 q1) fun ul s2 ⟨y,H2,I2,r2,q2⟩=>?_
 rw [evalPart_none]
 refine wpAny_pure ?_
 rw [evalPart_some]
 refine thn (hs pins s2 σ H2 _ I2 q2) fun u s3 ⟨z,H3,I3,r3,q3⟩=>?_
 obtain ⟨a,xs,k,n,rfl,rfl,rfl,hk,hn,hx,q⟩:=q3
 obtain ⟨t1,rfl⟩:=r2
 obtain ⟨t2,rfl⟩:=r3
 cases r1
 have I4:Inv X pins σ H3 { s3 with heap:=s3.heap.push { cls := .type "slice",data := .fields #[.int k t1,.none,.int n t2] } }:=I3.kept (t':=s3.toks) fun b ob q=>Heap.get?_push_of_some _ q
 obtain ⟨its,r,ht,hz⟩:=I4.list hx
 have hlen:=r.length
 obtain ⟨ys,v1,v2,v3⟩:=UK r (sliceRange (sliceBounds (some k) none (some n) its.toArray.size).1 (sliceBounds (some k) none (some n) its.toArray.size).2.1 (sliceBounds (some k) none (some n) its.toArray.size).2.2)
 have hb:sliceBounds (some k) none (some n) its.toArray.size=(max 0 (min k its.length),(its.length:Int),n):=by
  simp only [sliceBounds,Option.getD_some,List.size_toArray]
  rw [if_neg (show ¬ k<0 by omega),if_pos (show n>0 by omega),if_pos (show n>0 by omega)]
 have hle:ys.length≤its.length:=by
  refine Nat.le_trans v3 ?_
  rw [hb]
  exact sliceRange_length_le _ _ _ _ (fun _=>⟨by dsimp only;omega,by dsimp only;omega⟩) (fun z=>absurd (show n>0 by omega) z)
 have hg:=wpAny_getItem_list_slice (prog:=X.prog) (w:=X.w) (A:=X.A) (E:=X.xe) (Q:=EP X pins σ Q) ht.isList (Heap.IsSliceOf.new ..) (.int k t1) .none (.int n t2) (by intro z;have:=Option.some.inj z;omega) (by
  refine ⟨.ref _,_,I4.laid (t':=_) (o := .lst ys) (fun b ob q=>Heap.get?_push_of_some _ q) (Nat.le_refl _) ?_,rfl,q _ _ (I4.hok.fresh (Nat.le_refl _)) v2 (by omega)⟩
  exact ⟨by omega,_,0,v1,Heap.get?_push_size _ rfl⟩) (by rw [List.size_toArray]<;>omega)
 exact tail_any (ops:=[.ref a,.ref s3.heap.objs.size]) ht.isList.typeIs slot_list_getitem.lookup hg (by with_unfolding_all rfl)
end
structure ClsFn (K:PySem.W.Frag) (B:Addr) (m:Str) (f:Addr):Prop where
 ga:PySem.W.specialIn K (.ref B) "__getattribute__"=some (some (.builtin "type.__getattribute__"))
 rd:PySem.W.readsIn K B (.type "type")=true
 at_:PySem.W.findCls K (.ref B) (.type "type") m=some (.val (.ref f))
 kp:PySem.W.keepIn K (.ref f)=true
def Gx.Cf (g:Gx) (k:Nat) (x m:Str) (ps:List Str) (sp:Sp):Prop:=∃ B f fd,FnOk g.P g.w g.K g.mg g.base CX0 k f fd ps sp∧Xw g.K fd ps []∧ClsFn g.K B m f∧g.mg x=some (.ref B)
def Gx.RawC (g:Gx) (x m qual:Str) (st:Stmt) (ps:List Str):Prop:=∃ B f fd,Fun g.K m qual st f fd∧Xw g.K fd ps []∧ClsFn g.K B m f∧g.mg x=some (.ref B)
theorem Gx.Cf.mono {g:Gx} {j k:Nat} {x m:Str} {ps:List Str} {sp:Sp} (F:g.Cf j x m ps sp) (h:j≤k):g.Cf k x m ps sp:=by
 obtain ⟨B,f,fd,F,r⟩:=F
 exact ⟨B,f,fd,F.mono h,r⟩
section
variable {g:Gx} {X:Cx} {k j:Nat} {x m:Str} {ps:List Str} {sp:Sp} {e:Expr} {es:List Expr} {t:TA} {p pos apos:Pos}
theorem WU {pl:Sem Bool} (F:g.Cf j x m ps sp) (hr:Room k X.A) (ha:PA X (e::es) t) (hj:j≤k) (hX:X.gx=g) (hg:Gl X x) (hdb:(x==("__debug__":Str))=false)
  (hst:starEach (e::es) X.env=(false,eval e X.env)::starEach es X.env) (hpl:(backTo pos (starEach es X.env)).any (·.1)=false)
  (ht:eval (.Call (.Attribute (.Name x p) m apos) (e::es) [] pos) X.env=(do
   let ov ← eval (.Name x p) X.env
   standAt apos.atName
   let (f,first) ← holding [ov] (getMethod ov m pl)
   callWith pos f first (backTo pos (starEach (e::es) X.env)) (backToKw pos (keywordEach [] X.env)))):PE X (.Call (.Attribute (.Name x p) m apos) (e::es) [] pos) (VZ sp [] E0 t):=by
 subst hX
 obtain ⟨B,f,fd,F,b,c,hm⟩:=F
 intro pins s σ H Q I h
 refine PySem.W.methodCall_KW (pl:=pl) (thn (Yd4 (g:=X.gx) (pos:=p) hm rfl hg hdb pins s σ H (fun v H1=>v = .ref B∧H1=H) I ⟨rfl,rfl⟩) fun u s1 ⟨v,H1,I1,rv,e1,e2⟩=>?_) ht
 subst e1 e2
 obtain rfl:u=Value.ref B:=rv
 refine PySem.W.method_cls I1.kIn c.ga (PySem.W.cls_value I1.kIn c.rd c.at_ rfl ?_)
 have I2:=I1.tok (s1.toks+1)
 refine PySem.W.callWith_K (h₀:=X.base) I.ok.mod.kin c.kp (thn (ha pos pins _ σ H1 _ I2 h) fun us s2 ⟨vs,H2,I3,r,q2⟩=>⟨I3.kIn,?_⟩) hst hpl
 exact Qj (dvs:=[]) (ds:=[]) F (hr.mono hj) b .nil V2 I3 r q2
end
end L2
namespace L2
open PySem PySem.Spec PyProof.Rows
section
variable {X:Cx}
end
section
variable {K:PySem.W.Frag} {h:Heap} {mg:Str→Option Value} {P:Program} {w:World} {base:Heap} {f B:Addr} {x qual m:Str} {st:Stmt} {ps N:List Str} {oc kV dc pm cd ct:Value} {od an:Option Addr} {sl:Array (Option Value)} {g:Gx} {k:Nat} {sp:Sp}
theorem Gx.RawC.cf (R:g.RawC x m qual st ps) (S:FnScope N ps (Yj st)) (len:∀ vs H Q E,sp vs H Q E→vs.length=ps.length) (b:VT g k N qual st sp):g.Cf (k+1) x m ps sp:=by
 obtain ⟨B,f,fd,F,bd,c,hm⟩:=R
 exact ⟨B,f,fd,F.ok S len fun cdv A outer s H vs Q E hr h=>b f cdv A outer s H vs Q E hr h,bd,c,hm⟩
theorem Ydx (X:K.In h) (G:h.Ns mainGlobals mg) (ps:List Str) (aB:PySem.W.nsIn K mainGlobals x=some (some (.ref B))) (ga:PySem.W.specialIn K (.ref B) "__getattribute__"=some (some (.builtin "type.__getattribute__")))
  (rd:PySem.W.readsIn K B (.type "type")=true) (a:PySem.W.findCls K (.ref B) (.type "type") m=some (.val (.ref f)))
  (l:K.lookup f=some ⟨oc,od,.func (PySem.W.fnOf m qual (Xk st) (Xf st) (Yj st) .none kV dc pm an cd ct),sl⟩) (c:PySem.W.codeIn K cd qual=true) (k:PySem.W.keepIn K (.ref f)=true)
  (b:∀ (kV doc pm:Value) (an:Option Addr) (cdv ct:Value) (us:List Value),us.length=ps.length→bindArgs (PySem.W.fnOf m qual (Xk st) (Xf st) (Yj st) .none kV doc pm an cdv ct) ⟨us,[]⟩=pure (ps.zip us)) :
  ∀ P w base,(Gx.mk P w K mg base).RawC x m qual st ps:=fun P w base =>
 have F:=Vx (st:=st) l c k
 ⟨B,f,_,F,F.binds b,⟨ga,rd,a,k⟩,PySem.W.mg_of X G aB⟩
end
end L2
namespace L2
def Yap (a b:TE):TE:=fun σ H Q=>a σ H Q∨b σ H Q
theorem Ym {X:Cx} {e:PySem.Expr} {a b:TE} (ha:PE X e a) (hb:PE X e b):PE X e (Yap a b):=fun pins s σ H Q I h=>h.elim (fun z=>ha pins s σ H Q I z) (fun z=>hb pins s σ H Q I z)
end L2
namespace L2
open PySem PySem.Spec PyProof.Rows
section
variable {g:TG} {tb:TS} {D:Ends} {σ:St} {H:Hp}
end
def V0s (H:Hp) (us:List V) (ds:List PyData):Prop:=us.length=ds.length∧∀ (i:Nat) u d,us[i]?=some u→ds[i]?=some d→VL H u d []
theorem V0s.keep {H H':Hp} {us:List V} {ds:List PyData} (h:V0s H us ds) (t:Tps H H'):V0s H' us ds:=⟨h.1,fun i u d h1 h2=>(h.2 i u d h1 h2).keepL t fun a ha=>absurd ha (by simp)⟩
theorem V0s.nil {H:Hp}:V0s H [] []:=⟨rfl,fun i u d h=>by simp at h⟩
theorem V0s.append {H:Hp} {us us':List V} {ds ds':List PyData} (h:V0s H us ds) (h':V0s H us' ds'):V0s H (us++us') (ds++ds'):=by
 refine ⟨by rw [List.length_append,List.length_append,h.1,h'.1],fun i u d h1 h2=>?_⟩
 by_cases hi:i<us.length
 ·rw [List.getElem?_append_left hi] at h1
  rw [List.getElem?_append_left (by rw [← h.1];exact hi)] at h2
  exact h.2 i u d h1 h2
 ·rw [List.getElem?_append_right (by omega)] at h1
  rw [List.getElem?_append_right (by rw [← h.1];omega),← h.1] at h2
  exact h'.2 _ u d h1 h2
end L2
namespace L2
open PySem
end L2
namespace L2
open PySem
end L2
namespace L2
open PySem PySem.Spec PyProof.Rows
section
variable {X:Cx} {elts:List Expr} {kk:Nat} {tpos:Pos}
end
section
variable {tb:TS} {D:Ends} {σ:St} {H:Hp}
end
end L2
namespace L2
open PySem
end L2
namespace L2
open PySem PySem.Spec PyProof.Rows
abbrev FnO (f:Addr) (fd:FuncData):HO := .ext fun h=>h.get? f=some { cls := .type "function",data := .func fd }
abbrev CdO (c:Addr) (q:Str):HO := .ext fun h=>h.CodeRec (.ref c) q
abbrev CellO (c:Addr) (v:V):HO := .ext fun h=>∃ u,YB v u∧h.IsCell c (some u)
section
variable {P:Program} {w:World} {H H':Hp} {h h':Heap}
end
def off (H:Hp) (cs:List Addr):Hp:=fun b=>if b∈cs then none else H b
def on (H' H:Hp) (cs:List Addr):Hp:=fun b=>if b∈cs then H b else H' b
section
variable {H H':Hp} {cs:List Addr} {b:Addr} {o:HO}
end
abbrev Vz:=List (Str×Addr×V)
def Vz.In (l:Vz) (H:Hp):Prop:=∀ p∈l,H p.2.1=some (CellO p.2.1 p.2.2)
theorem Vz.In.keep {l:Vz} {H H':Hp} (h:l.In H) (s:Yq H H'):l.In H':=fun p hp=>s _ _ (h p hp)
section
variable {l:Vz} {H:Hp}
end
section
variable {P:Program} {w:World} {K:PySem.W.Frag} {mg:Str→Option Value} {base:Heap} {N ps:List Str} {qual name:Str} {scope:Scope} {f c:Addr} {A:Around} {outer:List Env} {s:Shared} {H:Hp} {us:List Value} {vs:List V} {l:Vz} {cd:Value}
end
def ClIn (H:Hp) (f c:Addr) (fd:FuncData) (qual:Str) (l:Vz):Prop:=H f=some (FnO f fd)∧H c=some (CdO c qual)∧l.In H
theorem ClIn.keep {H H':Hp} {f c:Addr} {fd:FuncData} {qual:Str} {l:Vz} (h:ClIn H f c fd qual l) (s:Yq H H'):ClIn H' f c fd qual l:=⟨s _ _ h.1,s _ _ h.2.1,h.2.2.keep s⟩
end L2
namespace L2
open PySem PySem.Spec PyProof.Rows
section
variable {X:Cx} {pins:List (Addr×Obj)} {σ:St} {H:Hp} {s:Shared}
end
section
variable {X:Cx} {c P:Addr} {name qual:Str} {params:Arguments} {body:List Stmt} {eb:Expr} {scope:Scope} {clos:List (Str×Addr)} {pos:Pos} {ln:Nat}
end
section
variable {X:Cx} {st:Stmt} {XL:List Stmt} {t:TS} {u:(St→V→Hp→Prop)→St→Hp→Prop} {e:Expr} {te:TE} {pos:Pos}
end
end L2
namespace L2
open PySem PySem.Spec PyProof.Rows
section
variable {X:Cx} {g:Gx} {k j i:Nat} {x:Str} {p pos:Pos} {e:Expr} {es:List Expr} {t:TA}
end
end L2
namespace HT
open PySem PySem.Spec PyProof.Rows
variable {prog:Program} {w:World} {A:Around} {E:Value→Shared→Prop} {s:Shared}
end HT
namespace L2
open PySem PySem.Spec PyProof.Rows
end L2
namespace L2
open PySem PySem.Spec PyProof.Rows
section
variable {tb:TS} {D:Ends} {σ:St} {H:Hp}
end
section
variable {src:List (Option Nat)} {te:TE} {tt:TT} {σ:St} {H:Hp} {Q:VK}
end
end L2
namespace L2
open PySem PySem.Spec PyProof.Rows
end L2
namespace L2
open PySem PySem.Spec PyProof.Rows
section
variable {g:Gx} {x qual:Str} {st:Stmt} {N ps:List Str} {dvs:List V} {sp:Sp} {j k:Nat}
variable {X:Cx} {p pos:Pos} {e:Expr} {es:List Expr} {t:TA}
end
section
variable {X:Cx}
end
section
variable {src:List (Option Nat)} {te:TE} {σ:St} {H:Hp} {Q:VK}
theorem Yb2 {K:PySem.W.Frag} {tl:TE} {xs:List V} {b:Addr} (I:Addr→Nat→List V→Hp→Prop) (ha:∀ R:V→Hp→Prop,R (.ref b) H→tl σ H R) (hS:SqL K H b xs) (hlen:xs.length≤100000)
  (i0:∀ D,H D=none→I D 0 [] (upd H D (.lst []))) (dl:∀ D i zs H',H D=none→I D i zs H'→zs.length=i∧H' D=some (.lst zs)∧SqL K H' b xs)
  (step:∀ D (i:Nat) x zs H',H D=none→xs[i]?=some x→I D i zs H'→∀ R:VK,(∀ y H'',H'' D=some (.lst zs)→I D (i+1) (zs++[y]) (upd H'' D (.lst (zs++[y])))→R y H'')→te (some x::Y6 src σ) H' R)
  (fin:∀ D zs H',H D=none→I D xs.length zs H'→Q (.ref D) H'):tLC (none::src) (Vj K tl) (YL 0) Vk te σ H Q:=by
 refine ha _ ⟨b,rfl,⟨xs,hS⟩,fun D hD=>?_⟩
 have h6:100000<sizeLine:=by decide
 refine V4 Vl (fun i zs σ' H'=>(∃ o,σ'=o::Y6 src σ)∧i≤xs.length∧I D i zs H') ⟨⟨none,rfl⟩,Nat.zero_le _,i0 D hD⟩ (fun i zs σ' H' q=>⟨(dl _ _ _ _ hD q.2.2).2.2,(dl _ _ _ _ hD q.2.2).2.1⟩) (Vm 0) ?_ ?_
 ·rintro i zs σ' H' x hx ⟨⟨o,rfl⟩,_,hI⟩
  have hi:i<xs.length:=(List.getElem?_eq_some_iff.mp hx).1
  have hl:=(dl _ _ _ _ hD hI).1
  show te (some x::Y6 src σ) H' _
  exact step D i x zs H' hD hx hI _ fun y H'' hd hI'=>⟨hd,by omega,⟨_,rfl⟩,hi,hI'⟩
 ·rintro zs σ' H' ⟨_,_,hI⟩
  exact fin D zs H' hD hI
end
end L2
namespace L2
open PySem PySem.Spec PyProof.Rows
mutual
inductive RK (h:Heap):Value→PyData→Prop
 | int (i:Int) (t:Tok):RK h (.int i t) (.int i)
 | str (x:Str) (t:Tok) (hx:PyData.strOk x=true):RK h (.str x t) (.str x)
 | tup {a:Addr} {o:Obj} {vs:Array Value} {n:Nat} {ds:List PyData}:h.get? a=some o→o.cls = .type "tuple"→o.data = .seq vs n→RKs h vs.toList ds→RK h (.ref a) (.tuple ds)
inductive RKs (h:Heap):List Value→List PyData→Prop
 | nil:RKs h [] []
 | cons {v:Value} {d:PyData} {vs:List Value} {ds:List PyData}:RK h v d→RKs h vs ds→RKs h (v::vs) (d::ds)
end
mutual
inductive KO:PyData→Prop
 | int (i:Int):KO (.int i)
 | str (x:Str):KO (.str x)
 | tup {ds:List PyData}:KOs ds→KO (.tuple ds)
inductive KOs:List PyData→Prop
 | nil:KOs []
 | cons {d:PyData} {ds:List PyData}:KO d→KOs ds→KOs (d::ds)
end
mutual
theorem RK.ko {h:Heap}:∀ {v:Value} {d:PyData},RK h v d→KO d
 | _,_,.int i t => .int i
 | _,_,.str x t _ => .str x
 | _,_,.tup _ _ _ hs => .tup hs.ko
theorem RKs.ko {h:Heap}:∀ {vs:List Value} {ds:List PyData},RKs h vs ds→KOs ds
 | _,_,.nil => .nil
 | _,_,.cons a b => .cons a.ko b.ko
end
mutual
theorem RK.reads {h:Heap}:∀ {v:Value} {d:PyData},RK h v d→(∃ as,Reads h v d as)∧d.canLay0=true
 | _,_,.int i t=>⟨⟨_,.int i t⟩,rfl⟩
 | _,_,.str x t hx=>⟨⟨_,.str x t⟩,by simpa [PyData.canLay0] using hx⟩
 | _,_,.tup h1 h2 h3 hs=>by
  obtain ⟨⟨as,r⟩,l⟩:=hs.reads
  exact ⟨⟨_,.tuple h1 h2 h3 r⟩,by rw [PyData.canLay0];exact l⟩
theorem RKs.reads {h:Heap}:∀ {vs:List Value} {ds:List PyData},RKs h vs ds→(∃ as,ReadsAll h vs ds as)∧PyData.canLayAll0 ds=true
 | _,_,.nil=>⟨⟨_,.nil⟩,rfl⟩
 | _,_,.cons a b=>by
  obtain ⟨⟨as,r⟩,l⟩:=a.reads
  obtain ⟨⟨bs,r'⟩,l'⟩:=b.reads
  exact ⟨⟨_,.cons r r'⟩,by rw [PyData.canLayAll0,l,l'];rfl⟩
end
theorem RK.of {h:Heap} {d:PyData} {v:Value} {as:List Addr} (k:KO d) (r:Reads h v d as) (l:d.canLay0=true):RK h v d:=by
 induction k using KO.rec (motive_2:=fun ds _=>∀ {vs:List Value} {as:List Addr},ReadsAll h vs ds as→PyData.canLayAll0 ds=true→RKs h vs ds) generalizing v as with
 | int i=>cases r with | int _ t=>exact .int i t
 | str x=>cases r with | str _ t=>exact .str x t (by simpa [PyData.canLay0] using l)
 | tup _ ih=>cases r with | tuple h1 h2 h3 hs=>exact .tup h1 h2 h3 (ih hs (by rw [PyData.canLay0] at l;exact l))
 | nil=>rename_i r l;cases r;exact .nil
 | cons _ _ ih ihs =>
  rename_i r l
  rw [PyData.canLayAll0,Bool.and_eq_true] at l
  cases r with | cons r rs=>exact .cons (ih r l.1) (ihs rs l.2)
theorem RK.inj {h:Heap} {d:PyData} {v:Value} {e:PyData} (a:RK h v d) (b:RK h v e):d=e:=by
 obtain ⟨⟨_,r⟩,l⟩:=a.reads
 obtain ⟨⟨_,r'⟩,_⟩:=b.reads
 exact (r.unique _ _ r').1
mutual
theorem RK.keeps {h h':Heap} {x:Addr} {o:Obj} {es:Array DictEntry} {ep:Nat} (ho:h.get? x=some o) (hd:o.data = .dict es ep) (hs:Heap.SameBut x h h'):∀ {v:Value} {d:PyData},RK h v d→RK h' v d
 | _,_,.int i t => .int i t
 | _,_,.str y t hy => .str y t hy
 | _,_,.tup (a:=a) h1 h2 h3 ks=>by
  have hne:a≠x:=by
   rintro rfl
   rw [ho] at h1
   cases h1
   rw [hd] at h3
   exact nomatch h3
  exact .tup ((hs.2 a hne).trans h1) h2 h3 (RKs.keeps ho hd hs ks)
theorem RKs.keeps {h h':Heap} {x:Addr} {o:Obj} {es:Array DictEntry} {ep:Nat} (ho:h.get? x=some o) (hd:o.data = .dict es ep) (hs:Heap.SameBut x h h'):∀ {vs:List Value} {ds:List PyData},RKs h vs ds→RKs h' vs ds
 | _,_,.nil => .nil
 | _,_,.cons a b => .cons (RK.keeps ho hd hs a) (RKs.keeps ho hd hs b)
end
noncomputable instance decPy:DecidableEq PyData:=fun a b=>Classical.propDecidable (a=b)
mutual
theorem KO.eqv:∀ {d e:PyData},KO d→KO e→d.eqv e=decide (d=e)
 | .int a,.int b,_,_=>by
  by_cases h:a=b
  ·subst h;simp [PyData.eqv]
  ·simp [PyData.eqv,h]
 | .str a,.str b,_,_=>by
  by_cases h:a=b
  ·subst h;simp [PyData.eqv]
  ·simp [PyData.eqv,h]
 | .int a,.str b,_,_=>by simp [PyData.eqv]
 | .str a,.int b,_,_=>by simp [PyData.eqv]
 | .int a,.tuple b,_,_=>by simp [PyData.eqv]
 | .str a,.tuple b,_,_=>by simp [PyData.eqv]
 | .tuple a,.int b,_,_=>by simp [PyData.eqv]
 | .tuple a,.str b,_,_=>by simp [PyData.eqv]
 | .tuple a,.tuple b,.tup x,.tup y=>by
  rw [PyData.eqv,KOs.eqv x y]
  by_cases h:a=b
  ·subst h;simp
  ·simp [h]
theorem KOs.eqv:∀ {ds es:List PyData},KOs ds→KOs es→PyData.eqvAll ds es=decide (ds=es)
 | [],[],_,_=>by simp [PyData.eqvAll]
 | [],_::_,_,_=>by simp [PyData.eqvAll]
 | _::_,[],_,_=>by simp [PyData.eqvAll]
 | d::ds,e::es,.cons x xs,.cons y ys=>by
  rw [PyData.eqvAll,KO.eqv x y,KOs.eqv xs ys]
  by_cases h:d=e
  ·subst h
   by_cases h2:ds=es
   ·subst h2;simp
   ·simp [h2]
  ·simp [h]
end
section
variable {P:Program} {w:World}
mutual
def kh (P:Program) (w:World):PyData→Int
 | .int i=>(XW P w).hash (.inl i)
 | .str x=>(XW P w).hash (.inr x)
 | .tuple ds=>reduceHash (Builtin.Tuple.tupleHashOf (khs P w ds))
 | _=>0
def khs (P:Program) (w:World):List PyData→List Int
 | []=>[]
 | d::ds=>kh P w d::khs P w ds
end
mutual
def kdr:PyData→Nat
 | .int _=>1
 | .str _=>1
 | .tuple ds=>Wq ds+1
 | _=>0
def Wq:List PyData→Nat
 | []=>0
 | d::ds=>kdr d+Wq ds
end
theorem Ydy (a b:List PyData):khs P w (a++b)=khs P w a++khs P w b:=by
 induction a with
 | nil=>simp [khs]
 | cons x a ih=>simp [khs,ih]
theorem Ycx (a b:List PyData):Wq (a++b)=Wq a+Wq b:=by
 induction a with
 | nil=>simp [Wq]
 | cons x a ih=>simp [Wq,ih,Nat.add_assoc]
theorem Ycy (a b:List PyData):PyData.depthAll (a++b)=max (PyData.depthAll a) (PyData.depthAll b):=by
 induction a with
 | nil=>simp [PyData.depthAll]
 | cons x a ih=>simp [PyData.depthAll,ih,Nat.max_assoc]
theorem V8 {s:Shared} {a:Addr} {o:Obj} (h1:s.heap.get? a=some o) (h2:o.cls = .type "tuple"):s.TypeIs (.ref a) "tuple":=⟨o,h1,h2⟩
theorem Yaq:∀ (n:Nat) {A:Around} {E:Value→Shared→Prop} {s:Shared} {v:Value} {d:PyData} {Q:Int→Shared→Prop},RK s.heap v d→d.depth≤n→A.units+n<cLine→Q (kh P w d) { s with toks:=s.toks+kdr d }→wpAny (model P w) A (pyHash v) Q E s
 | n,A,E,s,_,_,Q,.int i t,_,_,h=>(XW P w).pyHash (YcW (k := .inl i) (show YB (.int i) (.int i t) from ⟨t,rfl⟩)) (by simpa [kh,kdr] using h)
 | n,A,E,s,_,_,Q,.str x t _,_,_,h=>(XW P w).pyHash (YcW (k := .inr x) (show YB (.str x) (.str x t) from ⟨t,rfl⟩)) (by simpa [kh,kdr] using h)
 | 0,A,E,s,_,_,Q,.tup _ _ _ _,hd,_,h=>by simp [PyData.depth] at hd
 | n+1,A,E,s,_,_,Q,.tup (a:=a) (ds:=ds) h1 h2 h3 ks,hd,hu,h=>by
  have hT:=V8 h1 h2
  unfold pyHash
  first | unfold pyHashByItsType | skip
  first | refine wpAny_bind (wpAny_cRoomFor_or (.inr (by omega)) ?_) | skip
  refine wpAny_bind (wpAny_specialOf hT F.slot_tuple_hash.lookup ?_)
  show wpAny _ _ (if (some (Value.builtin "tuple.__hash__")==some Value.none)=true then _ else _) Q E s
  rw [if_neg (by rw [beq_builtin_none];exact Bool.false_ne_true)]
  refine wpAny_bind (wpAny_specialOf hT F.slot_tuple_hash.lookup ?_)
  refine wpAny_bind (wpAny_callSpecialIfBoundUnlessNone?_slot hT F.slot_tuple_hash (wpAny_call_entry F.slot_tuple_hash hT F.entry_tuple_hash ?_ (F.args_tuple_hash_1 _)))
  show wpAny _ _ (Builtin.Tuple.tupleItemsOf (.ref a) >>= _) _ _ s
  refine wpAny_bind (wpAny_tupleItemsOf h1 h3 ?_)
  refine wpAny_bind ?_
  rw [← Array.forIn_toList]
  have hdd:PyData.depthAll ds≤n:=by simp only [PyData.depth] at hd;omega
  refine wpAny_forIn_list _ (fun XL (b:Array Int) s'=>∃ done left,ds=done++left∧RKs s.heap XL left∧b.toList=khs P w done∧s'={ s with toks:=s.toks+Wq done }) _ ?_ ?_ _ _ ⟨[],ds,rfl,ks,by simp [khs],by simp [Wq]⟩
  ·rintro x XL b s' ⟨done,left,e,hl,hb,rfl⟩
   cases hl with
   | @cons _ d _ ds' hk hl' =>
    have hdk:d.depth≤n:=by
     rw [e,Ycy] at hdd
     simp only [PyData.depthAll] at hdd
     omega
    have hin:A.in1.units+n<cLine:=by
     have:A.in1.units=A.units+1:=rfl
     omega
    refine wpAny_bind (Yaq n (s:={ s with toks:=s.toks+Wq done }) hk hdk hin ?_)
    have fin:∃ done' left',ds=done'++left'∧RKs s.heap XL left'∧(b.push (kh P w d)).toList=khs P w done'∧({ s with toks:=s.toks+Wq done+kdr d }:Shared)={ s with toks:=s.toks+Wq done' } :=
     ⟨done++[d],ds',by rw [e];simp,hl',by rw [Ydy,Array.toList_push,hb];simp [khs],by rw [Ycx];simp [Wq,Nat.add_assoc]⟩
    first
     | exact wpAny_pure fin
     | exact wpAny_bind (wpAny_pure (wpAny_pure fin))
  ·rintro b s' ⟨done,left,e,hl,hb,rfl⟩
   cases hl
   rw [List.append_nil] at e
   subst e
   show wpAny _ _ (retInt (Builtin.Tuple.tupleHashOf b.toList)) _ _ _
   rw [hb]
   refine wpAny_ret_mkInt ?_
   simp only [kh,kdr] at h
   unfold reduceHash at h
   show wpAny _ _ (if (decide (-(2:Int)^63≤Builtin.Tuple.tupleHashOf (khs P w ds))&&decide (Builtin.Tuple.tupleHashOf (khs P w ds)<2^63))=true then _ else _) Q E _
   by_cases hr:(decide (-(2:Int)^63≤Builtin.Tuple.tupleHashOf (khs P w ds))&&decide (Builtin.Tuple.tupleHashOf (khs P w ds)<2^63))=true
   ·rw [if_pos hr]
    rw [if_pos hr] at h
    exact wpAny_pure (by simpa [Nat.add_assoc] using h)
   ·rw [if_neg hr]
    rw [if_neg hr] at h
    exact wpAny_bind (wpAny_rule (wpAny_pure (by simpa [Nat.add_assoc] using h)))
theorem Qu:∀ (n:Nat) {A:Around} {E:Value→Shared→Prop} {s:Shared} {v:Value} {d:PyData} {Q:Bool→Shared→Prop},RK s.heap v d→d.depth≤n→Q true s→wpAny (model P w) A (eqIsQuiet n v) Q E s
 | n,A,E,s,_,_,Q,.int i t,_,h=>by rw [eqIsQuiet_byValue _ (by rfl)];exact wpAny_pure h
 | n,A,E,s,_,_,Q,.str x t _,_,h=>by rw [eqIsQuiet_byValue _ (by rfl)];exact wpAny_pure h
 | 0,A,E,s,_,_,Q,.tup _ _ _ _,hd,h=>by simp [PyData.depth] at hd
 | n+1,A,E,s,_,_,Q,.tup (a:=a) (ds:=ds) h1 h2 h3 ks,hd,h=>by
  have hT:=V8 h1 h2
  have hdd:PyData.depthAll ds≤n:=by simp only [PyData.depth] at hd;omega
  unfold eqIsQuiet
  refine wpAny_bind (wpAny_specialOf hT F.slot_tuple_eq.lookup ?_)
  refine wpAny_bind (wpAny_isInstance hT isSubtype_tuple_tuple ?_)
  simp only [Bool.not_true,Bool.false_eq_true,if_false]
  refine wpAny_bind (wpAny_seqItems h1 h3 ?_)
  refine wpAny_bind ?_
  rw [Option.getD_some,← Array.forIn_toList]
  refine wpAny_forIn_list _ (fun XL r s'=>r.1=none∧s'=s∧∃ left,RKs s.heap XL left∧PyData.depthAll left≤n) _ ?_ ?_ _ _ ⟨rfl,rfl,ds,ks,hdd⟩
  ·rintro v XL r s' ⟨hr,rfl,left,hl,hdl⟩
   cases hl with
   | @cons _ d _ ds' hk hl' =>
    simp only [PyData.depthAll] at hdl
    refine wpAny_bind (Qu n hk (by omega) ?_)
    simp only [Bool.not_true,Bool.false_eq_true,if_false]
    exact wpAny_pure ⟨rfl,rfl,ds',hl',by omega⟩
  ·rintro ⟨r1,r2⟩ s' ⟨hr,rfl,_⟩
   simp only at hr
   subst hr
   exact wpAny_pure h
noncomputable def deepKind (P:Program) (w:World):HeapKind P w PyData where
 is:=fun h d a=>RK h (.ref a) d∧d.depth≤8
 hash:=kh P w
 draws:=kdr
 room:=fun A=>A.units+8<cLine
 inj:=fun hx hy=>hx.1.inj hy.1
 keeps:=fun x ho hd hs=>⟨x.1.keeps ho hd hs,x.2⟩
 pyHash:=fun hu hk h=>Yaq 8 hk.1 hk.2 hu h
 eqBool:=fun {A E s x y a b Q} hu hx hy h=>by
  obtain ⟨⟨as,r1⟩,l1⟩:=hx.1.reads
  obtain ⟨⟨bs,r2⟩,l2⟩:=hy.1.reads
  have hm:min x.depth y.depth≤8:=Nat.le_trans (Nat.min_le_left _ _) hx.2
  exact SeqAt.eqAt_reads x y A s _ _ _ _ r1 r2 l1 l2 (by omega) P w E Q (by rw [KO.eqv hx.1.ko hy.1.ko];exact h)
 quiet:=fun hk h=>Qu 8 hk.1 hk.2 h
end
abbrev Dx:=List (PyData×Addr×Addr)
def Wk (x:PyData×Addr×Addr):PyData×Addr×Value:=(x.1,x.2.1,.ref x.2.2)
noncomputable def DDi (P:Program) (w:World) (a:Addr) (xs:Dx):HO := .ext fun h=>(a==sysModules)=false∧∃ o es ep,h.get? a=some o∧o.ExactDict∧o.data = .dict es ep∧es.toList=(xs.map Wk).map (entryOfKey (deepKind P w))
theorem Yb3 {P:Program} {w:World} {H:Hp} {h:Heap} {a:Addr} {xs:Dx} (hd:(a==sysModules)=false) (e:∃ o es ep,h.get? a=some o∧o.ExactDict∧o.data = .dict es ep∧es.toList=(xs.map Wk).map (entryOfKey (deepKind P w))):Xe P w H h a (DDi P w a xs):=by
 refine ⟨⟨hd,e⟩,?_,fun h1 h2 p k=>?_⟩
 ·obtain ⟨o,es,ep,h1,_⟩:=e
  exact ⟨o,h1⟩
 ·obtain ⟨q,o,es,ep,g1,g2⟩:=p
  exact ⟨q,o,es,ep,k _ g1,g2⟩
structure DK (K:PySem.W.Frag) (H:Hp) (b:Addr) (d:PyData):Prop where
 den:Den K H (.ref b) d
 ko:KO d
 dp:d.depth≤8
theorem DK.keep {K:PySem.W.Frag} {H H':Hp} {b:Addr} {d:PyData} (h:DK K H b d) (s:Yq H H'):DK K H' b d:=⟨h.den.keep s,h.ko,h.dp⟩
noncomputable def lookD (xs:Dx) (d:PyData):Option Addr:=(xs.find? fun x=>decide (x.1=d)).map (·.2.2)
structure DictD (P:Program) (w:World) (K:PySem.W.Frag) (H:Hp) (a:Addr) (xs:Dx):Prop where
 at_:H a=some (DDi P w a xs)
 nd:(xs.map (·.1)).Nodup
 len:xs.length≤1000
 keys:∀ x∈xs,DK K H x.2.1 x.1
section
variable {X:Cx} {pins:List (Addr×Obj)} {σ:St} {H:Hp} {s:Shared} {a b:Addr} {d:PyData} {xs:Dx} {u r:Value} {A:Around} {E:Value→Shared→Prop}
theorem U7 (I:Inv X pins σ H s) (h:DK X.K H b d):(deepKind X.prog X.w).is s.heap d b:=by
 obtain ⟨as,r⟩:=h.den.reads I (show YB (.ref b) (.ref b) from rfl)
 exact ⟨RK.of h.ko r h.den.lay,h.dp⟩
theorem U8 (I:Inv X pins σ H s) (h:DictD X.prog X.w X.K H a xs):(a==sysModules)=false∧s.heap.DictOfH (deepKind X.prog X.w) a (xs.map Wk):=by
 obtain ⟨⟨hd,o,es,ep,h1,h2,h3,h4⟩,_⟩:=(show Xe X.prog X.w H s.heap a (DDi X.prog X.w a xs) from I.hok a _ h.at_)
 refine ⟨hd,o,es,ep,h1,h2,h3,h4,fun x hx=>?_,?_⟩
 ·obtain ⟨y,hy,rfl⟩:=List.mem_map.mp hx
  exact U7 I (h.keys y hy)
 ·have:(xs.map Wk).map (·.1)=xs.map (·.1):=by rw [List.map_map];rfl
  rw [this];exact h.nd
theorem W1 (xs:Dx) (d:PyData):(atKey (xs.map Wk) d).map (·.2)=(lookD xs d).map Value.ref:=by
 induction xs with
 | nil=>rfl
 | cons x xs ih =>
  by_cases h:x.1=d
  ·simp [atKey,lookD,List.find?_cons,Wk,h]
  ·simp only [atKey,lookD,List.map_cons,List.find?_cons,Wk,h] at ih ⊢
   simpa using ih
theorem Ya6 {p:Addr} {Q:Value→Shared→Prop} (hu:A.units+9<cLine) (I:Inv X pins σ H s) (g:DictD X.prog X.w X.K H a xs) (k:DK X.K H b d) (l:lookD xs d=some p) (h:∀ s',Inv X pins σ H s'→Q (.ref p) s') :
  wpAny (model X.prog X.w) A (getItem (.ref a) (.ref b)) Q E s:=by
 obtain ⟨hd,dd⟩:=U8 I g
 have e:=W1 xs d
 rw [l] at e
 obtain ⟨q,hq,hq2⟩:=Option.map_eq_some_iff.mp e
 refine wpAny_getItem_heap (show A.in1.units+8<cLine from by have:A.in1.units=A.units+1:=rfl;omega) (U7 I k) dd hq ?_
 rw [hq2]
 exact h _ (I.tok _)
theorem Ycz {Q:Value→Shared→Prop} (hu:A.units+9<cLine) (I:Inv X pins σ H s) (g:DictD X.prog X.w X.K H a xs) (k:DK X.K H b d) (h:∀ s',Inv X pins σ H s'→Q (.bool (!(lookD xs d).isSome)) s') :
  wpAny (model X.prog X.w) A (compareOp .NotIn (.ref b) (.ref a)) Q E s:=by
 obtain ⟨hd,dd⟩:=U8 I g
 refine wpAny_notIn_heap (show A.in1.units+8<cLine from by have:A.in1.units=A.units+1:=rfl;omega) (U7 I k) hd dd ?_
 have e:=congrArg Option.isSome (W1 xs d)
 rw [Option.isSome_map,Option.isSome_map] at e
 rw [e]
 exact h _ (I.tok _)
theorem Ya7 {p:Addr} {Q:Unit→Shared→Prop} (hu:A.units+9<cLine) (I:Inv X pins σ H s) (g:DictD X.prog X.w X.K H a xs) (k:DK X.K H b d) (l:lookD xs d=none) (hl:xs.length<1000) (h:∀ s',Inv X pins σ (upd H a (DDi X.prog X.w a (xs++[(d,b,p)]))) s'→Q () s') :
  wpAny (model X.prog X.w) A (setItem (.ref a) (.ref b) (.ref p)) Q E s:=by
 obtain ⟨hd,dd⟩:=U8 I g
 have hz:(xs.map Wk).length≤sizeLine:=by rw [List.length_map];exact Nat.le_trans (Nat.le_of_lt hl) (by decide)
 refine wpAny_setItem_heap (hsz:=hz) (show A.in1.units+8<cLine from by have:A.in1.units=A.units+1:=rfl;omega) (U7 I k) dd fun h' dd' hs=>h _ ?_
 have e:atKey (xs.map Wk) d=none:=by
  have e:=W1 xs d
  rw [l] at e
  cases q:atKey (xs.map Wk) d with
  | none=>rfl
  | some z=>rw [q] at e;cases e
 rw [storedH_new e] at dd'
 obtain ⟨q,es,ep,hq,h2,h3,h4,_,h5⟩:=dd'
 refine Ydl I (by rw [g.at_];exact True.intro) hs ⟨q,hq⟩ (Yb3 hd ⟨q,es,ep,hq,h2,h3,?_⟩)
 rw [h4,List.map_append (f:=Wk)]
 rfl
end
def V9 (P:Program) (w:World) (K:PySem.W.Frag) (td ty:TE):TE:=fun σ H Q=>td σ H fun x H1=>ty σ H1 fun y H2=>∃ a b xs d p,x = .ref a∧y = .ref b∧DictD P w K H2 a xs∧DK K H2 b d∧lookD xs d=some p∧Q (.ref p) H2
def Qv (P:Program) (w:World) (K:PySem.W.Frag) (td ty tv:TE):TS:=fun D σ H=>tv σ H fun v H1=>td σ H1 fun x H2=>ty σ H2 fun y H3=>∃ a b xs d p,v = .ref p∧x = .ref a∧y = .ref b∧DictD P w K H3 a xs∧DK K H3 b d∧lookD xs d=none∧xs.length<1000∧D.nx σ (upd H3 a (DDi P w a (xs++[(d,b,p)])))
def Yd5 (P:Program) (w:World):TE:=fun _ H Q=>∀ p,H p=none→Q (.ref p) (upd H p (DDi P w p []))
section
variable {X:Cx} {o i e value:Expr} {pos pos' tpos:Pos} {td ty tv:TE} {k:Nat}
theorem Qw {A:Around} {k:Nat} (hr:Room k A):A.units+9<cLine:=Nat.lt_of_le_of_lt (Nat.add_le_add_left (by decide:9≤64) _) hr.units
theorem YcA (hr:Room k X.A) (ho:PE X o td) (hi:PE X i ty) (hs:NoSl i):PE X (.Subscript o i pos) (V9 X.prog X.w X.K td ty):=by
 intro pins s σ H Q I h
 refine Ydm PySem.F.slot_dict_getitem.lookup hs (thn (ho pins s σ H _ I h) fun u s1 ⟨x,H1,I1,rx,q1⟩=>thn (hi pins s1 σ H1 _ I1 q1) fun iv s2 ⟨y,H2,I2,ry,a,b,xs,d,p,ex,ey,g,kk,l,q2⟩=>?_)
 subst ex ey
 obtain rfl:u=Value.ref a:=rx
 obtain rfl:iv=Value.ref b:=ry
 exact ⟨(U8 I2 g).2.typeIs,Ya6 (Qw hr) I2 g kk l fun s3 I3=>⟨.ref p,H2,I3,rfl,q2⟩⟩
theorem Qx (hr:Room k X.A) (ho:PE X o td) (hi:PE X i ty) (hv:PE X value tv) (hs:swapsWith value (some (.Subscript o i pos')) pos.line X.env=pure false) :
  PS X (.Assign [.Subscript o i pos'] value pos) (Qv X.prog X.w X.K td ty tv):=by
 intro pins s σ H D I h
 refine wpAny_Assign_Subscript (thn (hv pins s σ H _ I h) fun r s1 ⟨v,H1,I1,rv,q1⟩=>thn (ho pins s1 σ H1 _ I1 q1) fun u s2 ⟨x,H2,I2,rx,q2⟩=>thn (hi pins s2 σ H2 _ I2 q2) fun iv s3 ⟨y,H3,I3,ry,a,b,xs,d,p,ev,ex,ey,g,kk,l,hl,q3⟩=>?_) hs
 subst ex ey ev
 obtain rfl:u=Value.ref a:=rx
 obtain rfl:iv=Value.ref b:=ry
 obtain rfl:r=Value.ref p:=rv
 exact Ya7 (Qw hr) I3 g kk l hl fun s4 I4=>⟨σ,_,I4,q3⟩
theorem YcB:PE X (.Dict [] [] pos) (Yd5 X.prog X.w):=fun pins s σ H Q I h =>
 wpAny_Dict_empty ⟨.ref s.heap.objs.size,_,I.laid (a:=s.heap.objs.size) (o:=DDi X.prog X.w s.heap.objs.size []) (t':=s.toks) (fun _ _ q=>Heap.get?_push_of_some _ q) (Nat.le_refl _) (Yb3 (beq_eq_false_iff_ne.mpr (Ne.symm (Nat.ne_of_lt I.big))) ⟨_,#[],0,Heap.get?_push_size _ rfl,⟨rfl,rfl,rfl⟩,rfl,rfl⟩),rfl,h _ (I.hok.fresh (Nat.le_refl _))⟩
end
def Wr (H H':Hp):Prop:=∀ b xs,Rd H b (.tup xs)→Rd H' b (.tup xs)
theorem Wr.sq {K:PySem.W.Frag} {H H':Hp} (t:Wr H H') {b:Addr} {xs:List V} (h:SqT K H b xs):SqT K H' b xs:=by
 rcases h with h | h
 ·exact .inl (t _ _ h)
 ·exact .inr h
theorem Ws {H H':Hp} (s:Yq H H'):Wr H H':=fun b xs h=>by
 rcases h with h | ⟨o,h⟩
 ·exact .inl (s _ _ h)
 ·exact .inr ⟨o,s _ _ h⟩
theorem WM {H H':Hp} {P:Addr} {u:HO} (hk:∀ b o,b≠P→H b=some o→H' b=some o) (hP:H P=some u) (h1:∀ xs,u ≠ .tup xs) (h2:∀ o v,u ≠ .frz o v):Wr H H':=fun b xs h=>by
 rcases h with h | ⟨o,h⟩
 ·exact .inl (hk _ _ (XD h hP (fun z=>h1 _ z.symm)) h)
 ·exact .inr ⟨o,hk _ _ (XD h hP (fun z=>h2 _ _ z.symm)) h⟩
theorem YcC {K:PySem.W.Frag} {H H':Hp} (t:Wr H H') {d:PyData} {v:V} (k:KO d) (r:Den K H v d):Den K H' v d:=by
 induction k using KO.rec (motive_2:=fun ds _=>∀ {vs:List V},Dens K H vs ds→Dens K H' vs ds) generalizing v with
 | int i=>cases r with | int _=>exact .int i
 | str x=>cases r with | str _ h=>exact .str x h
 | tup _ ih=>cases r with | tup h hs=>exact .tup (t.sq h) (ih hs)
 | nil=>rename_i r;cases r;exact .nil
 | cons _ _ ih ihs=>rename_i r;cases r with | cons a b=>exact .cons (ih a) (ihs b)
theorem DK.tupk {K:PySem.W.Frag} {H H':Hp} {b:Addr} {d:PyData} (h:DK K H b d) (t:Wr H H'):DK K H' b d:=⟨YcC t h.ko h.den,h.ko,h.dp⟩
theorem DictD.keep {P:Program} {w:World} {K:PySem.W.Frag} {H H':Hp} {a:Addr} {xs:Dx} (h:DictD P w K H a xs) (t:Wr H H') (e:H' a=some (DDi P w a xs)):DictD P w K H' a xs:=⟨e,h.nd,h.len,fun x hx=>(h.keys x hx).tupk t⟩
theorem Ya8 {xs:Dx} {d:PyData} (h:lookD xs d=none):d∉xs.map (·.1):=by
 intro hm
 obtain ⟨x,hx,rfl⟩:=List.mem_map.mp hm
 unfold lookD at h
 rw [Option.map_eq_none_iff,List.find?_eq_none] at h
 exact h x hx (by simp)
theorem WD (xs:Dx) (d e:PyData) (b p:Addr) (h:lookD xs d=none):lookD (xs++[(d,b,p)]) e=if e=d then some p else lookD xs e:=by
 unfold lookD
 rw [List.find?_append]
 by_cases c:e=d
 ·subst c
  have h':xs.find? (fun x=>decide (x.1=e))=none:=by
   unfold lookD at h
   rwa [Option.map_eq_none_iff] at h
  rw [h',if_pos rfl]
  simp
 ·rw [if_neg c]
  have:([(d,b,p)]:Dx).find? (fun x=>decide (x.1=e))=none:=by simp [Ne.symm c]
  rw [this]
  simp
theorem DictD.put {P:Program} {w:World} {K:PySem.W.Frag} {H:Hp} {a b p:Addr} {d:PyData} {xs:Dx} (h:DictD P w K H a xs) (k:DK K H b d) (l:lookD xs d=none) (hl:xs.length<1000):DictD P w K (upd H a (DDi P w a (xs++[(d,b,p)]))) a (xs++[(d,b,p)]):=by
 have t:Wr H (upd H a (DDi P w a (xs++[(d,b,p)]))):=WM (fun b o hb e=>by rw [Yd hb];exact e) h.at_ (by intro xs z;cases z) (by intro o v z;cases z)
 refine ⟨Ye,?_,by rw [List.length_append,List.length_singleton];omega,fun x hx=>?_⟩
 ·rw [List.map_append]
  refine List.nodup_append.mpr ⟨h.nd,by simp,fun x hx y hy e=>?_⟩
  subst e
  have:x=d:=by simpa using hy
  subst this
  exact Ya8 l hx
 ·rcases List.mem_append.mp hx with hx | hx
  ·exact (h.keys x hx).tupk t
  ·have:x=(d,b,p):=by simpa using hx
   subst this
   exact k.tupk t
theorem Yb4 {P:Program} {w:World} {K:PySem.W.Frag} {H:Hp} {a:Addr} (h:H a=some (DDi P w a [])):DictD P w K H a []:=⟨h,by simp,by simp,fun x hx=>by cases hx⟩
section
variable {X:Cx} {k:Nat}
theorem Ya9 (hr:Room k X.A):OpR X (compareOp .NotIn) (fun y x H Q=>∃ a b xs d,x = .ref a∧y = .ref b∧DictD X.prog X.w X.K H a xs∧DK X.K H b d∧Q (.bl (!(lookD xs d).isSome)) H):=by
 intro pins s σ H y x u v Q I ry rx h
 obtain ⟨a,b,xs,d,rfl,rfl,g,kk,q⟩:=h
 cases (show u=Value.ref b from ry)
 cases (show v=Value.ref a from rx)
 exact Ycz (Qw hr) I g kk fun s' I'=>⟨.bl (!(lookD xs d).isSome),H,I',rfl,q⟩
end
section
variable {X:Cx} {e:Expr} {f:Str} {pos:Pos} {ta:TE}
theorem X4 {K:PySem.W.Frag} (he:PE X e ta) (hb:attributeBase e f X.env (eval e X.env)=eval e X.env) (h:X.K=K):PE X (.Attribute e f pos) (tFld K ta f):=by subst h;exact Yl he hb
end
end L2
namespace L2
open PySem PySem.Spec PyProof.Rows
end L2
namespace L2
open PySem PySem.Spec PyProof.Rows
theorem Yd6 {X:Cx} {g:Gx} {j k:Nat} {x:Str} {C:Addr} {ps:List Str} {sp:Sp} {p pos:Pos} (F:g.Ma j x C ps sp) (hr:Room k X.A) (hj:j+1≤k) (hX:X.gx=g) (hg:Gl X x) (hdb:(x==("__debug__":Str))=false) :
  PE X (.Call (.Name x p) [] [] pos) (V0 C sp [] E0 Uk):=by
 subst hX
 obtain ⟨f,fd,F,b,M,hm⟩:=F
 exact Yco M F (hr.mono hj) hg hm b .nil V2 hdb
end L2
namespace L2
open PySem PySem.Spec PyProof.Rows
section
variable {M:Model} {A:Around} {E:Value→Shared→Prop} {s:Shared}
end
section
variable {X:Cx}
end
section
variable {X:Cx}
end
end L2
namespace Cho
def ch:Nat→Nat→Nat
 | _,0=>1
 | 0,_+1=>0
 | n+1,k+1=>ch n k+ch n (k+1)
theorem X5 (n:Nat):ch n 0=1:=by cases n<;>rfl
theorem Uq (k:Nat):ch 0 (k+1)=0:=rfl
theorem X6 (n k:Nat):ch (n+1) (k+1)=ch n k+ch n (k+1):=rfl
theorem U9:∀ (n k:Nat),n<k→ch n k=0
 | 0,k+1,_=>rfl
 | n+1,k+1,h=>by rw [X6,U9 n k (by omega),U9 n (k+1) (by omega)]
theorem Ur:∀ n:Nat,ch n n=1
 | 0=>rfl
 | n+1=>by rw [X6,Ur n,U9 n (n+1) (by omega)]
theorem VA:∀ (n k:Nat),(ch n (k+1):Int)*(k+1)=ch n k*(n - k)
 | 0,0=>rfl
 | 0,k+1=>by rw [Uq,Uq];simp
 | n+1,0=>by
  have ih:=VA n 0
  rw [X6,X5,X5]
  rw [X5] at ih
  push_cast at ih ⊢
  omega
 | n+1,j+1=>by
  have h1:=VA n j
  have h2:=VA n (j+1)
  rw [X6 n (j+1),X6 n j]
  push_cast at h1 h2 ⊢
  generalize (ch n j:Int)=A at *
  generalize (ch n (j+1):Int)=B at *
  generalize (ch n (j+1+1):Int)=C at *
  grind
theorem WV:∀ (n k:Nat),ch n k≤n^k
 | n,0=>by rw [X5];simp
 | 0,k+1=>by rw [Uq];exact Nat.zero_le _
 | n+1,k+1=>by
  have h1:=WV n k
  have h2:=WV n (k+1)
  rw [X6]
  have h3:n^k≤(n+1)^k:=Nat.pow_le_pow_left (by omega) k
  have e:(n+1)^(k+1)=(n+1)^k*n+(n+1)^k:=by rw [Nat.pow_succ,Nat.mul_add,Nat.mul_one]
  have h4:n^(k+1)≤(n+1)^k*n:=by rw [Nat.pow_succ];exact Nat.mul_le_mul_right _ h3
  omega
theorem Yar {n b:Nat} (k:Nat) (h:n<2^b):ch n k<2^(b*k+1):=by
 have h1:=WV n k
 have h2:n^k≤(2^b)^k:=Nat.pow_le_pow_left (Nat.le_of_lt h) k
 rw [← Nat.pow_mul] at h2
 have h3:2^(b*k)<2^(b*k+1):=Nat.pow_lt_pow_right (by decide) (by omega)
 omega
theorem Yas (n k:Nat):(ch n k:Int)*(n - k) / (k+1)=ch n (k+1):=by
 rw [← VA,Int.mul_ediv_cancel _ (by omega)]
def bg:Nat→Nat→Nat
 | _,0=>1
 | 0,_+1=>0
 | n+1,k+1=>bg (n+1) k+bg n (k+1)
theorem WE (n:Nat):bg n 0=1:=by cases n<;>simp [bg]
theorem Wt (k:Nat):bg 0 (k+1)=0:=by simp [bg]
theorem Yat (n k:Nat):bg (n+1) (k+1)=bg (n+1) k+bg n (k+1):=by rw [bg]
theorem WW:∀ (n k:Nat),bg (n+1) k=ch (n+k) k
 | n,0=>by rw [WE,X5]
 | 0,k+1=>by
  rw [Yat,Wt,WW 0 k,Nat.zero_add,Nat.zero_add,Ur,Ur]
 | n+1,k+1=>by
  rw [Yat,WW (n+1) k,WW n (k+1)]
  have e:n+1+(k+1)=(n+1+k)+1:=by omega
  rw [e,X6]
  have e2:n+(k+1)=n+1+k:=by omega
  rw [e2]
theorem Yd7 (n k:Nat):(bg n (k+1):Int)*(k+1)=bg n k*(n+k):=by
 cases n with
 | zero =>
  cases k with
  | zero=>rw [Wt];simp
  | succ k=>rw [Wt,Wt];simp
 | succ n =>
  rw [WW,WW]
  have e:n+(k+1)=(n+k)+1:=by omega
  rw [e,X6]
  have h:=VA (n+k) k
  push_cast at h ⊢
  generalize (ch (n+k) k:Int)=A at *
  generalize (ch (n+k) (k+1):Int)=B at *
  grind
theorem Ydz (n k:Nat):(bg n k:Int)*(n+k) / (k+1)=bg n (k+1):=by
 rw [← Yd7,Int.mul_ediv_cancel _ (by omega)]
end Cho
set_option maxHeartbeats 8000000
namespace KW
open PySem L2 Cho
def top (i:Nat):Stmt:=PySem.Challenge.pw_countgen_k33_lists_in_order_counted.main.body.getD i (.Pass ⟨0,0,0,0⟩)
abbrev Z48:Stmt:=top 6
theorem Z5o:FnScope ["shape","kind"] ["shape"] (Yj Z48):=⟨rfl,rfl,rfl,by decide +kernel,rfl,by decide +kernel,by decide +kernel⟩
abbrev Z49:Stmt:=top 8
theorem Z5p:FnScope ["book","name","pair"] ["book","name"] (Yj Z49):=⟨rfl,rfl,rfl,by decide +kernel,rfl,by decide +kernel,by decide +kernel⟩
abbrev Z2Z:Stmt:=top 10
theorem Z20:FnScope ["n","m","told","taken"] ["n","m"] (Yj Z2Z):=⟨rfl,rfl,rfl,by decide +kernel,rfl,by decide +kernel,by decide +kernel⟩
abbrev Z30:Stmt:=top 11
theorem UT:FnScope ["n","m"] ["n","m"] (Yj Z30):=⟨rfl,rfl,rfl,by decide +kernel,rfl,by decide +kernel,by decide +kernel⟩
abbrev Z4U:Stmt:=top 13
theorem Yba:FnScope ["blocks"] ["blocks"] (Yj Z4U):=⟨rfl,rfl,rfl,by decide +kernel,rfl,by decide +kernel,by decide +kernel⟩
abbrev Z21:Stmt:=top 18
theorem Z5e:FnScope ["size"] ["size"] (Yj Z21):=⟨rfl,rfl,rfl,by decide +kernel,rfl,by decide +kernel,by decide +kernel⟩
abbrev Z3k:Stmt:=top 29
theorem Qy:FnScope ["book","shape"] ["book","shape"] (Yj Z3k):=⟨rfl,rfl,rfl,by decide +kernel,rfl,by decide +kernel,by decide +kernel⟩
abbrev Z4V:Stmt:=top 31
theorem Ybb:FnScope ["book","shape","size"] ["book","shape","size"] (Yj Z4V):=⟨rfl,rfl,rfl,by decide +kernel,rfl,by decide +kernel,by decide +kernel⟩
abbrev Z3l:Stmt:=top 32
theorem Z4W:FnScope ["book","shape","size","maker"] ["book","shape","size"] (Yj Z3l):=⟨rfl,rfl,rfl,by decide +kernel,rfl,by decide +kernel,by decide +kernel⟩
abbrev Z3m:Stmt:=top 34
theorem Qz:FnScope ["_law_found"] ["_law_found"] (Yj Z3m):=⟨rfl,rfl,rfl,by decide +kernel,rfl,by decide +kernel,by decide +kernel⟩
abbrev Z4X:Stmt:=top 35
theorem Z2S:FnScope ["_law_script","_law_k","_law_step","_law_found","_law_cell"] ["_law_script","_law_k","_law_step"] (Yj Z4X):=⟨rfl,rfl,rfl,by decide +kernel,rfl,by decide +kernel,by decide +kernel⟩
abbrev Z4a:Stmt:=top 36
theorem Q1:FnScope ["_law_script","_law_many"] ["_law_script","_law_many"] (Yj Z4a):=⟨rfl,rfl,rfl,by decide +kernel,rfl,by decide +kernel,by decide +kernel⟩
abbrev Z4b:Stmt:=top 37
theorem Q2:FnScope ["_law_feed_here"] ["_law_feed_here"] (Yj Z4b):=⟨rfl,rfl,rfl,by decide +kernel,rfl,by decide +kernel,by decide +kernel⟩
abbrev Z1I:Stmt:=top 38
theorem Z0d:FnScope ["_law_feed_here","_law_cell","_law_low","_law_span"] ["_law_feed_here"] (Yj Z1I):=⟨rfl,rfl,rfl,by decide +kernel,rfl,by decide +kernel,by decide +kernel⟩
abbrev Z22:Stmt:=top 39
theorem Z0A:FnScope ["_law_feed_here","_law_some","_law_cell","_law_many","_law_step","_law_start"] ["_law_feed_here"] (Yj Z22):=⟨rfl,rfl,rfl,by decide +kernel,rfl,by decide +kernel,by decide +kernel⟩
abbrev Z31:Stmt:=top 40
theorem Z2M:FnScope ["_law_found","_law_due_here","_law_one","_law_other"] ["_law_found","_law_due_here"] (Yj Z31):=⟨rfl,rfl,rfl,by decide +kernel,rfl,by decide +kernel,by decide +kernel⟩
abbrev Z4c:Stmt:=top 41
theorem Q3:FnScope ["_law_feed_here"] ["_law_feed_here"] (Yj Z4c):=⟨rfl,rfl,rfl,by decide +kernel,rfl,by decide +kernel,by decide +kernel⟩
abbrev Z4d:Stmt:=top 42
theorem Z5q:FnScope ["_law_feed_here","_law_way"] ["_law_feed_here"] (Yj Z4d):=⟨rfl,rfl,rfl,by decide +kernel,rfl,by decide +kernel,by decide +kernel⟩
abbrev Z3n:Stmt:=top 43
theorem Z1y:FnScope ["_law_bags","_law_many","_law_chosen","_law_found","_law_k"] ["_law_bags","_law_many","_law_chosen"] (Yj Z3n):=⟨rfl,rfl,rfl,by decide +kernel,rfl,by decide +kernel,by decide +kernel⟩
abbrev Z4Y:Stmt:=top 44
theorem Z0J:FnScope ["_law_bags","_law_some","_law_size","_law_ways","_law_least","_law_found","_law_k","_law_chosen","_law_to"] ["_law_bags","_law_some","_law_size"] (Yj Z4Y):=⟨rfl,rfl,rfl,by decide +kernel,rfl,by decide +kernel,by decide +kernel⟩
abbrev Z2m:Stmt:=top 45
theorem Z23:FnScope ["_law_some","_law_times","_law_size","_law_due_here","_law_k"] ["_law_some","_law_times","_law_size"] (Yj Z2m):=⟨rfl,rfl,rfl,by decide +kernel,rfl,by decide +kernel,by decide +kernel⟩
abbrev Qa:Stmt:=top 46
theorem XY:FnScope ["_law_script","_law_feed_here","_law_cell","_law_size","_law_times","_law_part_here","_law_book","_law_some","_law_due_here"] ["_law_script"] (Yj Qa):=⟨rfl,rfl,rfl,by decide +kernel,rfl,by decide +kernel,by decide +kernel⟩
abbrev Z1J:Stmt:=Yv (top 28) 0
theorem Z4Z:FnScope ["self","book"] ["self","book"] (Yj Z1J):=⟨rfl,rfl,rfl,by decide +kernel,rfl,by decide +kernel,by decide +kernel⟩
abbrev Z1K:Stmt:=Yv (top 28) 1
theorem Z50:FnScope ["self","shape"] ["self","shape"] (Yj Z1K):=⟨rfl,rfl,rfl,by decide +kernel,rfl,by decide +kernel,by decide +kernel⟩
abbrev Z24:Stmt:=Yv (top 28) 2
theorem Z2O:FnScope ["self","shape","maker"] ["self","shape"] (Yj Z24):=⟨rfl,rfl,rfl,by decide +kernel,rfl,by decide +kernel,by decide +kernel⟩
abbrev Z1z:Stmt:=Yv (top 28) 3
theorem Z1m:FnScope ["self","shape","kind","parts"] ["self","shape"] (Yj Z1z):=⟨rfl,rfl,rfl,by decide +kernel,rfl,by decide +kernel,by decide +kernel⟩
abbrev Z0S:Stmt:=Yv (top 19) 0
theorem Z3o:FnScope ["self","low","high"] ["self","low","high"] (Yj Z0S):=⟨rfl,rfl,rfl,by decide +kernel,rfl,by decide +kernel,by decide +kernel⟩
abbrev Z0T:Stmt:=Yv (top 19) 1
theorem Z1N:FnScope ["self","size","greatest"] ["self","size"] (Yj Z0T):=⟨rfl,rfl,rfl,by decide +kernel,rfl,by decide +kernel,by decide +kernel⟩
abbrev Z18:Stmt:=Yv (top 20) 0
theorem Z3I:FnScope ["self","signs"] ["self","signs"] (Yj Z18):=⟨rfl,rfl,rfl,by decide +kernel,rfl,by decide +kernel,by decide +kernel⟩
abbrev Z19:Stmt:=Yv (top 20) 1
theorem Z3J:FnScope ["self","size"] ["self","size"] (Yj Z19):=⟨rfl,rfl,rfl,by decide +kernel,rfl,by decide +kernel,by decide +kernel⟩
abbrev Z1n:Stmt:=Yv (top 14) 0
theorem Z4e:FnScope ["self","parts"] ["self","parts"] (Yj Z1n):=⟨rfl,rfl,rfl,by decide +kernel,rfl,by decide +kernel,by decide +kernel⟩
abbrev Z1A:Stmt:=Yv (top 14) 1
theorem Z4J:FnScope ["self","place","left"] ["self","place","left"] (Yj Z1A):=⟨rfl,rfl,rfl,by decide +kernel,rfl,by decide +kernel,by decide +kernel⟩
abbrev Z1o:Stmt:=Yv (top 14) 2
theorem Z2n:FnScope ["self","size","place"] ["self","size"] (Yj Z1o):=⟨rfl,rfl,rfl,by decide +kernel,rfl,by decide +kernel,by decide +kernel⟩
abbrev Z1a:Stmt:=Yv (top 14) 3
theorem Z29:FnScope ["self","place","left","part"] ["self","place","left"] (Yj Z1a):=⟨rfl,rfl,rfl,by decide +kernel,rfl,by decide +kernel,by decide +kernel⟩
abbrev Z1p:Stmt:=Yv (top 21) 0
theorem Z4f:FnScope ["self","parts"] ["self","parts"] (Yj Z1p):=⟨rfl,rfl,rfl,by decide +kernel,rfl,by decide +kernel,by decide +kernel⟩
abbrev Z1q:Stmt:=Yv (top 21) 1
theorem Z4g:FnScope ["self","size"] ["self","size"] (Yj Z1q):=⟨rfl,rfl,rfl,by decide +kernel,rfl,by decide +kernel,by decide +kernel⟩
abbrev Z1b:Stmt:=Yv (top 22) 0
theorem Z3K:FnScope ["self","part"] ["self","part"] (Yj Z1b):=⟨rfl,rfl,rfl,by decide +kernel,rfl,by decide +kernel,by decide +kernel⟩
abbrev Z0U:Stmt:=Yv (top 22) 1
theorem Z3p:FnScope ["self","left"] ["self","left"] (Yj Z0U):=⟨rfl,rfl,rfl,by decide +kernel,rfl,by decide +kernel,by decide +kernel⟩
abbrev Z1c:Stmt:=Yv (top 22) 2
theorem Z3L:FnScope ["self","size"] ["self","size"] (Yj Z1c):=⟨rfl,rfl,rfl,by decide +kernel,rfl,by decide +kernel,by decide +kernel⟩
abbrev Z1d:Stmt:=Yv (top 25) 0
theorem Z3M:FnScope ["self","marks","parts"] ["self","marks","parts"] (Yj Z1d):=⟨rfl,rfl,rfl,by decide +kernel,rfl,by decide +kernel,by decide +kernel⟩
abbrev Z0V:Stmt:=Yv (top 25) 1
theorem Z3q:FnScope ["self","size"] ["self","size"] (Yj Z0V):=⟨rfl,rfl,rfl,by decide +kernel,rfl,by decide +kernel,by decide +kernel⟩
abbrev Z1e:Stmt:=Yv (top 25) 2
theorem Z3N:FnScope ["self","size"] ["self","size"] (Yj Z1e):=⟨rfl,rfl,rfl,by decide +kernel,rfl,by decide +kernel,by decide +kernel⟩
abbrev Z1r:Stmt:=Yv (top 26) 0
theorem Z4h:FnScope ["self"] ["self"] (Yj Z1r):=⟨rfl,rfl,rfl,by decide +kernel,rfl,by decide +kernel,by decide +kernel⟩
abbrev Z1s:Stmt:=Yv (top 26) 1
theorem Z4i:FnScope ["self","size"] ["self","size"] (Yj Z1s):=⟨rfl,rfl,rfl,by decide +kernel,rfl,by decide +kernel,by decide +kernel⟩
abbrev Z0W:Stmt:=Yv (top 24) 0
theorem Z3r:FnScope ["self","part","times"] ["self","part","times"] (Yj Z0W):=⟨rfl,rfl,rfl,by decide +kernel,rfl,by decide +kernel,by decide +kernel⟩
abbrev Z0X:Stmt:=Yv (top 24) 1
theorem Z3s:FnScope ["self","size"] ["self","size"] (Yj Z0X):=⟨rfl,rfl,rfl,by decide +kernel,rfl,by decide +kernel,by decide +kernel⟩
abbrev Z0K:Stmt:=Yv (top 23) 0
theorem Z3b:FnScope ["self","part","unlike"] ["self","part","unlike"] (Yj Z0K):=⟨rfl,rfl,rfl,by decide +kernel,rfl,by decide +kernel,by decide +kernel⟩
abbrev Z0L:Stmt:=Yv (top 23) 1
theorem Z3c:FnScope ["self","size"] ["self","size"] (Yj Z0L):=⟨rfl,rfl,rfl,by decide +kernel,rfl,by decide +kernel,by decide +kernel⟩
abbrev Z0M:Stmt:=Yv (top 15) 0
theorem Z3d:FnScope ["self","part","unlike"] ["self","part","unlike"] (Yj Z0M):=⟨rfl,rfl,rfl,by decide +kernel,rfl,by decide +kernel,by decide +kernel⟩
abbrev Z0Y:Stmt:=Yv (top 15) 1
theorem Z1O:FnScope ["self","size","many","among"] ["self","size","many"] (Yj Z0Y):=⟨rfl,rfl,rfl,by decide +kernel,rfl,by decide +kernel,by decide +kernel⟩
abbrev Z0Z:Stmt:=Yv (top 15) 4
theorem Z3t:FnScope ["self","least","left"] ["self","least","left"] (Yj Z0Z):=⟨rfl,rfl,rfl,by decide +kernel,rfl,by decide +kernel,by decide +kernel⟩
abbrev Z10:Stmt:=Yv (top 15) 5
theorem Z0N:FnScope ["self","left","row","least"] ["self","left"] (Yj Z10):=⟨rfl,rfl,rfl,by decide +kernel,rfl,by decide +kernel,by decide +kernel⟩
abbrev Z0I:Stmt:=Yv (top 15) 6
theorem Z1B:FnScope ["self","least","left","taken"] ["self","least","left"] (Yj Z0I):=⟨rfl,rfl,rfl,by decide +kernel,rfl,by decide +kernel,by decide +kernel⟩
abbrev Z25:Stmt:=Yv (top 17) 0
theorem Z5f:FnScope ["self"] ["self"] (Yj Z25):=⟨rfl,rfl,rfl,by decide +kernel,rfl,by decide +kernel,by decide +kernel⟩
abbrev Z11:Stmt:=Yv (top 17) 1
theorem Z3u:FnScope ["self","size"] ["self","size"] (Yj Z11):=⟨rfl,rfl,rfl,by decide +kernel,rfl,by decide +kernel,by decide +kernel⟩
abbrev Z1f:Stmt:=Yv (top 17) 1
theorem Z3O:FnScope ["self","size"] ["self","size"] (Yj Z1f):=⟨rfl,rfl,rfl,by decide +kernel,rfl,by decide +kernel,by decide +kernel⟩
abbrev Z1t:Stmt:=Yv (top 17) 1
theorem Z4j:FnScope ["self","size"] ["self","size"] (Yj Z1t):=⟨rfl,rfl,rfl,by decide +kernel,rfl,by decide +kernel,by decide +kernel⟩
abbrev Z1g:Stmt:=Yv (top 17) 1
theorem Z3P:FnScope ["self","size"] ["self","size"] (Yj Z1g):=⟨rfl,rfl,rfl,by decide +kernel,rfl,by decide +kernel,by decide +kernel⟩
abbrev Z1h:Stmt:=Yv (top 17) 1
theorem Z3Q:FnScope ["self","size"] ["self","size"] (Yj Z1h):=⟨rfl,rfl,rfl,by decide +kernel,rfl,by decide +kernel,by decide +kernel⟩
abbrev Z1u:Stmt:=Yv (top 17) 1
theorem Z4k:FnScope ["self","size"] ["self","size"] (Yj Z1u):=⟨rfl,rfl,rfl,by decide +kernel,rfl,by decide +kernel,by decide +kernel⟩
abbrev Z12:Stmt:=Yv (top 17) 1
theorem Z3v:FnScope ["self","size"] ["self","size"] (Yj Z12):=⟨rfl,rfl,rfl,by decide +kernel,rfl,by decide +kernel,by decide +kernel⟩
abbrev Z0O:Stmt:=Yv (top 17) 1
theorem Z3e:FnScope ["self","size"] ["self","size"] (Yj Z0O):=⟨rfl,rfl,rfl,by decide +kernel,rfl,by decide +kernel,by decide +kernel⟩
variable {g:Gx}
local macro_rules | `(tactic| walk_at "rd")=>`(tactic| simp (config:={ failIfUnchanged:=false,maxSteps:=10000000 }) only [L2.Wy,Yd3,nox_K,List.map_cons,List.map_nil,List.length_cons,List.length_nil,List.cons_append,List.nil_append,List.replicate_succ,List.replicate_zero,Nat.zero_add,Nat.reduceAdd,Nat.reduceSub,Nat.sub_self,Xh,tIfS,YcT,tOp,tC,Ui,rI0,rI,rU,tUn,tRet,YcR,YcQ,YaJ,YL,WY,Xq,U0,Uk,tCB,VZ,sFld,tFld,V0,U4,Ycw,tB,tAnd,tOr,tNot,YcO,YcP,tIf,Yaf,YcU,tSl,YbB,rIxL,rIxT,rSlL,tLst,tTup,WZ,Yc1,Yap,Yao,rIn,tBM,tBM0,Yak,rEq,rNe,Yds,YU,rCat,YcV,gSub,Y6,List.getD_cons_zero,List.getD_cons_succ,decide_true,not_true_eq_false,not_false_eq_true,
 exists_eq_left',exists_eq_left,exists_eq',exists_eq,exists_and_left,and_assoc,Option.some.injEq,V.int.injEq,V.bl.injEq,V.ref.injEq,V.str.injEq,List.getElem?_cons_zero,List.getElem?_cons_succ,List.set_cons_zero,List.set_cons_succ,List.cons.injEq,and_true,true_and,List.append_nil,decide_eq_true_eq,Bool.not_eq_true',decide_eq_false_iff_not,Bool.not_not,Bool.not_true,Bool.not_false,Bool.true_eq_false,Bool.false_eq_true,if_true,if_false,ite_true,ite_false])
theorem cm {i j:Int} {m n:Nat} (h1:i.natAbs<2^m) (h2:j.natAbs<2^n) (h:m+n≤100000000:=by decide):V7 i j:=⟨m,n,h1,h2,h⟩
theorem QA {i j:Int} (h:0≤j∧j≤1000000∧i.natAbs<2^64:=by decide):CPow i j:=h
theorem few {n:Nat} (h:n≤100000):n≤sizeLine:=Nat.le_trans h (by decide)
theorem X7 (x:Int) {j:Int} (h:0<j):∃ r:Nat,x%j=r∧(r:Int)<j:=⟨(x%j).toNat,by have:=Int.emod_nonneg x (Int.ne_of_gt h);omega,by have:=Int.emod_lt_of_pos x h;have:=Int.emod_nonneg x (Int.ne_of_gt h);omega⟩
def SameBut (p:Addr) (H H':Hp):Prop:=∀ q o,q≠p→H q=some o→H' q=some o
theorem SameBut.refl (p:Addr) (H:Hp):SameBut p H H:=fun _ _ _ h=>h
theorem SameBut.trans {p:Addr} {H H1 H2:Hp} (a:SameBut p H H1) (b:SameBut p H1 H2):SameBut p H H2:=fun q o n h=>b q o n (a q o n h)
inductive Sh | w (lo:Int) (span:Nat) | t (sg:List Nat) | row (ps:List Sh) | pick (mk:List (List Nat)) (ps:List Sh) | many (p:Sh) | alike (p:Sh) (n:Nat) | use (x:List Nat) | cho (un:Bool) (p:Sh)
def wc (span:Int) (k:Nat):Int:=if (if (1*2^k - 1:Int)<span then (1*2^k - 1:Int) else span) - 1*2^k / 2^1+1>0 then (if (1*2^k - 1:Int)<span then (1*2^k - 1:Int) else span) - 1*2^k / 2^1+1 else 0
mutual
def dep:Sh→Nat
 | .row ps=>YQ ps+1
 | .pick _ ps=>YQ ps+1
 | .many p=>dep p+1
 | .alike p _=>dep p+1
 | .cho _ p=>dep p+1
 | _=>0
def YQ:List Sh→Nat
 | []=>0
 | p::ps=>max (dep p) (YQ ps)
end
theorem W8 {p:Sh}:∀ {ps:List Sh},p∈ps→dep p≤YQ ps
 | q::ps,h=>by
  rw [YQ]
  rcases List.mem_cons.mp h with rfl | h
  ·omega
  ·have:=W8 h
   omega
def chI (un:Bool) (n:Int) (m:Nat):Int:=if un then (ch n.toNat m:Nat) else (bg n.toNat m:Nat)
def wy (un:Bool) (c:Nat→Int) (l t:Nat):Int:=if t=0 then 1 else if h:t≤l then 0 else ((List.range (t / (l+1)+1)).map fun m=>chI un (c l) m*wy un c (l+1) (t - m*(l+1))).sum
termination_by t - l
decreasing_by omega
theorem XX (un:Bool) (c:Nat→Int) (l:Nat):wy un c l 0=1:=by rw [wy,if_pos rfl]
theorem X8 {un:Bool} {c:Nat→Int} {l t:Nat} (h0:0<t) (h:t≤l):wy un c l t=0:=by rw [wy,if_neg (by omega),dif_pos h]
theorem W9 {un:Bool} {c:Nat→Int} {l t:Nat} (h:l<t):wy un c l t=((List.range (t / (l+1)+1)).map fun m=>chI un (c l) m*wy un c (l+1) (t - m*(l+1))).sum:=by rw [wy,if_neg (by omega),dif_neg (by omega)]
theorem QB (un:Bool) {c c':Nat→Int} {s:Nat} (h:∀ i,i<s→c i=c' i):∀ (k l t:Nat),t - l≤k→t≤s→wy un c l t=wy un c' l t
 | k,l,t,hk,ht=>by
  by_cases h0:t=0
  ·rw [h0,XX,XX]
  ·by_cases h1:t≤l
   ·rw [X8 (by omega) h1,X8 (by omega) h1]
   ·obtain ⟨k,rfl⟩:∃ j,k=j+1:=⟨k - 1,by omega⟩
    rw [W9 (by omega),W9 (by omega),h l (by omega)]
    congr 1
    refine List.map_congr_left fun m _=>?_
    rw [QB un h k (l+1) (t - m*(l+1)) (by omega) (by omega)]
mutual
def cnt (bk:List Nat→Sh):Sh→Nat→Int
 | .w _ span,s=>wc span s
 | .t sg,s=>(sg.length:Int)^s
 | .row ps,s=>Y9 bk ps s
 | .pick _ ps,s=>Qb bk ps s
 | .many p,s=>if s=0 then 1 else ((List.range s).attach.map fun ⟨f,hf⟩=>cnt bk p f*cnt bk (.many p) (s - 1 - f)).sum
 | .alike p n,s=>if s<n∨n=0∨s%n≠0 then 0 else cnt bk p (s / n - 1)
 | .use x,s=>if h:s=0 then 0 else cnt bk (bk x) (s - 1)
 | .cho un p,s=>wy un (fun f=>if h:f<s then cnt bk p f else 0) 0 s
termination_by sh s=>(s,sizeOf sh)
decreasing_by
 ·simp only [Prod.lex_def];right;simp
 ·simp only [Prod.lex_def];right;simp;omega
 ·have:=List.mem_range.mp hf;simp only [Prod.lex_def];left;omega
 ·have:=List.mem_range.mp hf;simp only [Prod.lex_def];left;omega
 ·simp only [Prod.lex_def]
  have h1:s / n≤s:=Nat.div_le_self _ _
  by_cases c:s / n - 1<s
  ·left;exact c
  ·right;refine ⟨by omega,by simp;omega⟩
 ·simp only [Prod.lex_def];left;omega
 ·simp only [Prod.lex_def];left;exact h
def Y9 (bk:List Nat→Sh):List Sh→Nat→Int
 | [],s=>if s=0 then 1 else 0
 | p::ps,s=>((List.range (s+1)).attach.map fun ⟨f,hf⟩=>cnt bk p f*Y9 bk ps (s - f)).sum
termination_by ps s=>(s,sizeOf ps)
decreasing_by
 ·have:=List.mem_range.mp hf
  simp only [Prod.lex_def]
  by_cases c:f<s
  ·left;exact c
  ·right;exact ⟨by omega,by simp;omega⟩
 ·simp only [Prod.lex_def]
  by_cases c:s - f<s
  ·left;exact c
  ·right;exact ⟨by omega,by simp;omega⟩
def Qb (bk:List Nat→Sh):List Sh→Nat→Int
 | [],_=>0
 | p::ps,s=>cnt bk p s+Qb bk ps s
termination_by ps s=>(s,sizeOf ps)
decreasing_by
 ·simp only [Prod.lex_def];right;exact ⟨trivial,by simp;omega⟩
 ·simp only [Prod.lex_def];right;exact ⟨trivial,by simp;omega⟩
end
theorem Yc2 (bk:List Nat→Sh) (lo:Int) (span s:Nat):cnt bk (.w lo span) s=wc span s:=by rw [cnt]
theorem Ub (bk:List Nat→Sh) (sg:List Nat) (s:Nat):cnt bk (.t sg) s=(sg.length:Int)^s:=by rw [cnt]
theorem Us (bk:List Nat→Sh) (ps:List Sh) (s:Nat):cnt bk (.row ps) s=Y9 bk ps s:=by rw [cnt]
theorem QC (bk:List Nat→Sh) (mk:List (List Nat)) (ps:List Sh) (s:Nat):cnt bk (.pick mk ps) s=(ps.map fun p=>cnt bk p s).sum:=by
 rw [cnt]
 induction ps with
 | nil=>rw [Qb];rfl
 | cons p ps ih=>rw [Qb,ih];rfl
theorem UL (bk:List Nat→Sh) (p:Sh):cnt bk (.many p) 0=1:=by rw [cnt,if_pos rfl]
theorem QD (bk:List Nat→Sh) (p:Sh) (s:Nat):cnt bk (.many p) (s+1)=((List.range (s+1)).map fun f=>cnt bk p f*cnt bk (.many p) (s+1 - 1 - f)).sum:=by
 rw [cnt,if_neg (by omega)]
 congr 1
 exact List.attach_map_val (f:=fun f=>cnt bk p f*cnt bk (.many p) (s+1 - 1 - f))
theorem QE (bk:List Nat→Sh) (x:List Nat):cnt bk (.use x) 0=0:=by rw [cnt,dif_pos rfl]
theorem Yau (bk:List Nat→Sh) (x:List Nat) (s:Nat):cnt bk (.use x) (s+1)=cnt bk (bk x) s:=by rw [cnt,dif_neg (by omega)];rfl
theorem Ut (bk:List Nat→Sh) (un:Bool) (p:Sh) (s:Nat):cnt bk (.cho un p) s=wy un (cnt bk p) 0 s:=by
 rw [cnt]
 exact QB un (c:=fun f=>if h:f<s then cnt bk p f else 0) (c':=cnt bk p) (fun i hi=>dif_pos hi) s 0 s (by omega) (Nat.le_refl _)
theorem VB (bk:List Nat→Sh) (p:Sh) (n s:Nat):cnt bk (.alike p n) s=if s<n∨n=0∨s%n≠0 then 0 else cnt bk p (s / n - 1):=by rw [cnt]
theorem QF (bk:List Nat→Sh) (s:Nat):Y9 bk [] s=if s=0 then 1 else 0:=by rw [Y9]
theorem UM (bk:List Nat→Sh) (p:Sh) (ps:List Sh) (s:Nat):Y9 bk (p::ps) s=((List.range (s+1)).map fun f=>cnt bk p f*Y9 bk ps (s - f)).sum:=by
 rw [Y9]
 congr 1
 exact List.attach_map_val (f:=fun f=>cnt bk p f*Y9 bk ps (s - f))
mutual
def kd:Sh→PyData
 | .w lo span => .tuple [.str "whole",.int lo,.int (lo+span)]
 | .t sg => .tuple [.str "text",.str (S sg)]
 | .row ps => .tuple [.str "row",.tuple (kds ps)]
 | .pick mk ps => .tuple [.str "pick",.tuple (kdp mk ps)]
 | .many p => .tuple [.str "many",kd p]
 | .alike p n => .tuple [.str "alike",kd p,.int n]
 | .use x => .tuple [.str "use",.str (S x)]
 | .cho un p => .tuple [.str (if un then "unlike" else "rising"),kd p]
def kds:List Sh→List PyData
 | []=>[]
 | p::ps=>kd p::kds ps
def kdp:List (List Nat)→List Sh→List PyData
 | m::mk,p::ps => .tuple [.str (S m),kd p]::kdp mk ps
 | _,_=>[]
end
variable {m:Nat}
variable {src:List (Option Nat)} {te:TE} {σ:St} {H:Hp} {Q:VK}
variable {P0:Program} {w0:World} {K:PySem.W.Frag} {C:Cs} {CL:Addr} {prs:Prs} {w:Wo} {U O:Addr→Prop} {H H':Hp} {ls dx d B:Addr} {xs:Dx}
variable {P0:Program} {w0:World} {K:PySem.W.Frag} {C:Cs} {CL:Addr} {prs:Prs} {w w1:Wo} {U U1 O:Addr→Prop} {H H1 H3:Hp} {ls dx d B:Addr} {xs xs1:Dx}
variable {P0:Program} {w0:World} {K:PySem.W.Frag} {C:Cs} {CL:Addr} {prs:Prs} {w:Wo} {U O O':Addr→Prop} {H H':Hp} {ls dx d B:Addr} {xs:Dx}
def Z2N:Sp:=fun vs H Q _=>∃ n m b:Nat,vs=[.int n,.int m]∧m≤64∧b≤100000∧n<2^b∧Q (.int (ch n m)) H
theorem YdA {n b i:Nat} (hi:i≤64) (hb:b≤100000) (hn:n<2^b) (x:Int) (hx:x.natAbs<2^(b+8)):V7 (ch n i) x:=by
 refine ⟨b*i+1,b+8,by simpa using Yar i hn,hx,?_⟩
 have:b*i≤100000*64:=Nat.mul_le_mul hb hi
 omega
theorem VM {n b:Nat} (h:n<2^b):n+64<2^(b+8):=by
 rw [Nat.pow_add]
 have:1≤2^b:=Nat.one_le_two_pow
 omega
theorem UU {Z3 Z0 Z1 Za Z5 Z4 Z7 Z9 Z6 Z8 Z2:Addr} (R:g.Raw "sets_among" "sets_among" Z2Z ["n","m"]) (ZP:g.mg "range"=none):g.Fn (1) "sets_among" ["n","m"] (Z2N):=by
 refine R.fn Z20 (fun vs H Q E h=>by obtain ⟨n,m,b,rfl,hm,hb,hn,q⟩:=h;rfl) fun f_ cdv A outer s H vs Q E hr h=>?_
 obtain ⟨n,m,b,rfl,hm,hb,hn,q⟩:=h
 refine ⟨_,(@Yh _ _ _ _ _ (@YO _ _ _ _ _ _ _ _ (@Yt _ _ _ _ _ _ _ _ YcS (@pv _ 1 _ _ (by rfl) (by first | exact .inl rfl | exact .inr (.inl rfl) | exact .inr (.inr rfl)) (by decide) (by decide)) (@pv _ 0 _ _ (by rfl) (by first | exact .inl rfl | exact .inr (.inl rfl) | exact .inr (.inr rfl)) (by decide) (by decide)) (Yw _)) (@Yg _ _ _ (@Yo _ _ _ _ Yf)) YC) (@Yh _ _ _ _ _ (@YA _ _ (2) _ _ _ _ Z20.nd rfl (.inl rfl) Yf (by rfl) (by first | exact .inl rfl | exact .inr rfl | assumption)) (@Yh _ _ _ _ _ (@XR _ _ _ _ _ _ _ _ PassesOwn.never rfl (@Xd _ _ _ _ _ _ rfl ZP (@Ya _ _ _ _ _ (@pv _ 1 _ _ (by rfl) (by first | exact .inl rfl | exact .inr (.inl rfl) | exact .inr (.inr rfl)) (by decide) (by decide)) Yc (by rfl)) (by rfl)) (@YF _ _ (3) _ Z20.nd rfl (.inl rfl) (by first | exact .inl rfl | exact .inr rfl | assumption)) (@Yg _ _ _ (@YA _ _ (2) _ _ _ _ Z20.nd rfl (.inl rfl) (@Yi _ _ _ _ _ _ _ _ YH (@Yi _ _ _ _ _ _ _ _ Xt (@pv _ 2 _ _ (by rfl) (by first | exact .inl rfl | exact .inr (.inl rfl) | exact .inr (.inr rfl)) (by decide) (by decide)) (@Yi _ _ _ _ _ _ _ _ YD (@pv _ 0 _ _ (by rfl) (by first | exact .inl rfl | exact .inr (.inl rfl) | exact .inr (.inr rfl)) (by decide) (by decide)) (@pv _ 3 _ _ (by rfl) (by first | exact .inl rfl | exact .inr (.inl rfl) | exact .inr (.inr rfl)) (by decide) (by decide)))) (@Yi _ _ _ _ _ _ _ _ YI (@pv _ 3 _ _ (by rfl) (by first | exact .inl rfl | exact .inr (.inl rfl) | exact .inr (.inr rfl)) (by decide) (by decide)) Yf)) (by rfl) (by first | exact .inl rfl | exact .inr rfl | assumption))) (by intro _;rfl)) (@Yg _ _ _ (@Yo _ _ _ _ (@pv _ 2 _ _ (by rfl) (by first | exact .inl rfl | exact .inr (.inl rfl) | exact .inr (.inr rfl)) (by decide) (by decide))))))),?_⟩
 walk_at "rd"
 refine XB (fun c=>?_) (fun c=>?_)
 ·rw [U9 n m (by omega)] at q
  exact q
 ·refine XJ (n:=m) (fun i σ H'=>∃ o,σ=[some (.int n),some (.int m),some (.int (ch n i)),o]∧H'=H) (fun R r=>by walk_at "rd";exact r) (by omega) ⟨none,by rw [X5];rfl,rfl⟩ ?_ ?_
  ·rintro i σ H' hi ⟨o,rfl,rfl⟩
   walk_at "rd"
   have:=VM hn
   exact ⟨.inl (YdA (by omega) hb hn _ (by omega)),YX (by omega) (by omega),Yas n i⟩
  ·rintro σ H' ⟨o,rfl,rfl⟩
   walk_at "rd"
   exact q
def Z4G:Sp:=fun vs H Q _=>∃ n m b:Nat,vs=[.int n,.int m]∧m≤64∧b≤90000∧n<2^b∧Q (.int (bg n m)) H
theorem UV {k:Nat} {Z3 Z0 Z1 Za Z5 Z4 Z7 Z9 Z6 Z8 Z2:Addr} (R:g.Raw "bags_among" "bags_among" Z30 ["n","m"]) (Z32:g.Fn k "sets_among" ["n","m"] (Z2N)):g.Fn (k+1) "bags_among" ["n","m"] (Z4G):=by
 refine R.fn UT (fun vs H Q E h=>by obtain ⟨n,m,b,rfl,hm,hb,hn,q⟩:=h;rfl) fun f_ cdv A outer s H vs Q E hr h=>?_
 obtain ⟨n,m,b,rfl,hm,hb,hn,q⟩:=h
 refine ⟨_,(@Yh _ _ _ _ _ (@YO _ _ _ _ _ _ _ _ (@Yt _ _ _ _ _ _ _ _ Y4 (@pv _ 1 _ _ (by rfl) (by first | exact .inl rfl | exact .inr (.inl rfl) | exact .inr (.inr rfl)) (by decide) (by decide)) Yf (Yw _)) (@Yg _ _ _ (@Yo _ _ _ _ Yf)) YC) (@Yh _ _ _ _ _ (@YO _ _ _ _ _ _ _ _ (@Yt _ _ _ _ _ _ _ _ Y4 (@pv _ 0 _ _ (by rfl) (by first | exact .inl rfl | exact .inr (.inl rfl) | exact .inr (.inr rfl)) (by decide) (by decide)) Yf (Yw _)) (@Yg _ _ _ (@Yo _ _ _ _ Yf)) YC) (@Yg _ _ _ (@Yo _ _ _ _ (@Yx _ _ _ _ _ _ _ _ _ _ _ _ Z32 hr (@Ya _ _ _ _ _ (@Yi _ _ _ _ _ _ _ _ YD (@Yi _ _ _ _ _ _ _ _ YI (@pv _ 0 _ _ (by rfl) (by first | exact .inl rfl | exact .inr (.inl rfl) | exact .inr (.inr rfl)) (by decide) (by decide)) (@pv _ 1 _ _ (by rfl) (by first | exact .inl rfl | exact .inr (.inl rfl) | exact .inr (.inr rfl)) (by decide) (by decide))) Yf) (@Ya _ _ _ _ _ (@pv _ 1 _ _ (by rfl) (by first | exact .inl rfl | exact .inr (.inl rfl) | exact .inr (.inr rfl)) (by decide) (by decide)) Yc (by rfl)) (by rfl)) (by omega) (by rfl) (by rfl) (by decide) (by rfl) (by rfl)))))),?_⟩
 walk_at "rd"
 refine XB (fun c=>?_) (fun c=>?_)
 ·have:m=0:=by omega
  subst this
  rw [WE] at q
  exact q
 ·refine XB (fun c=>?_) (fun c=>?_)
  ·have:n=0:=by omega
   subst this
   obtain ⟨m,rfl⟩:∃ j,m=j+1:=⟨m - 1,by omega⟩
   rw [Wt] at q
   exact q
  ·obtain ⟨n,rfl⟩:∃ j,n=j+1:=⟨n - 1,by omega⟩
   have:=VM hn
   refine ⟨n+m,m,b+8,?_,hm,by omega,by omega,?_⟩
   ·have e:((n+1:Nat):Int)+m - 1=((n+m:Nat):Int):=by omega
    rw [e]
   ·rw [← WW];exact q
def YR (f:Nat→Int) (n:Nat):List V:=(List.range n).map fun k=>V.int (f k)
theorem Yr (f:Nat→Int) (n:Nat):(YR f n).length=n:=by simp [YR]
theorem Y2 (f:Nat→Int) (n:Nat):YR f (n+1)=YR f n++[.int (f n)]:=by simp [YR,List.range_succ]
theorem YY (f:Nat→Int) {n i:Nat} (h:i<n):atI (YR f n) (i:Int)=some (.int (f i)):=Yy (by simp [YR,h])
theorem dle (x k:Nat):decide ((x:Int)≤(k:Int))=decide (x≤k):=decide_eq_decide.mpr (by omega)
structure Cs where
 (w t row tab many pick use alike cho ctab:Addr)
structure Wo where
 bk:List Nat→Sh
 reg:Addr→Option Sh
 D:Addr→Option (Addr×Nat)
 M:Nat
structure Sw where
 ns:Addr→Nat
 ms:Addr→Nat→Nat
 U:Addr→Prop
 rs:Addr→List Addr
def WN (C:Cs):Sh→Addr
 | .w _ _=>C.w
 | .t _=>C.t
 | .row _=>C.row
 | .pick _ _=>C.pick
 | .many _=>C.many
 | .alike _ _=>C.alike
 | .use _=>C.use
 | .cho _ _=>C.cho
def Wl (reg:Addr→Option Sh) (as:List Addr) (ps:List Sh):Prop:=as.length=ps.length∧∀ (i:Nat) a p,as[i]?=some a→ps[i]?=some p→reg a=some p
def sm (x:Int):Prop:=∃ n:Nat,n≤10000000∧x.natAbs<2^n
def sB (x:Int):Prop:=0≤x∧∃ b:Nat,b≤90000∧x.toNat<2^b
def Un (w:Wo) (t:Sw) (b:Addr):Prop:=w.D b=none∧t.U b
def fW (lo:Int) (span:Nat):List (Str×V):=[("low",.int lo),("span",.int span)]
def fT (sg:List Nat):List (Str×V):=[("signs",.str (S sg))]
def fR (P T:Addr):List (Str×V):=[("parts",.ref P),("table",.ref T)]
def W2 (P L:Addr):List (Str×V):=[("parts",.ref P),("ways",.ref L)]
def fP (M P:Addr):List (Str×V):=[("marks",.ref M),("parts",.ref P)]
def fM (a:Addr):List (Str×V):=[("part",.ref a)]
def fA (a:Addr) (n:Nat):List (Str×V):=[("part",.ref a),("times",.int n)]
def fC (a T:Addr):List (Str×V):=[("part",.ref a),("table",.ref T)]
def fCt (a:Addr) (un:Bool) (R:Addr):List (Str×V):=[("part",.ref a),("unlike",.bl un),("rows",.ref R)]
def VC (un:Bool) (c:Nat→Int) (j:Nat):List V:=(List.range j).map fun l=>V.int (wy un c l j)
def fU (a:V):List (Str×V):=[("named",a)]
def mf (c:Addr) (fs:List (Str×V)):List (Str×V):=("counts",.ref c)::fs
def Sub (C:Cs) (w:Wo) (t:Sw) (H:Hp) (p:Addr):Sh→List (Str×V)→Prop
 | .w lo span,fs=>fs=fW lo span
 | .t sg,fs=>fs=fT sg∧sg.length≤62
 | .row ps,fs=>∃ (P T dt L:Addr) (as ws:List Addr),fs=fR P T∧Un w t P∧Un w t T∧Un w t L∧H P=some (.lst (as.map V.ref))∧Wl w.reg as ps∧ps.length≤100 ∧
   H T=some (.ins C.tab dt (W2 P L))∧H L=some (.lst (ws.map V.ref))∧ws.length=ps.length+1 ∧
   (∀ (i:Nat) x,ws[i]?=some x→w.D x=some (p,i+1)∧t.ns p≤t.ms p i∧t.ms p i≤60∧H x=some (.lst (YR (Y9 w.bk (ps.drop i)) (t.ms p i))))∧∀ i s,s≤45→sm (Y9 w.bk (ps.drop i) s)
 | .pick mk ps,fs=>∃ (M P:Addr) (as:List Addr),fs=fP M P∧Un w t M∧Un w t P∧H M=some (.lst (mk.map fun m=>V.str (S m)))∧H P=some (.lst (as.map V.ref))∧Wl w.reg as ps∧ps.length≤100
 | .many q,fs=>∃ a,fs=fM a∧w.reg a=some q
 | .alike q n,fs=>∃ a,fs=fA a n∧0<n∧w.reg a=some q
 | .use x,fs=>∃ a,fs=fU (.ref a)∧w.reg a=some (w.bk x)∧dep (w.bk x)=0
 | .cho un q,fs=>∃ (a T dt R:Addr) (rs:List Addr),fs=fC a T∧w.reg a=some q∧Un w t T∧H T=some (.ins C.ctab dt (fCt a un R))∧w.D R=some (p,1)∧H R=some (.lst (rs.map V.ref))∧rs.length=t.ms p 0∧t.ms p 0≤60∧t.ms p 1≤t.ms p 0 ∧
   (∀ (j:Nat) r,rs[j]?=some r→j<t.ms p 1→Un w t r∧H r=some (.lst (VC un (cnt w.bk q) j)))∧(∀ l s,s≤45→sm (wy un (cnt w.bk q) l s))∧(∀ s,s≤45→sB (cnt w.bk q s))∧rs=t.rs p
def XM (C:Cs) (w:Wo) (t:Sw) (H:Hp) (p:Addr) (sh:Sh):Prop:=∃ (dx c:Addr) (fs:List (Str×V)),Un w t p∧dep sh≤w.M∧(∀ s,s≤45→sm (cnt w.bk sh s))∧t.ns p≤60∧H p=some (.ins (WN C sh) dx (mf c fs))∧w.D c=some (p,0)∧H c=some (.lst (YR (cnt w.bk sh) (t.ns p)))∧Sub C w t H p sh fs
structure WI (C:Cs) (w:Wo) (t:Sw) (H:Hp):Prop where
 at_:∀ p sh,w.reg p=some sh→XM C w t H p sh
 al:∀ b,t.U b→H b≠none
 ow:∀ b x,w.D b=some x→t.U b
 inj:∀ b b' x,w.D b=some x→w.D b'=some x→b=b'
theorem Sub.keep {C:Cs} {w:Wo} {t:Sw} {H H':Hp} {p:Addr} (ow:∀ b x,w.D b=some x→t.U b) (hk:∀ b o,t.U b→H b=some o→H' b=some o):∀ {sh:Sh} {fs:List (Str×V)},Sub C w t H p sh fs→Sub C w t H' p sh fs
 | .w lo span,fs,h=>h
 | .t sg,fs,h=>h
 | .row ps,fs,h=>by
  obtain ⟨P,T,dt,L,as,ws,h1,h2,h3,h4,h5,h6,h7,h8,h9,h10,h11,h12⟩:=h
  exact ⟨P,T,dt,L,as,ws,h1,h2,h3,h4,hk _ _ h2.2 h5,h6,h7,hk _ _ h3.2 h8,hk _ _ h4.2 h9,h10,fun i x hx=>⟨(h11 i x hx).1,(h11 i x hx).2.1,(h11 i x hx).2.2.1,hk _ _ (ow _ _ (h11 i x hx).1) (h11 i x hx).2.2.2⟩,h12⟩
 | .pick mk ps,fs,h=>by
  obtain ⟨M,P,as,h1,h2,h3,h4,h5,h6,h7⟩:=h
  exact ⟨M,P,as,h1,h2,h3,hk _ _ h2.2 h4,hk _ _ h3.2 h5,h6,h7⟩
 | .many q,fs,h=>h
 | .alike _ _,fs,h=>h
 | .use x,fs,h=>h
 | .cho un q,fs,h=>by
  obtain ⟨a,T,dt,R,rs,h1,h2,h3,h4,h5,h6,h7,h8,h9,h10,h11⟩:=h
  exact ⟨a,T,dt,R,rs,h1,h2,h3,hk _ _ h3.2 h4,h5,hk _ _ (ow _ _ h5) h6,h7,h8,h9,fun j r hr hj=>⟨(h10 j r hr hj).1,hk _ _ (h10 j r hr hj).1.2 (h10 j r hr hj).2⟩,h11⟩
theorem WI.keep {C:Cs} {w:Wo} {t:Sw} {H H':Hp} (h:WI C w t H) (hk:∀ b o,t.U b→H b=some o→H' b=some o):WI C w t H':=by
 refine ⟨fun p sh hr=>?_,fun b hb=>?_,h.ow,h.inj⟩
 ·obtain ⟨dx,c,fs,h1,h2,h3,h4,h5,h6,h7,h8⟩:=h.at_ p sh hr
  exact ⟨dx,c,fs,h1,h2,h3,h4,hk _ _ h1.2 h5,h6,hk _ _ (h.ow _ _ h6) h7,h8.keep h.ow hk⟩
 ·have:=h.al b hb
  cases e:H b with
  | none=>exact absurd e this
  | some o=>rw [hk b o hb e];intro z;cases z
theorem WI.same {C:Cs} {w:Wo} {t:Sw} {H H':Hp} (h:WI C w t H) (s:Yq H H'):WI C w t H':=h.keep fun b o _ e=>s _ _ e
theorem WI.new {C:Cs} {w:Wo} {t:Sw} {H:Hp} (h:WI C w t H) {a:Addr} (ha:H a=none):w.D a=none∧¬ t.U a:=by
 have n:¬ t.U a:=fun z=>h.al a z ha
 refine ⟨?_,n⟩
 cases e:w.D a with
 | none=>rfl
 | some x=>exact absurd (h.ow a x e) n
theorem WI.loc {C:Cs} {w:Wo} {t:Sw} {H:Hp} (h:WI C w t H) {a:Addr} (ha:¬ t.U a) (o:HO):WI C w t (upd H a o):=h.keep fun b u hb e=>by rw [Yd fun z=>ha (by rw [← z];exact hb)];exact e
def Sw.setn (t:Sw) (p:Addr) (n:Nat):Sw:={ t with ns:=fun q=>if q=p then n else t.ns q }
def Sw.setm (t:Sw) (p:Addr) (i n:Nat):Sw:={ t with ms:=fun q j=>if q=p∧i≤j then n else t.ms q j }
theorem Sub.setn {C:Cs} {w:Wo} {t:Sw} {H:Hp} {p q c:Addr} {n:Nat} {o:HO} (hc:w.D c=some (q,0)):∀ {sh:Sh} {fs:List (Str×V)},(p=q→∀ ps,sh = .row ps→∀ i,n≤t.ms p i)→Sub C w t H p sh fs→Sub C w (t.setn q n) (upd H c o) p sh fs
 | .w lo span,fs,_,h=>h
 | .t sg,fs,_,h=>h
 | .row ps,fs,hful,h=>by
  obtain ⟨P,T,dt,L,as,ws,h1,h2,h3,h4,h5,h6,h7,h8,h9,h10,h11,h12⟩:=h
  have ne:∀ {b:Addr},w.D b=none→b≠c:=fun e z=>by rw [z,hc] at e;cases e
  refine ⟨P,T,dt,L,as,ws,h1,h2,h3,h4,(Yd (ne h2.1)).trans h5,h6,h7,(Yd (ne h3.1)).trans h8,(Yd (ne h4.1)).trans h9,h10,fun i x hx=>⟨(h11 i x hx).1,?_,(h11 i x hx).2.2.1,?_⟩,h12⟩
  ·show (if p=q then n else t.ns p)≤t.ms p i
   by_cases e:p=q
   ·rw [if_pos e];exact hful e ps rfl i
   ·rw [if_neg e];exact (h11 i x hx).2.1
  ·rw [Yd fun z=>by have:=(h11 i x hx).1;rw [z,hc] at this;injection this with this;injection this with _ this;omega]
   exact (h11 i x hx).2.2.2
 | .pick mk ps,fs,_,h=>by
  obtain ⟨M,P,as,h1,h2,h3,h4,h5,h6,h7⟩:=h
  have ne:∀ {b:Addr},w.D b=none→b≠c:=fun e z=>by rw [z,hc] at e;cases e
  exact ⟨M,P,as,h1,h2,h3,(Yd (ne h2.1)).trans h4,(Yd (ne h3.1)).trans h5,h6,h7⟩
 | .many q,fs,_,h=>h
 | .alike _ _,fs,_,h=>h
 | .use x,fs,_,h=>h
 | .cho un q,fs,_,h=>by
  obtain ⟨a,T,dt,R,rs,h1,h2,h3,h4,h5,h6,h7,h8,h9,h10,h11⟩:=h
  have ne:∀ {b:Addr},w.D b=none→b≠c:=fun e z=>by rw [z,hc] at e;cases e
  have nR:R≠c:=fun z=>by rw [z,hc] at h5;injection h5 with h5;injection h5 with _ h5;omega
  exact ⟨a,T,dt,R,rs,h1,h2,h3,(Yd (ne h3.1)).trans h4,h5,(Yd nR).trans h6,h7,h8,h9,fun j r hr hj=>⟨(h10 j r hr hj).1,(Yd (ne (h10 j r hr hj).1.1)).trans (h10 j r hr hj).2⟩,h11⟩
theorem WI.count {C:Cs} {w:Wo} {t:Sw} {H:Hp} (h:WI C w t H) {p c:Addr} {sh:Sh} (hr:w.reg p=some sh) (hc:w.D c=some (p,0)) (hn:t.ns p<60) (hful:∀ ps,sh = .row ps→∀ i,t.ns p+1≤t.ms p i):WI C w (t.setn p (t.ns p+1)) (upd H c (.lst (YR (cnt w.bk sh) (t.ns p+1)))):=by
 refine ⟨fun q sh' hr'=>?_,fun b hb=>?_,h.ow,h.inj⟩
 ·obtain ⟨dx,c',fs,h1,h2,h3,h4,h5,h6,h7,h8⟩:=h.at_ q sh' hr'
  have n1:q≠c:=fun z=>by have:=h1.1;rw [z,hc] at this;cases this
  refine ⟨dx,c',fs,h1,h2,h3,?_,(Yd n1).trans h5,h6,?_,h8.setn hc fun e ps e2=>?_⟩
  ·show (if q=p then _ else t.ns q)≤60
   split<;>omega
  ·show _=some (HO.lst (YR _ (if q=p then _ else t.ns q)))
   by_cases e:q=p
   ·subst e
    rw [hr] at hr'
    have:=Option.some.inj hr'
    subst this
    rw [if_pos rfl]
    rw [h.inj _ _ _ h6 hc,Ye]
   ·rw [if_neg e,Yd fun z=>e (by rw [z,hc] at h6;injection h6 with h6;injection h6 with h6 _;exact h6.symm)]
    exact h7
  ·subst e
   rw [hr] at hr'
   exact hful ps ((Option.some.inj hr').trans e2)
 ·by_cases e:b=c
  ·rw [e,Ye];intro z;cases z
  ·rw [Yd e];exact h.al b hb
theorem Sub.setm {C:Cs} {w:Wo} {t:Sw} {H:Hp} (inj:∀ b b' x,w.D b=some x→w.D b'=some x→b=b') {p q y:Addr} {i:Nat} {qs:List Sh} {f:Nat→Int} (hq:w.reg q=some (.row qs)) (hc:w.D y=some (q,i+1)) (hf:f=Y9 w.bk (qs.drop i)) (hm:t.ms q i<60) (hj:∀ j,i<j→j≤qs.length→t.ms q j=t.ms q i+1):∀ {sh:Sh} {fs:List (Str×V)},w.reg p=some sh→Sub C w t H p sh fs→Sub C w (t.setm q i (t.ms q i+1)) (upd H y (.lst (YR f (t.ms q i+1)))) p sh fs
 | .w lo span,fs,_,h=>h
 | .t sg,fs,_,h=>h
 | .row ps,fs,hp,h=>by
  obtain ⟨P,T,dt,L,as,ws,h1,h2,h3,h4,h5,h6,h7,h8,h9,h10,h11,h12⟩:=h
  have ne:∀ {b:Addr},w.D b=none→b≠y:=fun e z=>by rw [z,hc] at e;cases e
  refine ⟨P,T,dt,L,as,ws,h1,h2,h3,h4,(Yd (ne h2.1)).trans h5,h6,h7,(Yd (ne h3.1)).trans h8,(Yd (ne h4.1)).trans h9,h10,fun j x hx=>⟨(h11 j x hx).1,?_,?_,?_⟩,h12⟩
  ·show t.ns p≤(if p=q∧i≤j then _ else t.ms p j)
   have:=(h11 j x hx).2.1
   split
   ·rename_i e
    obtain ⟨rfl,hij⟩:=e
    rw [hq] at hp
    have:=Sh.row.inj (Option.some.inj hp)
    subst this
    have hl:=(List.getElem?_eq_some_iff.mp hx).1
    by_cases e2:j=i
    ·subst e2;omega
    ·rw [← hj j (by omega) (by omega)];exact (h11 j x hx).2.1
   ·exact this
  ·show (if p=q∧i≤j then _ else t.ms p j)≤60
   have:=(h11 j x hx).2.2.1
   split<;>omega
  ·show _=some (HO.lst (YR _ (if p=q∧i≤j then _ else t.ms p j)))
   by_cases e:p=q∧i≤j
   ·obtain ⟨rfl,hij⟩:=e
    rw [hq] at hp
    have:=Sh.row.inj (Option.some.inj hp)
    subst this
    rw [if_pos ⟨rfl,hij⟩]
    by_cases e2:j=i
    ·subst e2
     rw [inj _ _ _ (h11 j x hx).1 hc,Ye,hf]
    ·have hl:=(List.getElem?_eq_some_iff.mp hx).1
     rw [Yd fun z=>e2 ?_,← hj j (by omega) (by omega)]
     ·exact (h11 j x hx).2.2.2
     ·have:=(h11 j x hx).1
      rw [z,hc] at this
      injection this with this
      injection this with t1 t2
      omega
   ·rw [if_neg e,Yd fun z=>e ?_]
    ·exact (h11 j x hx).2.2.2
    ·have:=(h11 j x hx).1
     rw [z,hc] at this
     injection this with this
     injection this with t1 t2
     exact ⟨t1.symm,by omega⟩
 | .pick mk ps,fs,_,h=>by
  obtain ⟨M,P,as,h1,h2,h3,h4,h5,h6,h7⟩:=h
  have ne:∀ {b:Addr},w.D b=none→b≠y:=fun e z=>by rw [z,hc] at e;cases e
  exact ⟨M,P,as,h1,h2,h3,(Yd (ne h2.1)).trans h4,(Yd (ne h3.1)).trans h5,h6,h7⟩
 | .many q,fs,_,h=>h
 | .alike _ _,fs,_,h=>h
 | .use x,fs,_,h=>h
 | .cho un q',fs,hp,h=>by
  obtain ⟨a,T,dt,R,rs,h1,h2,h3,h4,h5,h6,h7,h8,h9,h10,h11⟩:=h
  have npq:p≠q:=fun z=>by rw [z,hq] at hp;cases hp
  have ne:∀ {b:Addr},w.D b=none→b≠y:=fun e z=>by rw [z,hc] at e;cases e
  have nR:R≠y:=fun z=>by rw [z,hc] at h5;injection h5 with h5;injection h5 with h5 _;exact npq h5.symm
  have em:∀ j,(t.setm q i (t.ms q i+1)).ms p j=t.ms p j:=fun j=>if_neg fun z=>npq z.1
  refine ⟨a,T,dt,R,rs,h1,h2,h3,(Yd (ne h3.1)).trans h4,h5,(Yd nR).trans h6,by rw [em];exact h7,by rw [em];exact h8,by rw [em,em];exact h9,fun j r hr hj=>?_,h11⟩
  rw [em] at hj
  exact ⟨(h10 j r hr hj).1,(Yd (ne (h10 j r hr hj).1.1)).trans (h10 j r hr hj).2⟩
theorem WI.way {C:Cs} {w:Wo} {t:Sw} {H:Hp} (h:WI C w t H) {q y:Addr} {i:Nat} {qs:List Sh} (hq:w.reg q=some (.row qs)) (hc:w.D y=some (q,i+1)) (hm:t.ms q i<60) (hj:∀ j,i<j→j≤qs.length→t.ms q j=t.ms q i+1):WI C w (t.setm q i (t.ms q i+1)) (upd H y (.lst (YR (Y9 w.bk (qs.drop i)) (t.ms q i+1)))):=by
 refine ⟨fun p sh hp=>?_,fun b hb=>?_,h.ow,h.inj⟩
 ·obtain ⟨dx,c,fs,h1,h2,h3,h4,h5,h6,h7,h8⟩:=h.at_ p sh hp
  have n1:p≠y:=fun z=>by have:=h1.1;rw [z,hc] at this;cases this
  have n2:c≠y:=fun z=>by rw [z,hc] at h6;injection h6 with h6;injection h6 with _ h6;omega
  exact ⟨dx,c,fs,h1,h2,h3,h4,(Yd n1).trans h5,h6,(Yd n2).trans h7,h8.setm h.inj hq hc rfl hm hj hp⟩
 ·by_cases e:b=y
  ·rw [e,Ye];intro z;cases z
  ·rw [Yd e];exact h.al b hb
def bnd (s d:Nat) (sh:Sh):Nat:=if dep sh<d then s+1 else s
def Uni (t:Sw) (p:Addr):Prop:=∀ i,t.ms p i=t.ms p 0
structure Gr1 (t t':Sw) (p:Addr) (b:Nat):Prop where
 up:t.ns p≤t'.ns p
 le:t'.ns p≤max (t.ns p) b
 no:b≤t.ns p→t'.ms p=t.ms p
 un:Uni t p→Uni t' p
 nr:b≤t.ns p→t'.rs p=t.rs p
theorem Gr1.refl (t:Sw) (p:Addr) (b:Nat):Gr1 t t p b:=⟨Nat.le_refl _,Nat.le_max_left _ _,fun _=>rfl,fun h=>h,fun _=>rfl⟩
theorem Gr1.trans {t t1 t2:Sw} {p:Addr} {b:Nat} (a:Gr1 t t1 p b) (c:Gr1 t1 t2 p b):Gr1 t t2 p b:=by
 have h1:=a.up
 have h2:=c.up
 have h3:=a.le
 have h4:=c.le
 exact ⟨by omega,by omega,fun h=>by rw [c.no (by omega),a.no h],fun h=>c.un (a.un h),fun h=>by rw [c.nr (by omega),a.nr h]⟩
theorem Gr1.mono {t t1:Sw} {p:Addr} {b b':Nat} (a:Gr1 t t1 p b) (h:b≤b'):Gr1 t t1 p b':=⟨a.up,by have:=a.le;omega,fun z=>a.no (by omega),a.un,fun z=>a.nr (by omega)⟩
theorem QG {s d s' d':Nat} (h:s'<s∨(s'=s∧d'≤d)) (sh:Sh):bnd s' d' sh≤bnd s d sh:=by
 unfold bnd
 split<;>split<;>omega
def Fr (w:Wo) (H H':Hp):Prop:=∀ b o,w.D b=none→H b=some o→H' b=some o
structure Tr (C:Cs) (w:Wo) (t:Sw) (H:Hp) (t':Sw) (H':Hp) (s d:Nat):Prop where
 wi:WI C w t' H'
 fr:Fr w H H'
 gr:∀ p sh,w.reg p=some sh→Gr1 t t' p (bnd s d sh)
 u1:∀ b,t.U b→t'.U b
 u2:∀ b,t'.U b→t.U b∨H b=none
def YZ (w:Wo) (t:Sw) (s d:Nat):Prop:=∀ p sh,w.reg p=some sh→t.ns p<bnd s d sh→Uni t p
theorem YZ.mono {w:Wo} {t:Sw} {s d s' d':Nat} (h:YZ w t s d) (c:s'<s∨(s'=s∧d'≤d)):YZ w t s' d':=fun p sh hr hn=>h p sh hr (Nat.lt_of_lt_of_le hn (QG c sh))
theorem Tr.refl {C:Cs} {w:Wo} {t:Sw} {H:Hp} (h:WI C w t H) (s d:Nat):Tr C w t H t H s d:=⟨h,fun _ _ _ e=>e,fun p sh _ => .refl _ _ _,fun _ h=>h,fun _ h => .inl h⟩
theorem Tr.alloc {C:Cs} {w:Wo} {t t':Sw} {H H':Hp} {s d:Nat} (T:Tr C w t H t' H' s d) {b:Addr} {o:HO} (h:H b=some o):H' b≠none:=by
 cases e:w.D b with
 | none=>rw [T.fr b o e h];intro z;cases z
 | some x=>exact T.wi.al b (T.wi.ow b x e)
theorem Tr.trans {C:Cs} {w:Wo} {t t1 t2:Sw} {H H1 H2:Hp} {s d:Nat} (a:Tr C w t H t1 H1 s d) (b:Tr C w t1 H1 t2 H2 s d):Tr C w t H t2 H2 s d :=
 ⟨b.wi,fun c o e h=>b.fr c o e (a.fr c o e h),fun p sh hr=>(a.gr p sh hr).trans (b.gr p sh hr),fun c h=>b.u1 c (a.u1 c h),fun c h=>by
  rcases b.u2 c h with h | h
  ·exact a.u2 c h
  ·cases e:H c with
   | none=>exact .inr rfl
   | some o=>exact absurd h (a.alloc e)⟩
theorem Tr.mono {C:Cs} {w:Wo} {t t1:Sw} {H H1:Hp} {s d s' d':Nat} (a:Tr C w t H t1 H1 s' d') (c:s'<s∨(s'=s∧d'≤d)):Tr C w t H t1 H1 s d:=⟨a.wi,a.fr,fun p sh hr=>(a.gr p sh hr).mono (QG c sh),a.u1,a.u2⟩
theorem Tr.same {C:Cs} {w:Wo} {t t1:Sw} {H H1 H2:Hp} {s d:Nat} (a:Tr C w t H t1 H1 s d) (b:Yq H1 H2):Tr C w t H t1 H2 s d:=⟨a.wi.same b,fun c o e h=>b _ _ (a.fr c o e h),a.gr,a.u1,a.u2⟩
theorem Tr.put {C:Cs} {w:Wo} {t t1:Sw} {H H1:Hp} {s d:Nat} (a:Tr C w t H t1 H1 s d) {x:Addr} (h:H x=none) (n:¬ t1.U x) (o:HO):Tr C w t H t1 (upd H1 x o) s d:=⟨a.wi.loc n o,fun c u e z=>by rw [Yd (Yk z h)];exact a.fr c u e z,a.gr,a.u1,a.u2⟩
theorem Tr.ready {C:Cs} {w:Wo} {t t1:Sw} {H H1:Hp} {s d s' d':Nat} (a:Tr C w t H t1 H1 s' d') (r:YZ w t s d):YZ w t1 s d:=fun p sh hr hn=>(a.gr p sh hr).un (r p sh hr (Nat.lt_of_le_of_lt (a.gr p sh hr).up hn))
theorem Tr.ours {C:Cs} {w:Wo} {t t1:Sw} {H H1:Hp} {s d:Nat} (a:Tr C w t H t1 H1 s d) {x:Addr} {o:HO} (n:¬ t.U x) (h:H x=some o):¬ t1.U x:=fun z=>by
 rcases a.u2 x z with z | z
 ·exact n z
 ·rw [h] at z;cases z
structure TrB (C:Cs) (w:Wo) (t:Sw) (H:Hp) (t':Sw) (H':Hp) (s d:Nat) (p:Addr):Prop where
 wi:WI C w t' H'
 fr:Fr w H H'
 gr:∀ q sh,w.reg q=some sh→q≠p→Gr1 t t' q (bnd s d sh)
 own:t'.ns p=t.ns p
 u1:∀ b,t.U b→t'.U b
 u2:∀ b,t'.U b→t.U b∨H b=none
theorem Tr.b {C:Cs} {w:Wo} {t t':Sw} {H H':Hp} {s d:Nat} {p:Addr} (T:Tr C w t H t' H' s d) (h:t'.ns p=t.ns p):TrB C w t H t' H' s d p:=⟨T.wi,T.fr,fun q sh hq _=>T.gr q sh hq,h,T.u1,T.u2⟩
theorem TrB.trans {C:Cs} {w:Wo} {t t1 t2:Sw} {H H1 H2:Hp} {s d:Nat} {p:Addr} (a:TrB C w t H t1 H1 s d p) (b:TrB C w t1 H1 t2 H2 s d p):TrB C w t H t2 H2 s d p :=
 ⟨b.wi,fun c o e h=>b.fr c o e (a.fr c o e h),fun q sh hr n=>(a.gr q sh hr n).trans (b.gr q sh hr n),b.own.trans a.own,fun c h=>b.u1 c (a.u1 c h),fun c h=>by
  rcases b.u2 c h with h | h
  ·exact a.u2 c h
  ·cases e:H c with
   | none=>exact .inr rfl
   | some o =>
    exfalso
    cases e2:w.D c with
    | none=>rw [a.fr c o e2 e] at h;cases h
    | some x=>exact a.wi.al c (a.wi.ow c x e2) h⟩
theorem TrB.same {C:Cs} {w:Wo} {t t1:Sw} {H H1 H2:Hp} {s d:Nat} {p:Addr} (a:TrB C w t H t1 H1 s d p) (b:Yq H1 H2):TrB C w t H t1 H2 s d p:=⟨a.wi.same b,fun c o e h=>b _ _ (a.fr c o e h),a.gr,a.own,a.u1,a.u2⟩
theorem TrB.ready {C:Cs} {w:Wo} {t t1:Sw} {H H1:Hp} {s d s' d':Nat} {p:Addr} {sh:Sh} (a:TrB C w t H t1 H1 s' d' p) (hg:w.reg p=some sh) (hb:bnd s d sh≤t.ns p) (r:YZ w t s d):YZ w t1 s d:=fun q sh' hr hn=>by
 by_cases e:q=p
 ·subst e
  rw [hg] at hr
  have:=Option.some.inj hr
  subst this
  have:=a.own
  omega
 ·exact (a.gr q sh' hr e).un (r q sh' hr (Nat.lt_of_le_of_lt (a.gr q sh' hr e).up hn))
theorem TrB.way {C:Cs} {w:Wo} {t t1:Sw} {H H1:Hp} {s d i:Nat} {p y:Addr} {ps:List Sh} (a:TrB C w t H t1 H1 s d p) (hg:w.reg p=some (.row ps)) (hc:w.D y=some (p,i+1)) (hi:t1.ms p i=s) (hs:s<60) (hj:∀ j,i<j→j≤ps.length→t1.ms p j=s+1):TrB C w t H (t1.setm p i (s+1)) (upd H1 y (.lst (YR (Y9 w.bk (ps.drop i)) (s+1)))) s d p:=by
 have W:=a.wi.way hg hc (by omega) (fun j h1 h2=>by rw [hi];exact hj j h1 h2)
 rw [hi] at W
 refine ⟨W,fun b o e h=>?_,fun q sh hq n=>?_,a.own,a.u1,a.u2⟩
 ·rw [Yd fun z=>by rw [z,hc] at e;cases e]
  exact a.fr b o e h
 ·have g:=a.gr q sh hq n
  have e:(t1.setm p i (s+1)).ms q=t1.ms q:=by
   funext j
   exact if_neg fun z=>n z.1
  exact ⟨g.up,g.le,fun h=>by rw [e];exact g.no h,fun h j=>by rw [e];exact g.un h j,g.nr⟩
theorem TrB.to {C:Cs} {w:Wo} {t t1:Sw} {H H1:Hp} {s d:Nat} {p:Addr} {sh:Sh} (a:TrB C w t H t1 H1 s d p) (hg:w.reg p=some sh) (hd:dep sh<d) (hn:t.ns p≤s) (hu:Uni t1 p):Tr C w t H t1 H1 s d:=by
 refine ⟨a.wi,a.fr,fun q sh' hq=>?_,a.u1,a.u2⟩
 by_cases e:q=p
 ·subst e
  rw [hg] at hq
  have:=Option.some.inj hq
  subst this
  have eb:bnd s d sh=s+1:=if_pos hd
  rw [eb]
  have:=a.own
  exact ⟨by omega,by omega,fun z=>by omega,fun _=>hu,fun z=>by omega⟩
 ·exact a.gr q sh' hq e
def kind:Sh→Nat
 | .w _ _=>0
 | .t _=>1
 | .row _=>2
 | .pick _ _=>3
 | .many _=>4
 | .use _=>5
 | .alike _ _=>6
 | .cho _ _=>7
def isF (m:Str):Bool:=(m==("counts":Str))||(m==("low":Str))||(m==("span":Str))||(m==("signs":Str))||(m==("parts":Str))||(m==("table":Str))||(m==("ways":Str))||(m==("marks":Str))||(m==("part":Str))||(m==("named":Str))||(m==("times":Str))||(m==("unlike":Str))||(m==("rows":Str))
theorem QH {m:Str} (h:isF m=false):(m==("counts":Str))=false∧(m==("low":Str))=false∧(m==("span":Str))=false∧(m==("signs":Str))=false∧(m==("parts":Str))=false∧(m==("table":Str))=false∧(m==("ways":Str))=false∧(m==("marks":Str))=false∧(m==("part":Str))=false∧(m==("named":Str))=false∧(m==("times":Str))=false∧(m==("unlike":Str))=false∧(m==("rows":Str))=false:=by
 unfold isF at h
 simp only [Bool.or_eq_false_iff] at h
 obtain ⟨⟨⟨⟨⟨⟨⟨⟨⟨⟨⟨⟨a,b⟩,c⟩,d⟩,e⟩,f⟩,g⟩,i⟩,j⟩,k⟩,l⟩,n⟩,o⟩:=h
 exact ⟨a,b,c,d,e,f,g,i,j,k,l,n,o⟩
theorem Yp (c:Addr) (fs:List (Str×V)):(mf c fs).lookup ("counts":Str)=some (.ref c):=rfl
theorem Xy {C:Cs} {w:Wo} {t:Sw} {H:Hp} {p c:Addr} {m:Str} (hm:isF m=false):∀ {sh:Sh} {fs:List (Str×V)},Sub C w t H p sh fs→(mf c fs).lookup m=none:=by
 obtain ⟨a1,a2,a3,a4,a5,a6,a7,a8,a9,a10,a11,a12,a13⟩:=QH hm
 intro sh fs h
 unfold mf
 rw [List.lookup_cons,a1]
 cases sh with
 | w lo span =>
  have h:fs=_:=h
  subst h
  unfold fW
  rw [List.lookup_cons,a2,List.lookup_cons,a3];rfl
 | t sg =>
  obtain ⟨rfl,_⟩:=h
  unfold fT
  rw [List.lookup_cons,a4];rfl
 | row ps =>
  obtain ⟨P,T,dt,L,as,ws,rfl,_⟩:=h
  unfold fR
  rw [List.lookup_cons,a5,List.lookup_cons,a6];rfl
 | pick mk ps =>
  obtain ⟨M,P,as,rfl,_⟩:=h
  unfold fP
  rw [List.lookup_cons,a8,List.lookup_cons,a5];rfl
 | many q =>
  obtain ⟨a,rfl,_⟩:=h
  unfold fM
  rw [List.lookup_cons,a9];rfl
 | alike q n =>
  obtain ⟨a,rfl,_⟩:=h
  unfold fA
  rw [List.lookup_cons,a9,List.lookup_cons,a11];rfl
 | cho un q =>
  obtain ⟨a,T,dt,R,rs,rfl,_⟩:=h
  unfold fC
  rw [List.lookup_cons,a9,List.lookup_cons,a6];rfl
 | use x =>
  obtain ⟨a,rfl,_⟩:=h
  unfold fU
  rw [List.lookup_cons,a10];rfl
def fu (_:Wo) (s d:Nat):Nat:=6*(s+d)
theorem WF {w:Wo} {s d s' d':Nat} (_:d'≤w.M) (h:(s'≤s∧d'<d)∨(s'<s∧d'≤d)):fu w s' d'+6≤fu w s d:=by
 unfold fu
 omega
def Zs (C:Cs) (k l:Nat):Sp:=fun vs H Q _=>∃ (w:Wo) (t:Sw) (p:Addr) (sh:Sh) (s:Nat),vs=[.ref p,.int s]∧kind sh=k∧WI C w t H∧w.reg p=some sh∧1≤l∧s≤40∧(s<t.ns p→Q (.int (cnt w.bk sh s)) H) ∧
 (t.ns p≤s→fu w s (dep sh)+5≤l∧YZ w t s (dep sh+1)∧∀ t' H',Tr C w t H t' H' s (dep sh+1)→t'.ns p=s+1→Q (.int (cnt w.bk sh s)) H')
def YM (C:Cs) (k l:Nat):Sp:=fun vs H Q _=>∃ (w:Wo) (t:Sw) (p:Addr) (sh:Sh) (s:Nat),vs=[.ref p,.int s]∧kind sh=k∧WI C w t H∧w.reg p=some sh∧t.ns p=s∧s≤40∧fu w s (dep sh)+4≤l∧YZ w t s (dep sh+1) ∧
 ∀ t' H',Tr C w t H t' H' s (dep sh+1)→t'.ns p=s→(∀ ps,sh = .row ps→∀ i,s+1≤t'.ms p i)→Q (.int (cnt w.bk sh s)) H'
theorem ZJ {C:Cs} {k:Nat} {vs:List V} {H:Hp} {Q:VK} {E:XK} (h:Zs C k 0 vs H Q E):False:=by
 obtain ⟨w,t,p,sh,s,_,_,_,_,h,_⟩:=h
 omega
theorem X9 {C:Cs} {k:Nat} {vs:List V} {H:Hp} {Q:VK} {E:XK} (h:YM C k 0 vs H Q E):False:=by
 obtain ⟨w,t,p,sh,s,_,_,_,_,_,_,h,_⟩:=h
 omega
theorem Tr.own {C:Cs} {w:Wo} {t t':Sw} {H H':Hp} {s d:Nat} (T:Tr C w t H t' H' s d) {p:Addr} {sh:Sh} (hr:w.reg p=some sh) (hd:d≤dep sh) (hs:s≤t.ns p):t'.ns p=t.ns p∧t'.ms p=t.ms p:=by
 have g:=T.gr p sh hr
 have e:bnd s d sh=s:=if_neg (by omega)
 rw [e] at g
 have h1:=g.up
 have h2:=g.le
 exact ⟨by omega,g.no hs⟩
theorem Tr.ownr {C:Cs} {w:Wo} {t t':Sw} {H H':Hp} {s d:Nat} (T:Tr C w t H t' H' s d) {p:Addr} {sh:Sh} (hr:w.reg p=some sh) (hd:d≤dep sh) (hs:s≤t.ns p):t'.rs p=t.rs p:=by
 have g:=T.gr p sh hr
 have e:bnd s d sh=s:=if_neg (by omega)
 rw [e] at g
 exact g.nr hs
theorem Tr.count {C:Cs} {w:Wo} {t t':Sw} {H H':Hp} {s j:Nat} {sh:Sh} {p c:Addr} (T:Tr C w t H t' H' s (dep sh+1)) (hr:w.reg p=some sh) (hc:w.D c=some (p,0)) (hj:t'.ns p=j) (hjs:j≤s) (hs:s≤40) (hful:∀ ps,sh = .row ps→∀ i,j+1≤t'.ms p i):Tr C w t H (t'.setn p (j+1)) (upd H' c (.lst (YR (cnt w.bk sh) (j+1)))) s (dep sh+1):=by
 subst hj
 refine ⟨T.wi.count hr hc (by omega) hful,fun b o e h=>?_,fun q sh' hq=>?_,T.u1,T.u2⟩
 ·rw [Yd fun z=>by rw [z,hc] at e;cases e]
  exact T.fr b o e h
 ·have g:=T.gr q sh' hq
  by_cases e:q=p
  ·subst e
   rw [hr] at hq
   have:=Option.some.inj hq
   subst this
   have eb:bnd s (dep sh+1) sh=s+1:=if_pos (by omega)
   rw [eb] at g ⊢
   have h1:=g.up
   have en:(t'.setn q (t'.ns q+1)).ns q=t'.ns q+1:=if_pos rfl
   exact ⟨by rw [en];omega,by rw [en];omega,fun h=>by omega,g.un,fun h=>by omega⟩
  ·have en:(t'.setn p (t'.ns p+1)).ns q=t'.ns q:=if_neg e
   exact ⟨by rw [en];exact g.up,by rw [en];exact g.le,g.no,g.un,g.nr⟩
variable {m:Nat}
theorem Wm {w:Wo} {s d s':Nat} (h:s'≤s):fu w s' d≤fu w s d:=by
 unfold fu
 omega
theorem Z1P {k:Nat} {Z3 Z0 Z1 Za Z5 Z4 Z7 Z9 Z6 Z8 Z2:Addr} (R:g.RawM Z2 "count_at" "Maker.count_at" Z11 ["self","size"]) (Z3R:g.Me k Z2 "reckoned" ["self","size"] (YM (Cs.mk Z2 Z6 Z7 Z9 Z5 Z4 Z8 Z3 Z0 Z1) 0 m)) (b_len:g.mg "len"=none) (Zr:Cls g.K Z2) (Zd:Yb g.K Z2 "counts") (ZE:Yb g.K Z2 "low") (Zx:Yb g.K Z2 "span"):g.Me (k+1) Z2 "count_at" ["self","size"] (Zs (Cs.mk Z2 Z6 Z7 Z9 Z5 Z4 Z8 Z3 Z0 Z1) 0 (m+1)):=by
 refine R.me Z3u (fun vs H Q E h=>by obtain ⟨w,t,p,sh,sz,rfl,hk,W,hg,hl,hs,q1,q2⟩:=h;rfl) fun f_ cdv A outer s H vs Q E hr h=>?_
 obtain ⟨w,t,p,sh,sz,rfl,hk,W,hg,hl,hs,q1,q2⟩:=h
 refine ⟨_,(@Yh _ _ _ _ _ (@XA _ _ _ _ _ _ PassesOwn.never (@Yt _ _ _ _ _ _ _ _ Wx (@YT _ _ _ _ _ _ _ _ _ _ b_len Yu (@Ya _ _ _ _ _ (@Yl _ _ _ _ _ (@pv _ 0 _ _ (by rfl) (by first | exact .inl rfl | exact .inr (.inl rfl) | exact .inr (.inr rfl)) (by decide) (by decide)) rfl) Yc (by rfl)) (by decide +kernel) (by rfl) (by rfl) (by decide) (by decide) (by rfl) (by rfl)) (@pv _ 1 _ _ (by rfl) (by first | exact .inl rfl | exact .inr (.inl rfl) | exact .inr (.inr rfl)) (by decide) (by decide)) (Yw _)) (@Yg _ _ _ (@YS _ _ _ _ (@XN _ _ _ _ _ _ _ _ _ _ _ _ PySem.F.plainAttrs_list PySem.F.slot_list_append PySem.F.type_list_append Y5 (@Yl _ _ _ _ _ (@pv _ 0 _ _ (by rfl) (by first | exact .inl rfl | exact .inr (.inl rfl) | exact .inr (.inr rfl)) (by decide) (by decide)) rfl) (@Ya _ _ _ _ _ (@Yn _ _ _ _ _ _ _ _ _ _ _ _ _ _ _ _ Z3R Zr hr (@pv _ 0 _ _ (by rfl) (by first | exact .inl rfl | exact .inr (.inl rfl) | exact .inr (.inr rfl)) (by decide) (by decide)) (@Ya _ _ _ _ _ (@YT _ _ _ _ _ _ _ _ _ _ b_len Yu (@Ya _ _ _ _ _ (@Yl _ _ _ _ _ (@pv _ 0 _ _ (by rfl) (by first | exact .inl rfl | exact .inr (.inl rfl) | exact .inr (.inr rfl)) (by decide) (by decide)) rfl) Yc (by rfl)) (by decide +kernel) (by rfl) (by rfl) (by decide) (by decide) (by rfl) (by rfl)) Yc (by rfl)) (by omega) (by rfl) (by rfl) (by rfl) (by rfl)) Yc (by rfl)) (by rfl) (by rfl) (by rfl) (by rfl) (by rfl)) (by rfl)))) (@Yg _ _ _ (@Yo _ _ _ _ (@YE _ _ _ _ _ _ _ YJ (@Yl _ _ _ _ _ (@pv _ 0 _ _ (by rfl) (by first | exact .inl rfl | exact .inr (.inl rfl) | exact .inr (.inr rfl)) (by decide) (by decide)) rfl) (@pv _ 1 _ _ (by rfl) (by first | exact .inl rfl | exact .inr (.inl rfl) | exact .inr (.inr rfl)) (by decide) (by decide)) (fun _ _=>rfl))))),?_⟩
 walk_at "rd"
 have hC:WN (Cs.mk Z2 Z6 Z7 Z9 Z5 Z4 Z8 Z3 Z0 Z1) sh=Z2:=by cases sh<;>first | rfl | (simp [kind] at hk)
 by_cases cs:sz<t.ns p
 ·obtain ⟨dx,c,fs,hU,hd,hsm,hns,hp,hDc,hc,hsub⟩:=W.at_ p sh hg
  rw [hC] at hp
  refine YV (α:=Unit) (fun x σ H'=>σ=[some (.ref p),some (.int sz)]∧H=H') (fun x=>false) (fun x=>0) () ⟨rfl,rfl⟩ ?_ ?_ ?_
  ·rintro x σ H' ⟨rfl,rfl⟩ R r
   walk_at "rd"
   refine ⟨_,_,_,hp,Zr,Zd,_,Yp _ _,_,rfl,_,.inl (SqL.of hc),?_⟩
   rw [Yr,dle,decide_eq_false (by omega)]
   exact r H ⟨rfl,rfl⟩
  ·rintro x σ H' ⟨rfl,rfl⟩ hd
   cases hd
  ·rintro x σ H' ⟨rfl,rfl⟩ hd
   walk_at "rd"
   exact ⟨_,_,_,hp,Zr,Zd,_,Yp _ _,_,rfl,_,SqL.of hc,_,YY _ cs,q1 cs⟩
 ·obtain ⟨hfu,hRd,q⟩:=q2 (by omega)
  refine YV (α:=Sw) (fun x σ H'=>σ=[some (.ref p),some (.int sz)]∧Tr (Cs.mk Z2 Z6 Z7 Z9 Z5 Z4 Z8 Z3 Z0 Z1) w t H x H' sz (dep sh+1)∧x.ns p≤sz+1) (fun x=>decide (x.ns p≤sz)) (fun x=>sz+1 - x.ns p) t ⟨rfl,.refl W _ _,by omega⟩ ?_ ?_ ?_
  ·rintro x σ H' ⟨rfl,T,hx⟩ R r
   obtain ⟨dx,c,fs,hU,hd,hsm,hns,hp,hDc,hc,hsub⟩:=T.wi.at_ p sh hg
   rw [hC] at hp
   walk_at "rd"
   refine ⟨_,_,_,hp,Zr,Zd,_,Yp _ _,_,rfl,_,.inl (SqL.of hc),?_⟩
   rw [Yr,dle]
   exact r H' ⟨rfl,T,hx⟩
  ·rintro x σ H' ⟨rfl,T,hx⟩ hd
   have hd:x.ns p≤sz:=of_decide_eq_true hd
   obtain ⟨dx,c,fs,hU,hd',hsm,hns,hp,hDc,hc,hsub⟩:=T.wi.at_ p sh hg
   rw [hC] at hp
   walk_at "rd"
   refine ⟨_,_,_,hp,Zr,Zd,_,Yp _ _,.inl ⟨rfl,_,SqL.of hc⟩,_,_,hp,Xy (by decide +kernel) hsub,_,_,_,hp,Zr,Zd,_,Yp _ _,_,rfl,_,.inl (SqL.of hc),?_⟩
   rw [Yr]
   have hfl:=Wm (w:=w) (d:=dep sh) hd
   have hrd:YZ w x (x.ns p) (dep sh+1):=(T.ready hRd).mono (by omega)
   refine ⟨w,x,p,sh,x.ns p,rfl,hk,T.wi,hg,rfl,by omega,by omega,hrd,fun t2 H2 T2 e2 hful=>?_⟩
   have T3:=T.trans (T2.mono (by omega))
   obtain ⟨dx2,c2,fs2,hU2,hd2,hsm2,hns2,hp2,hDc2,hc2,hsub2⟩:=T2.wi.at_ p sh hg
   have ec:=T2.wi.inj _ _ _ hDc2 hDc
   subst ec
   rw [e2] at hc2
   have T4:=T3.count hg hDc2 e2 hd hs hful
   refine ⟨_,rfl,_,hc2,by rw [Yr];exact few (by omega),t2.setn p (x.ns p+1),?_,?_,?_⟩
   ·rw [← Y2];exact T4
   ·show (if p=p then _ else _)≤_
    rw [if_pos rfl];omega
   ·show sz+1 - (if p=p then _ else _)<_
    rw [if_pos rfl];omega
  ·rintro x σ H' ⟨rfl,T,hx⟩ hd
   have hd:¬ x.ns p≤sz:=of_decide_eq_false hd
   obtain ⟨dx,c,fs,hU,hd',hsm,hns,hp,hDc,hc,hsub⟩:=T.wi.at_ p sh hg
   rw [hC] at hp
   walk_at "rd"
   exact ⟨_,_,_,hp,Zr,Zd,_,Yp _ _,_,rfl,_,SqL.of hc,_,YY _ (by omega),q x H' T (by omega)⟩
theorem Z2a {k:Nat} {Z3 Z0 Z1 Za Z5 Z4 Z7 Z9 Z6 Z8 Z2:Addr} (R:g.RawM Z6 "count_at" "Maker.count_at" Z1f ["self","size"]) (Z4l:g.Me k Z6 "reckoned" ["self","size"] (YM (Cs.mk Z2 Z6 Z7 Z9 Z5 Z4 Z8 Z3 Z0 Z1) 1 m)) (b_len:g.mg "len"=none) (Zw:Cls g.K Z6) (Zg:Yb g.K Z6 "counts") (Zy:Yb g.K Z6 "signs"):g.Me (k+1) Z6 "count_at" ["self","size"] (Zs (Cs.mk Z2 Z6 Z7 Z9 Z5 Z4 Z8 Z3 Z0 Z1) 1 (m+1)):=by
 refine R.me Z3O (fun vs H Q E h=>by obtain ⟨w,t,p,sh,sz,rfl,hk,W,hg,hl,hs,q1,q2⟩:=h;rfl) fun f_ cdv A outer s H vs Q E hr h=>?_
 obtain ⟨w,t,p,sh,sz,rfl,hk,W,hg,hl,hs,q1,q2⟩:=h
 refine ⟨_,(@Yh _ _ _ _ _ (@XA _ _ _ _ _ _ PassesOwn.never (@Yt _ _ _ _ _ _ _ _ Wx (@YT _ _ _ _ _ _ _ _ _ _ b_len Yu (@Ya _ _ _ _ _ (@Yl _ _ _ _ _ (@pv _ 0 _ _ (by rfl) (by first | exact .inl rfl | exact .inr (.inl rfl) | exact .inr (.inr rfl)) (by decide) (by decide)) rfl) Yc (by rfl)) (by decide +kernel) (by rfl) (by rfl) (by decide) (by decide) (by rfl) (by rfl)) (@pv _ 1 _ _ (by rfl) (by first | exact .inl rfl | exact .inr (.inl rfl) | exact .inr (.inr rfl)) (by decide) (by decide)) (Yw _)) (@Yg _ _ _ (@YS _ _ _ _ (@XN _ _ _ _ _ _ _ _ _ _ _ _ PySem.F.plainAttrs_list PySem.F.slot_list_append PySem.F.type_list_append Y5 (@Yl _ _ _ _ _ (@pv _ 0 _ _ (by rfl) (by first | exact .inl rfl | exact .inr (.inl rfl) | exact .inr (.inr rfl)) (by decide) (by decide)) rfl) (@Ya _ _ _ _ _ (@Yn _ _ _ _ _ _ _ _ _ _ _ _ _ _ _ _ Z4l Zw hr (@pv _ 0 _ _ (by rfl) (by first | exact .inl rfl | exact .inr (.inl rfl) | exact .inr (.inr rfl)) (by decide) (by decide)) (@Ya _ _ _ _ _ (@YT _ _ _ _ _ _ _ _ _ _ b_len Yu (@Ya _ _ _ _ _ (@Yl _ _ _ _ _ (@pv _ 0 _ _ (by rfl) (by first | exact .inl rfl | exact .inr (.inl rfl) | exact .inr (.inr rfl)) (by decide) (by decide)) rfl) Yc (by rfl)) (by decide +kernel) (by rfl) (by rfl) (by decide) (by decide) (by rfl) (by rfl)) Yc (by rfl)) (by omega) (by rfl) (by rfl) (by rfl) (by rfl)) Yc (by rfl)) (by rfl) (by rfl) (by rfl) (by rfl) (by rfl)) (by rfl)))) (@Yg _ _ _ (@Yo _ _ _ _ (@YE _ _ _ _ _ _ _ YJ (@Yl _ _ _ _ _ (@pv _ 0 _ _ (by rfl) (by first | exact .inl rfl | exact .inr (.inl rfl) | exact .inr (.inr rfl)) (by decide) (by decide)) rfl) (@pv _ 1 _ _ (by rfl) (by first | exact .inl rfl | exact .inr (.inl rfl) | exact .inr (.inr rfl)) (by decide) (by decide)) (fun _ _=>rfl))))),?_⟩
 walk_at "rd"
 have hC:WN (Cs.mk Z2 Z6 Z7 Z9 Z5 Z4 Z8 Z3 Z0 Z1) sh=Z6:=by cases sh<;>first | rfl | (simp [kind] at hk)
 by_cases cs:sz<t.ns p
 ·obtain ⟨dx,c,fs,hU,hd,hsm,hns,hp,hDc,hc,hsub⟩:=W.at_ p sh hg
  rw [hC] at hp
  refine YV (α:=Unit) (fun x σ H'=>σ=[some (.ref p),some (.int sz)]∧H=H') (fun x=>false) (fun x=>0) () ⟨rfl,rfl⟩ ?_ ?_ ?_
  ·rintro x σ H' ⟨rfl,rfl⟩ R r
   walk_at "rd"
   refine ⟨_,_,_,hp,Zw,Zg,_,Yp _ _,_,rfl,_,.inl (SqL.of hc),?_⟩
   rw [Yr,dle,decide_eq_false (by omega)]
   exact r H ⟨rfl,rfl⟩
  ·rintro x σ H' ⟨rfl,rfl⟩ hd
   cases hd
  ·rintro x σ H' ⟨rfl,rfl⟩ hd
   walk_at "rd"
   exact ⟨_,_,_,hp,Zw,Zg,_,Yp _ _,_,rfl,_,SqL.of hc,_,YY _ cs,q1 cs⟩
 ·obtain ⟨hfu,hRd,q⟩:=q2 (by omega)
  refine YV (α:=Sw) (fun x σ H'=>σ=[some (.ref p),some (.int sz)]∧Tr (Cs.mk Z2 Z6 Z7 Z9 Z5 Z4 Z8 Z3 Z0 Z1) w t H x H' sz (dep sh+1)∧x.ns p≤sz+1) (fun x=>decide (x.ns p≤sz)) (fun x=>sz+1 - x.ns p) t ⟨rfl,.refl W _ _,by omega⟩ ?_ ?_ ?_
  ·rintro x σ H' ⟨rfl,T,hx⟩ R r
   obtain ⟨dx,c,fs,hU,hd,hsm,hns,hp,hDc,hc,hsub⟩:=T.wi.at_ p sh hg
   rw [hC] at hp
   walk_at "rd"
   refine ⟨_,_,_,hp,Zw,Zg,_,Yp _ _,_,rfl,_,.inl (SqL.of hc),?_⟩
   rw [Yr,dle]
   exact r H' ⟨rfl,T,hx⟩
  ·rintro x σ H' ⟨rfl,T,hx⟩ hd
   have hd:x.ns p≤sz:=of_decide_eq_true hd
   obtain ⟨dx,c,fs,hU,hd',hsm,hns,hp,hDc,hc,hsub⟩:=T.wi.at_ p sh hg
   rw [hC] at hp
   walk_at "rd"
   refine ⟨_,_,_,hp,Zw,Zg,_,Yp _ _,.inl ⟨rfl,_,SqL.of hc⟩,_,_,hp,Xy (by decide +kernel) hsub,_,_,_,hp,Zw,Zg,_,Yp _ _,_,rfl,_,.inl (SqL.of hc),?_⟩
   rw [Yr]
   have hfl:=Wm (w:=w) (d:=dep sh) hd
   have hrd:YZ w x (x.ns p) (dep sh+1):=(T.ready hRd).mono (by omega)
   refine ⟨w,x,p,sh,x.ns p,rfl,hk,T.wi,hg,rfl,by omega,by omega,hrd,fun t2 H2 T2 e2 hful=>?_⟩
   have T3:=T.trans (T2.mono (by omega))
   obtain ⟨dx2,c2,fs2,hU2,hd2,hsm2,hns2,hp2,hDc2,hc2,hsub2⟩:=T2.wi.at_ p sh hg
   have ec:=T2.wi.inj _ _ _ hDc2 hDc
   subst ec
   rw [e2] at hc2
   have T4:=T3.count hg hDc2 e2 hd hs hful
   refine ⟨_,rfl,_,hc2,by rw [Yr];exact few (by omega),t2.setn p (x.ns p+1),?_,?_,?_⟩
   ·rw [← Y2];exact T4
   ·show (if p=p then _ else _)≤_
    rw [if_pos rfl];omega
   ·show sz+1 - (if p=p then _ else _)<_
    rw [if_pos rfl];omega
  ·rintro x σ H' ⟨rfl,T,hx⟩ hd
   have hd:¬ x.ns p≤sz:=of_decide_eq_false hd
   obtain ⟨dx,c,fs,hU,hd',hsm,hns,hp,hDc,hc,hsub⟩:=T.wi.at_ p sh hg
   rw [hC] at hp
   walk_at "rd"
   exact ⟨_,_,_,hp,Zw,Zg,_,Yp _ _,_,rfl,_,SqL.of hc,_,YY _ (by omega),q x H' T (by omega)⟩
theorem Z2o {k:Nat} {Z3 Z0 Z1 Za Z5 Z4 Z7 Z9 Z6 Z8 Z2:Addr} (R:g.RawM Z7 "count_at" "Maker.count_at" Z1t ["self","size"]) (Z4K:g.Me k Z7 "reckoned" ["self","size"] (YM (Cs.mk Z2 Z6 Z7 Z9 Z5 Z4 Z8 Z3 Z0 Z1) 2 m)) (b_len:g.mg "len"=none) (ZD:Cls g.K Z7) (Zo:Yb g.K Z7 "counts") (ZF:Yb g.K Z7 "parts") (ZC:Yb g.K Z7 "table"):g.Me (k+1) Z7 "count_at" ["self","size"] (Zs (Cs.mk Z2 Z6 Z7 Z9 Z5 Z4 Z8 Z3 Z0 Z1) 2 (m+1)):=by
 refine R.me Z4j (fun vs H Q E h=>by obtain ⟨w,t,p,sh,sz,rfl,hk,W,hg,hl,hs,q1,q2⟩:=h;rfl) fun f_ cdv A outer s H vs Q E hr h=>?_
 obtain ⟨w,t,p,sh,sz,rfl,hk,W,hg,hl,hs,q1,q2⟩:=h
 refine ⟨_,(@Yh _ _ _ _ _ (@XA _ _ _ _ _ _ PassesOwn.never (@Yt _ _ _ _ _ _ _ _ Wx (@YT _ _ _ _ _ _ _ _ _ _ b_len Yu (@Ya _ _ _ _ _ (@Yl _ _ _ _ _ (@pv _ 0 _ _ (by rfl) (by first | exact .inl rfl | exact .inr (.inl rfl) | exact .inr (.inr rfl)) (by decide) (by decide)) rfl) Yc (by rfl)) (by decide +kernel) (by rfl) (by rfl) (by decide) (by decide) (by rfl) (by rfl)) (@pv _ 1 _ _ (by rfl) (by first | exact .inl rfl | exact .inr (.inl rfl) | exact .inr (.inr rfl)) (by decide) (by decide)) (Yw _)) (@Yg _ _ _ (@YS _ _ _ _ (@XN _ _ _ _ _ _ _ _ _ _ _ _ PySem.F.plainAttrs_list PySem.F.slot_list_append PySem.F.type_list_append Y5 (@Yl _ _ _ _ _ (@pv _ 0 _ _ (by rfl) (by first | exact .inl rfl | exact .inr (.inl rfl) | exact .inr (.inr rfl)) (by decide) (by decide)) rfl) (@Ya _ _ _ _ _ (@Yn _ _ _ _ _ _ _ _ _ _ _ _ _ _ _ _ Z4K ZD hr (@pv _ 0 _ _ (by rfl) (by first | exact .inl rfl | exact .inr (.inl rfl) | exact .inr (.inr rfl)) (by decide) (by decide)) (@Ya _ _ _ _ _ (@YT _ _ _ _ _ _ _ _ _ _ b_len Yu (@Ya _ _ _ _ _ (@Yl _ _ _ _ _ (@pv _ 0 _ _ (by rfl) (by first | exact .inl rfl | exact .inr (.inl rfl) | exact .inr (.inr rfl)) (by decide) (by decide)) rfl) Yc (by rfl)) (by decide +kernel) (by rfl) (by rfl) (by decide) (by decide) (by rfl) (by rfl)) Yc (by rfl)) (by omega) (by rfl) (by rfl) (by rfl) (by rfl)) Yc (by rfl)) (by rfl) (by rfl) (by rfl) (by rfl) (by rfl)) (by rfl)))) (@Yg _ _ _ (@Yo _ _ _ _ (@YE _ _ _ _ _ _ _ YJ (@Yl _ _ _ _ _ (@pv _ 0 _ _ (by rfl) (by first | exact .inl rfl | exact .inr (.inl rfl) | exact .inr (.inr rfl)) (by decide) (by decide)) rfl) (@pv _ 1 _ _ (by rfl) (by first | exact .inl rfl | exact .inr (.inl rfl) | exact .inr (.inr rfl)) (by decide) (by decide)) (fun _ _=>rfl))))),?_⟩
 walk_at "rd"
 have hC:WN (Cs.mk Z2 Z6 Z7 Z9 Z5 Z4 Z8 Z3 Z0 Z1) sh=Z7:=by cases sh<;>first | rfl | (simp [kind] at hk)
 by_cases cs:sz<t.ns p
 ·obtain ⟨dx,c,fs,hU,hd,hsm,hns,hp,hDc,hc,hsub⟩:=W.at_ p sh hg
  rw [hC] at hp
  refine YV (α:=Unit) (fun x σ H'=>σ=[some (.ref p),some (.int sz)]∧H=H') (fun x=>false) (fun x=>0) () ⟨rfl,rfl⟩ ?_ ?_ ?_
  ·rintro x σ H' ⟨rfl,rfl⟩ R r
   walk_at "rd"
   refine ⟨_,_,_,hp,ZD,Zo,_,Yp _ _,_,rfl,_,.inl (SqL.of hc),?_⟩
   rw [Yr,dle,decide_eq_false (by omega)]
   exact r H ⟨rfl,rfl⟩
  ·rintro x σ H' ⟨rfl,rfl⟩ hd
   cases hd
  ·rintro x σ H' ⟨rfl,rfl⟩ hd
   walk_at "rd"
   exact ⟨_,_,_,hp,ZD,Zo,_,Yp _ _,_,rfl,_,SqL.of hc,_,YY _ cs,q1 cs⟩
 ·obtain ⟨hfu,hRd,q⟩:=q2 (by omega)
  refine YV (α:=Sw) (fun x σ H'=>σ=[some (.ref p),some (.int sz)]∧Tr (Cs.mk Z2 Z6 Z7 Z9 Z5 Z4 Z8 Z3 Z0 Z1) w t H x H' sz (dep sh+1)∧x.ns p≤sz+1) (fun x=>decide (x.ns p≤sz)) (fun x=>sz+1 - x.ns p) t ⟨rfl,.refl W _ _,by omega⟩ ?_ ?_ ?_
  ·rintro x σ H' ⟨rfl,T,hx⟩ R r
   obtain ⟨dx,c,fs,hU,hd,hsm,hns,hp,hDc,hc,hsub⟩:=T.wi.at_ p sh hg
   rw [hC] at hp
   walk_at "rd"
   refine ⟨_,_,_,hp,ZD,Zo,_,Yp _ _,_,rfl,_,.inl (SqL.of hc),?_⟩
   rw [Yr,dle]
   exact r H' ⟨rfl,T,hx⟩
  ·rintro x σ H' ⟨rfl,T,hx⟩ hd
   have hd:x.ns p≤sz:=of_decide_eq_true hd
   obtain ⟨dx,c,fs,hU,hd',hsm,hns,hp,hDc,hc,hsub⟩:=T.wi.at_ p sh hg
   rw [hC] at hp
   walk_at "rd"
   refine ⟨_,_,_,hp,ZD,Zo,_,Yp _ _,.inl ⟨rfl,_,SqL.of hc⟩,_,_,hp,Xy (by decide +kernel) hsub,_,_,_,hp,ZD,Zo,_,Yp _ _,_,rfl,_,.inl (SqL.of hc),?_⟩
   rw [Yr]
   have hfl:=Wm (w:=w) (d:=dep sh) hd
   have hrd:YZ w x (x.ns p) (dep sh+1):=(T.ready hRd).mono (by omega)
   refine ⟨w,x,p,sh,x.ns p,rfl,hk,T.wi,hg,rfl,by omega,by omega,hrd,fun t2 H2 T2 e2 hful=>?_⟩
   have T3:=T.trans (T2.mono (by omega))
   obtain ⟨dx2,c2,fs2,hU2,hd2,hsm2,hns2,hp2,hDc2,hc2,hsub2⟩:=T2.wi.at_ p sh hg
   have ec:=T2.wi.inj _ _ _ hDc2 hDc
   subst ec
   rw [e2] at hc2
   have T4:=T3.count hg hDc2 e2 hd hs hful
   refine ⟨_,rfl,_,hc2,by rw [Yr];exact few (by omega),t2.setn p (x.ns p+1),?_,?_,?_⟩
   ·rw [← Y2];exact T4
   ·show (if p=p then _ else _)≤_
    rw [if_pos rfl];omega
   ·show sz+1 - (if p=p then _ else _)<_
    rw [if_pos rfl];omega
  ·rintro x σ H' ⟨rfl,T,hx⟩ hd
   have hd:¬ x.ns p≤sz:=of_decide_eq_false hd
   obtain ⟨dx,c,fs,hU,hd',hsm,hns,hp,hDc,hc,hsub⟩:=T.wi.at_ p sh hg
   rw [hC] at hp
   walk_at "rd"
   exact ⟨_,_,_,hp,ZD,Zo,_,Yp _ _,_,rfl,_,SqL.of hc,_,YY _ (by omega),q x H' T (by omega)⟩
theorem Z2b {k:Nat} {Z3 Z0 Z1 Za Z5 Z4 Z7 Z9 Z6 Z8 Z2:Addr} (R:g.RawM Z4 "count_at" "Maker.count_at" Z1h ["self","size"]) (Z4m:g.Me k Z4 "reckoned" ["self","size"] (YM (Cs.mk Z2 Z6 Z7 Z9 Z5 Z4 Z8 Z3 Z0 Z1) 3 m)) (b_len:g.mg "len"=none) (Zu:Cls g.K Z4) (Zh:Yb g.K Z4 "counts") (ZA:Yb g.K Z4 "marks") (Zz:Yb g.K Z4 "parts"):g.Me (k+1) Z4 "count_at" ["self","size"] (Zs (Cs.mk Z2 Z6 Z7 Z9 Z5 Z4 Z8 Z3 Z0 Z1) 3 (m+1)):=by
 refine R.me Z3Q (fun vs H Q E h=>by obtain ⟨w,t,p,sh,sz,rfl,hk,W,hg,hl,hs,q1,q2⟩:=h;rfl) fun f_ cdv A outer s H vs Q E hr h=>?_
 obtain ⟨w,t,p,sh,sz,rfl,hk,W,hg,hl,hs,q1,q2⟩:=h
 refine ⟨_,(@Yh _ _ _ _ _ (@XA _ _ _ _ _ _ PassesOwn.never (@Yt _ _ _ _ _ _ _ _ Wx (@YT _ _ _ _ _ _ _ _ _ _ b_len Yu (@Ya _ _ _ _ _ (@Yl _ _ _ _ _ (@pv _ 0 _ _ (by rfl) (by first | exact .inl rfl | exact .inr (.inl rfl) | exact .inr (.inr rfl)) (by decide) (by decide)) rfl) Yc (by rfl)) (by decide +kernel) (by rfl) (by rfl) (by decide) (by decide) (by rfl) (by rfl)) (@pv _ 1 _ _ (by rfl) (by first | exact .inl rfl | exact .inr (.inl rfl) | exact .inr (.inr rfl)) (by decide) (by decide)) (Yw _)) (@Yg _ _ _ (@YS _ _ _ _ (@XN _ _ _ _ _ _ _ _ _ _ _ _ PySem.F.plainAttrs_list PySem.F.slot_list_append PySem.F.type_list_append Y5 (@Yl _ _ _ _ _ (@pv _ 0 _ _ (by rfl) (by first | exact .inl rfl | exact .inr (.inl rfl) | exact .inr (.inr rfl)) (by decide) (by decide)) rfl) (@Ya _ _ _ _ _ (@Yn _ _ _ _ _ _ _ _ _ _ _ _ _ _ _ _ Z4m Zu hr (@pv _ 0 _ _ (by rfl) (by first | exact .inl rfl | exact .inr (.inl rfl) | exact .inr (.inr rfl)) (by decide) (by decide)) (@Ya _ _ _ _ _ (@YT _ _ _ _ _ _ _ _ _ _ b_len Yu (@Ya _ _ _ _ _ (@Yl _ _ _ _ _ (@pv _ 0 _ _ (by rfl) (by first | exact .inl rfl | exact .inr (.inl rfl) | exact .inr (.inr rfl)) (by decide) (by decide)) rfl) Yc (by rfl)) (by decide +kernel) (by rfl) (by rfl) (by decide) (by decide) (by rfl) (by rfl)) Yc (by rfl)) (by omega) (by rfl) (by rfl) (by rfl) (by rfl)) Yc (by rfl)) (by rfl) (by rfl) (by rfl) (by rfl) (by rfl)) (by rfl)))) (@Yg _ _ _ (@Yo _ _ _ _ (@YE _ _ _ _ _ _ _ YJ (@Yl _ _ _ _ _ (@pv _ 0 _ _ (by rfl) (by first | exact .inl rfl | exact .inr (.inl rfl) | exact .inr (.inr rfl)) (by decide) (by decide)) rfl) (@pv _ 1 _ _ (by rfl) (by first | exact .inl rfl | exact .inr (.inl rfl) | exact .inr (.inr rfl)) (by decide) (by decide)) (fun _ _=>rfl))))),?_⟩
 walk_at "rd"
 have hC:WN (Cs.mk Z2 Z6 Z7 Z9 Z5 Z4 Z8 Z3 Z0 Z1) sh=Z4:=by cases sh<;>first | rfl | (simp [kind] at hk)
 by_cases cs:sz<t.ns p
 ·obtain ⟨dx,c,fs,hU,hd,hsm,hns,hp,hDc,hc,hsub⟩:=W.at_ p sh hg
  rw [hC] at hp
  refine YV (α:=Unit) (fun x σ H'=>σ=[some (.ref p),some (.int sz)]∧H=H') (fun x=>false) (fun x=>0) () ⟨rfl,rfl⟩ ?_ ?_ ?_
  ·rintro x σ H' ⟨rfl,rfl⟩ R r
   walk_at "rd"
   refine ⟨_,_,_,hp,Zu,Zh,_,Yp _ _,_,rfl,_,.inl (SqL.of hc),?_⟩
   rw [Yr,dle,decide_eq_false (by omega)]
   exact r H ⟨rfl,rfl⟩
  ·rintro x σ H' ⟨rfl,rfl⟩ hd
   cases hd
  ·rintro x σ H' ⟨rfl,rfl⟩ hd
   walk_at "rd"
   exact ⟨_,_,_,hp,Zu,Zh,_,Yp _ _,_,rfl,_,SqL.of hc,_,YY _ cs,q1 cs⟩
 ·obtain ⟨hfu,hRd,q⟩:=q2 (by omega)
  refine YV (α:=Sw) (fun x σ H'=>σ=[some (.ref p),some (.int sz)]∧Tr (Cs.mk Z2 Z6 Z7 Z9 Z5 Z4 Z8 Z3 Z0 Z1) w t H x H' sz (dep sh+1)∧x.ns p≤sz+1) (fun x=>decide (x.ns p≤sz)) (fun x=>sz+1 - x.ns p) t ⟨rfl,.refl W _ _,by omega⟩ ?_ ?_ ?_
  ·rintro x σ H' ⟨rfl,T,hx⟩ R r
   obtain ⟨dx,c,fs,hU,hd,hsm,hns,hp,hDc,hc,hsub⟩:=T.wi.at_ p sh hg
   rw [hC] at hp
   walk_at "rd"
   refine ⟨_,_,_,hp,Zu,Zh,_,Yp _ _,_,rfl,_,.inl (SqL.of hc),?_⟩
   rw [Yr,dle]
   exact r H' ⟨rfl,T,hx⟩
  ·rintro x σ H' ⟨rfl,T,hx⟩ hd
   have hd:x.ns p≤sz:=of_decide_eq_true hd
   obtain ⟨dx,c,fs,hU,hd',hsm,hns,hp,hDc,hc,hsub⟩:=T.wi.at_ p sh hg
   rw [hC] at hp
   walk_at "rd"
   refine ⟨_,_,_,hp,Zu,Zh,_,Yp _ _,.inl ⟨rfl,_,SqL.of hc⟩,_,_,hp,Xy (by decide +kernel) hsub,_,_,_,hp,Zu,Zh,_,Yp _ _,_,rfl,_,.inl (SqL.of hc),?_⟩
   rw [Yr]
   have hfl:=Wm (w:=w) (d:=dep sh) hd
   have hrd:YZ w x (x.ns p) (dep sh+1):=(T.ready hRd).mono (by omega)
   refine ⟨w,x,p,sh,x.ns p,rfl,hk,T.wi,hg,rfl,by omega,by omega,hrd,fun t2 H2 T2 e2 hful=>?_⟩
   have T3:=T.trans (T2.mono (by omega))
   obtain ⟨dx2,c2,fs2,hU2,hd2,hsm2,hns2,hp2,hDc2,hc2,hsub2⟩:=T2.wi.at_ p sh hg
   have ec:=T2.wi.inj _ _ _ hDc2 hDc
   subst ec
   rw [e2] at hc2
   have T4:=T3.count hg hDc2 e2 hd hs hful
   refine ⟨_,rfl,_,hc2,by rw [Yr];exact few (by omega),t2.setn p (x.ns p+1),?_,?_,?_⟩
   ·rw [← Y2];exact T4
   ·show (if p=p then _ else _)≤_
    rw [if_pos rfl];omega
   ·show sz+1 - (if p=p then _ else _)<_
    rw [if_pos rfl];omega
  ·rintro x σ H' ⟨rfl,T,hx⟩ hd
   have hd:¬ x.ns p≤sz:=of_decide_eq_false hd
   obtain ⟨dx,c,fs,hU,hd',hsm,hns,hp,hDc,hc,hsub⟩:=T.wi.at_ p sh hg
   rw [hC] at hp
   walk_at "rd"
   exact ⟨_,_,_,hp,Zu,Zh,_,Yp _ _,_,rfl,_,SqL.of hc,_,YY _ (by omega),q x H' T (by omega)⟩
theorem Z2c {k:Nat} {Z3 Z0 Z1 Za Z5 Z4 Z7 Z9 Z6 Z8 Z2:Addr} (R:g.RawM Z5 "count_at" "Maker.count_at" Z1g ["self","size"]) (Z4n:g.Me k Z5 "reckoned" ["self","size"] (YM (Cs.mk Z2 Z6 Z7 Z9 Z5 Z4 Z8 Z3 Z0 Z1) 4 m)) (b_len:g.mg "len"=none) (Zj:Cls g.K Z5) (Zi:Yb g.K Z5 "counts") (Zm:Yb g.K Z5 "part"):g.Me (k+1) Z5 "count_at" ["self","size"] (Zs (Cs.mk Z2 Z6 Z7 Z9 Z5 Z4 Z8 Z3 Z0 Z1) 4 (m+1)):=by
 refine R.me Z3P (fun vs H Q E h=>by obtain ⟨w,t,p,sh,sz,rfl,hk,W,hg,hl,hs,q1,q2⟩:=h;rfl) fun f_ cdv A outer s H vs Q E hr h=>?_
 obtain ⟨w,t,p,sh,sz,rfl,hk,W,hg,hl,hs,q1,q2⟩:=h
 refine ⟨_,(@Yh _ _ _ _ _ (@XA _ _ _ _ _ _ PassesOwn.never (@Yt _ _ _ _ _ _ _ _ Wx (@YT _ _ _ _ _ _ _ _ _ _ b_len Yu (@Ya _ _ _ _ _ (@Yl _ _ _ _ _ (@pv _ 0 _ _ (by rfl) (by first | exact .inl rfl | exact .inr (.inl rfl) | exact .inr (.inr rfl)) (by decide) (by decide)) rfl) Yc (by rfl)) (by decide +kernel) (by rfl) (by rfl) (by decide) (by decide) (by rfl) (by rfl)) (@pv _ 1 _ _ (by rfl) (by first | exact .inl rfl | exact .inr (.inl rfl) | exact .inr (.inr rfl)) (by decide) (by decide)) (Yw _)) (@Yg _ _ _ (@YS _ _ _ _ (@XN _ _ _ _ _ _ _ _ _ _ _ _ PySem.F.plainAttrs_list PySem.F.slot_list_append PySem.F.type_list_append Y5 (@Yl _ _ _ _ _ (@pv _ 0 _ _ (by rfl) (by first | exact .inl rfl | exact .inr (.inl rfl) | exact .inr (.inr rfl)) (by decide) (by decide)) rfl) (@Ya _ _ _ _ _ (@Yn _ _ _ _ _ _ _ _ _ _ _ _ _ _ _ _ Z4n Zj hr (@pv _ 0 _ _ (by rfl) (by first | exact .inl rfl | exact .inr (.inl rfl) | exact .inr (.inr rfl)) (by decide) (by decide)) (@Ya _ _ _ _ _ (@YT _ _ _ _ _ _ _ _ _ _ b_len Yu (@Ya _ _ _ _ _ (@Yl _ _ _ _ _ (@pv _ 0 _ _ (by rfl) (by first | exact .inl rfl | exact .inr (.inl rfl) | exact .inr (.inr rfl)) (by decide) (by decide)) rfl) Yc (by rfl)) (by decide +kernel) (by rfl) (by rfl) (by decide) (by decide) (by rfl) (by rfl)) Yc (by rfl)) (by omega) (by rfl) (by rfl) (by rfl) (by rfl)) Yc (by rfl)) (by rfl) (by rfl) (by rfl) (by rfl) (by rfl)) (by rfl)))) (@Yg _ _ _ (@Yo _ _ _ _ (@YE _ _ _ _ _ _ _ YJ (@Yl _ _ _ _ _ (@pv _ 0 _ _ (by rfl) (by first | exact .inl rfl | exact .inr (.inl rfl) | exact .inr (.inr rfl)) (by decide) (by decide)) rfl) (@pv _ 1 _ _ (by rfl) (by first | exact .inl rfl | exact .inr (.inl rfl) | exact .inr (.inr rfl)) (by decide) (by decide)) (fun _ _=>rfl))))),?_⟩
 walk_at "rd"
 have hC:WN (Cs.mk Z2 Z6 Z7 Z9 Z5 Z4 Z8 Z3 Z0 Z1) sh=Z5:=by cases sh<;>first | rfl | (simp [kind] at hk)
 by_cases cs:sz<t.ns p
 ·obtain ⟨dx,c,fs,hU,hd,hsm,hns,hp,hDc,hc,hsub⟩:=W.at_ p sh hg
  rw [hC] at hp
  refine YV (α:=Unit) (fun x σ H'=>σ=[some (.ref p),some (.int sz)]∧H=H') (fun x=>false) (fun x=>0) () ⟨rfl,rfl⟩ ?_ ?_ ?_
  ·rintro x σ H' ⟨rfl,rfl⟩ R r
   walk_at "rd"
   refine ⟨_,_,_,hp,Zj,Zi,_,Yp _ _,_,rfl,_,.inl (SqL.of hc),?_⟩
   rw [Yr,dle,decide_eq_false (by omega)]
   exact r H ⟨rfl,rfl⟩
  ·rintro x σ H' ⟨rfl,rfl⟩ hd
   cases hd
  ·rintro x σ H' ⟨rfl,rfl⟩ hd
   walk_at "rd"
   exact ⟨_,_,_,hp,Zj,Zi,_,Yp _ _,_,rfl,_,SqL.of hc,_,YY _ cs,q1 cs⟩
 ·obtain ⟨hfu,hRd,q⟩:=q2 (by omega)
  refine YV (α:=Sw) (fun x σ H'=>σ=[some (.ref p),some (.int sz)]∧Tr (Cs.mk Z2 Z6 Z7 Z9 Z5 Z4 Z8 Z3 Z0 Z1) w t H x H' sz (dep sh+1)∧x.ns p≤sz+1) (fun x=>decide (x.ns p≤sz)) (fun x=>sz+1 - x.ns p) t ⟨rfl,.refl W _ _,by omega⟩ ?_ ?_ ?_
  ·rintro x σ H' ⟨rfl,T,hx⟩ R r
   obtain ⟨dx,c,fs,hU,hd,hsm,hns,hp,hDc,hc,hsub⟩:=T.wi.at_ p sh hg
   rw [hC] at hp
   walk_at "rd"
   refine ⟨_,_,_,hp,Zj,Zi,_,Yp _ _,_,rfl,_,.inl (SqL.of hc),?_⟩
   rw [Yr,dle]
   exact r H' ⟨rfl,T,hx⟩
  ·rintro x σ H' ⟨rfl,T,hx⟩ hd
   have hd:x.ns p≤sz:=of_decide_eq_true hd
   obtain ⟨dx,c,fs,hU,hd',hsm,hns,hp,hDc,hc,hsub⟩:=T.wi.at_ p sh hg
   rw [hC] at hp
   walk_at "rd"
   refine ⟨_,_,_,hp,Zj,Zi,_,Yp _ _,.inl ⟨rfl,_,SqL.of hc⟩,_,_,hp,Xy (by decide +kernel) hsub,_,_,_,hp,Zj,Zi,_,Yp _ _,_,rfl,_,.inl (SqL.of hc),?_⟩
   rw [Yr]
   have hfl:=Wm (w:=w) (d:=dep sh) hd
   have hrd:YZ w x (x.ns p) (dep sh+1):=(T.ready hRd).mono (by omega)
   refine ⟨w,x,p,sh,x.ns p,rfl,hk,T.wi,hg,rfl,by omega,by omega,hrd,fun t2 H2 T2 e2 hful=>?_⟩
   have T3:=T.trans (T2.mono (by omega))
   obtain ⟨dx2,c2,fs2,hU2,hd2,hsm2,hns2,hp2,hDc2,hc2,hsub2⟩:=T2.wi.at_ p sh hg
   have ec:=T2.wi.inj _ _ _ hDc2 hDc
   subst ec
   rw [e2] at hc2
   have T4:=T3.count hg hDc2 e2 hd hs hful
   refine ⟨_,rfl,_,hc2,by rw [Yr];exact few (by omega),t2.setn p (x.ns p+1),?_,?_,?_⟩
   ·rw [← Y2];exact T4
   ·show (if p=p then _ else _)≤_
    rw [if_pos rfl];omega
   ·show sz+1 - (if p=p then _ else _)<_
    rw [if_pos rfl];omega
  ·rintro x σ H' ⟨rfl,T,hx⟩ hd
   have hd:¬ x.ns p≤sz:=of_decide_eq_false hd
   obtain ⟨dx,c,fs,hU,hd',hsm,hns,hp,hDc,hc,hsub⟩:=T.wi.at_ p sh hg
   rw [hC] at hp
   walk_at "rd"
   exact ⟨_,_,_,hp,Zj,Zi,_,Yp _ _,_,rfl,_,SqL.of hc,_,YY _ (by omega),q x H' T (by omega)⟩
theorem Z2p {k:Nat} {Z3 Z0 Z1 Za Z5 Z4 Z7 Z9 Z6 Z8 Z2:Addr} (R:g.RawM Z8 "count_at" "Maker.count_at" Z1u ["self","size"]) (Z4L:g.Me k Z8 "reckoned" ["self","size"] (YM (Cs.mk Z2 Z6 Z7 Z9 Z5 Z4 Z8 Z3 Z0 Z1) 5 m)) (b_len:g.mg "len"=none) (Zt:Cls g.K Z8) (Zp:Yb g.K Z8 "counts") (Zl:Yb g.K Z8 "named"):g.Me (k+1) Z8 "count_at" ["self","size"] (Zs (Cs.mk Z2 Z6 Z7 Z9 Z5 Z4 Z8 Z3 Z0 Z1) 5 (m+1)):=by
 refine R.me Z4k (fun vs H Q E h=>by obtain ⟨w,t,p,sh,sz,rfl,hk,W,hg,hl,hs,q1,q2⟩:=h;rfl) fun f_ cdv A outer s H vs Q E hr h=>?_
 obtain ⟨w,t,p,sh,sz,rfl,hk,W,hg,hl,hs,q1,q2⟩:=h
 refine ⟨_,(@Yh _ _ _ _ _ (@XA _ _ _ _ _ _ PassesOwn.never (@Yt _ _ _ _ _ _ _ _ Wx (@YT _ _ _ _ _ _ _ _ _ _ b_len Yu (@Ya _ _ _ _ _ (@Yl _ _ _ _ _ (@pv _ 0 _ _ (by rfl) (by first | exact .inl rfl | exact .inr (.inl rfl) | exact .inr (.inr rfl)) (by decide) (by decide)) rfl) Yc (by rfl)) (by decide +kernel) (by rfl) (by rfl) (by decide) (by decide) (by rfl) (by rfl)) (@pv _ 1 _ _ (by rfl) (by first | exact .inl rfl | exact .inr (.inl rfl) | exact .inr (.inr rfl)) (by decide) (by decide)) (Yw _)) (@Yg _ _ _ (@YS _ _ _ _ (@XN _ _ _ _ _ _ _ _ _ _ _ _ PySem.F.plainAttrs_list PySem.F.slot_list_append PySem.F.type_list_append Y5 (@Yl _ _ _ _ _ (@pv _ 0 _ _ (by rfl) (by first | exact .inl rfl | exact .inr (.inl rfl) | exact .inr (.inr rfl)) (by decide) (by decide)) rfl) (@Ya _ _ _ _ _ (@Yn _ _ _ _ _ _ _ _ _ _ _ _ _ _ _ _ Z4L Zt hr (@pv _ 0 _ _ (by rfl) (by first | exact .inl rfl | exact .inr (.inl rfl) | exact .inr (.inr rfl)) (by decide) (by decide)) (@Ya _ _ _ _ _ (@YT _ _ _ _ _ _ _ _ _ _ b_len Yu (@Ya _ _ _ _ _ (@Yl _ _ _ _ _ (@pv _ 0 _ _ (by rfl) (by first | exact .inl rfl | exact .inr (.inl rfl) | exact .inr (.inr rfl)) (by decide) (by decide)) rfl) Yc (by rfl)) (by decide +kernel) (by rfl) (by rfl) (by decide) (by decide) (by rfl) (by rfl)) Yc (by rfl)) (by omega) (by rfl) (by rfl) (by rfl) (by rfl)) Yc (by rfl)) (by rfl) (by rfl) (by rfl) (by rfl) (by rfl)) (by rfl)))) (@Yg _ _ _ (@Yo _ _ _ _ (@YE _ _ _ _ _ _ _ YJ (@Yl _ _ _ _ _ (@pv _ 0 _ _ (by rfl) (by first | exact .inl rfl | exact .inr (.inl rfl) | exact .inr (.inr rfl)) (by decide) (by decide)) rfl) (@pv _ 1 _ _ (by rfl) (by first | exact .inl rfl | exact .inr (.inl rfl) | exact .inr (.inr rfl)) (by decide) (by decide)) (fun _ _=>rfl))))),?_⟩
 walk_at "rd"
 have hC:WN (Cs.mk Z2 Z6 Z7 Z9 Z5 Z4 Z8 Z3 Z0 Z1) sh=Z8:=by cases sh<;>first | rfl | (simp [kind] at hk)
 by_cases cs:sz<t.ns p
 ·obtain ⟨dx,c,fs,hU,hd,hsm,hns,hp,hDc,hc,hsub⟩:=W.at_ p sh hg
  rw [hC] at hp
  refine YV (α:=Unit) (fun x σ H'=>σ=[some (.ref p),some (.int sz)]∧H=H') (fun x=>false) (fun x=>0) () ⟨rfl,rfl⟩ ?_ ?_ ?_
  ·rintro x σ H' ⟨rfl,rfl⟩ R r
   walk_at "rd"
   refine ⟨_,_,_,hp,Zt,Zp,_,Yp _ _,_,rfl,_,.inl (SqL.of hc),?_⟩
   rw [Yr,dle,decide_eq_false (by omega)]
   exact r H ⟨rfl,rfl⟩
  ·rintro x σ H' ⟨rfl,rfl⟩ hd
   cases hd
  ·rintro x σ H' ⟨rfl,rfl⟩ hd
   walk_at "rd"
   exact ⟨_,_,_,hp,Zt,Zp,_,Yp _ _,_,rfl,_,SqL.of hc,_,YY _ cs,q1 cs⟩
 ·obtain ⟨hfu,hRd,q⟩:=q2 (by omega)
  refine YV (α:=Sw) (fun x σ H'=>σ=[some (.ref p),some (.int sz)]∧Tr (Cs.mk Z2 Z6 Z7 Z9 Z5 Z4 Z8 Z3 Z0 Z1) w t H x H' sz (dep sh+1)∧x.ns p≤sz+1) (fun x=>decide (x.ns p≤sz)) (fun x=>sz+1 - x.ns p) t ⟨rfl,.refl W _ _,by omega⟩ ?_ ?_ ?_
  ·rintro x σ H' ⟨rfl,T,hx⟩ R r
   obtain ⟨dx,c,fs,hU,hd,hsm,hns,hp,hDc,hc,hsub⟩:=T.wi.at_ p sh hg
   rw [hC] at hp
   walk_at "rd"
   refine ⟨_,_,_,hp,Zt,Zp,_,Yp _ _,_,rfl,_,.inl (SqL.of hc),?_⟩
   rw [Yr,dle]
   exact r H' ⟨rfl,T,hx⟩
  ·rintro x σ H' ⟨rfl,T,hx⟩ hd
   have hd:x.ns p≤sz:=of_decide_eq_true hd
   obtain ⟨dx,c,fs,hU,hd',hsm,hns,hp,hDc,hc,hsub⟩:=T.wi.at_ p sh hg
   rw [hC] at hp
   walk_at "rd"
   refine ⟨_,_,_,hp,Zt,Zp,_,Yp _ _,.inl ⟨rfl,_,SqL.of hc⟩,_,_,hp,Xy (by decide +kernel) hsub,_,_,_,hp,Zt,Zp,_,Yp _ _,_,rfl,_,.inl (SqL.of hc),?_⟩
   rw [Yr]
   have hfl:=Wm (w:=w) (d:=dep sh) hd
   have hrd:YZ w x (x.ns p) (dep sh+1):=(T.ready hRd).mono (by omega)
   refine ⟨w,x,p,sh,x.ns p,rfl,hk,T.wi,hg,rfl,by omega,by omega,hrd,fun t2 H2 T2 e2 hful=>?_⟩
   have T3:=T.trans (T2.mono (by omega))
   obtain ⟨dx2,c2,fs2,hU2,hd2,hsm2,hns2,hp2,hDc2,hc2,hsub2⟩:=T2.wi.at_ p sh hg
   have ec:=T2.wi.inj _ _ _ hDc2 hDc
   subst ec
   rw [e2] at hc2
   have T4:=T3.count hg hDc2 e2 hd hs hful
   refine ⟨_,rfl,_,hc2,by rw [Yr];exact few (by omega),t2.setn p (x.ns p+1),?_,?_,?_⟩
   ·rw [← Y2];exact T4
   ·show (if p=p then _ else _)≤_
    rw [if_pos rfl];omega
   ·show sz+1 - (if p=p then _ else _)<_
    rw [if_pos rfl];omega
  ·rintro x σ H' ⟨rfl,T,hx⟩ hd
   have hd:¬ x.ns p≤sz:=of_decide_eq_false hd
   obtain ⟨dx,c,fs,hU,hd',hsm,hns,hp,hDc,hc,hsub⟩:=T.wi.at_ p sh hg
   rw [hC] at hp
   walk_at "rd"
   exact ⟨_,_,_,hp,Zt,Zp,_,Yp _ _,_,rfl,_,SqL.of hc,_,YY _ (by omega),q x H' T (by omega)⟩
theorem Z1Q {k:Nat} {Z3 Z0 Z1 Za Z5 Z4 Z7 Z9 Z6 Z8 Z2:Addr} (R:g.RawM Z3 "count_at" "Maker.count_at" Z12 ["self","size"]) (Z3S:g.Me k Z3 "reckoned" ["self","size"] (YM (Cs.mk Z2 Z6 Z7 Z9 Z5 Z4 Z8 Z3 Z0 Z1) 6 m)) (b_len:g.mg "len"=none) (Zb:Cls g.K Z3) (Zk:Yb g.K Z3 "counts") (Zq:Yb g.K Z3 "part") (Ze:Yb g.K Z3 "times"):g.Me (k+1) Z3 "count_at" ["self","size"] (Zs (Cs.mk Z2 Z6 Z7 Z9 Z5 Z4 Z8 Z3 Z0 Z1) 6 (m+1)):=by
 refine R.me Z3v (fun vs H Q E h=>by obtain ⟨w,t,p,sh,sz,rfl,hk,W,hg,hl,hs,q1,q2⟩:=h;rfl) fun f_ cdv A outer s H vs Q E hr h=>?_
 obtain ⟨w,t,p,sh,sz,rfl,hk,W,hg,hl,hs,q1,q2⟩:=h
 refine ⟨_,(@Yh _ _ _ _ _ (@XA _ _ _ _ _ _ PassesOwn.never (@Yt _ _ _ _ _ _ _ _ Wx (@YT _ _ _ _ _ _ _ _ _ _ b_len Yu (@Ya _ _ _ _ _ (@Yl _ _ _ _ _ (@pv _ 0 _ _ (by rfl) (by first | exact .inl rfl | exact .inr (.inl rfl) | exact .inr (.inr rfl)) (by decide) (by decide)) rfl) Yc (by rfl)) (by decide +kernel) (by rfl) (by rfl) (by decide) (by decide) (by rfl) (by rfl)) (@pv _ 1 _ _ (by rfl) (by first | exact .inl rfl | exact .inr (.inl rfl) | exact .inr (.inr rfl)) (by decide) (by decide)) (Yw _)) (@Yg _ _ _ (@YS _ _ _ _ (@XN _ _ _ _ _ _ _ _ _ _ _ _ PySem.F.plainAttrs_list PySem.F.slot_list_append PySem.F.type_list_append Y5 (@Yl _ _ _ _ _ (@pv _ 0 _ _ (by rfl) (by first | exact .inl rfl | exact .inr (.inl rfl) | exact .inr (.inr rfl)) (by decide) (by decide)) rfl) (@Ya _ _ _ _ _ (@Yn _ _ _ _ _ _ _ _ _ _ _ _ _ _ _ _ Z3S Zb hr (@pv _ 0 _ _ (by rfl) (by first | exact .inl rfl | exact .inr (.inl rfl) | exact .inr (.inr rfl)) (by decide) (by decide)) (@Ya _ _ _ _ _ (@YT _ _ _ _ _ _ _ _ _ _ b_len Yu (@Ya _ _ _ _ _ (@Yl _ _ _ _ _ (@pv _ 0 _ _ (by rfl) (by first | exact .inl rfl | exact .inr (.inl rfl) | exact .inr (.inr rfl)) (by decide) (by decide)) rfl) Yc (by rfl)) (by decide +kernel) (by rfl) (by rfl) (by decide) (by decide) (by rfl) (by rfl)) Yc (by rfl)) (by omega) (by rfl) (by rfl) (by rfl) (by rfl)) Yc (by rfl)) (by rfl) (by rfl) (by rfl) (by rfl) (by rfl)) (by rfl)))) (@Yg _ _ _ (@Yo _ _ _ _ (@YE _ _ _ _ _ _ _ YJ (@Yl _ _ _ _ _ (@pv _ 0 _ _ (by rfl) (by first | exact .inl rfl | exact .inr (.inl rfl) | exact .inr (.inr rfl)) (by decide) (by decide)) rfl) (@pv _ 1 _ _ (by rfl) (by first | exact .inl rfl | exact .inr (.inl rfl) | exact .inr (.inr rfl)) (by decide) (by decide)) (fun _ _=>rfl))))),?_⟩
 walk_at "rd"
 have hC:WN (Cs.mk Z2 Z6 Z7 Z9 Z5 Z4 Z8 Z3 Z0 Z1) sh=Z3:=by cases sh<;>first | rfl | (simp [kind] at hk)
 by_cases cs:sz<t.ns p
 ·obtain ⟨dx,c,fs,hU,hd,hsm,hns,hp,hDc,hc,hsub⟩:=W.at_ p sh hg
  rw [hC] at hp
  refine YV (α:=Unit) (fun x σ H'=>σ=[some (.ref p),some (.int sz)]∧H=H') (fun x=>false) (fun x=>0) () ⟨rfl,rfl⟩ ?_ ?_ ?_
  ·rintro x σ H' ⟨rfl,rfl⟩ R r
   walk_at "rd"
   refine ⟨_,_,_,hp,Zb,Zk,_,Yp _ _,_,rfl,_,.inl (SqL.of hc),?_⟩
   rw [Yr,dle,decide_eq_false (by omega)]
   exact r H ⟨rfl,rfl⟩
  ·rintro x σ H' ⟨rfl,rfl⟩ hd
   cases hd
  ·rintro x σ H' ⟨rfl,rfl⟩ hd
   walk_at "rd"
   exact ⟨_,_,_,hp,Zb,Zk,_,Yp _ _,_,rfl,_,SqL.of hc,_,YY _ cs,q1 cs⟩
 ·obtain ⟨hfu,hRd,q⟩:=q2 (by omega)
  refine YV (α:=Sw) (fun x σ H'=>σ=[some (.ref p),some (.int sz)]∧Tr (Cs.mk Z2 Z6 Z7 Z9 Z5 Z4 Z8 Z3 Z0 Z1) w t H x H' sz (dep sh+1)∧x.ns p≤sz+1) (fun x=>decide (x.ns p≤sz)) (fun x=>sz+1 - x.ns p) t ⟨rfl,.refl W _ _,by omega⟩ ?_ ?_ ?_
  ·rintro x σ H' ⟨rfl,T,hx⟩ R r
   obtain ⟨dx,c,fs,hU,hd,hsm,hns,hp,hDc,hc,hsub⟩:=T.wi.at_ p sh hg
   rw [hC] at hp
   walk_at "rd"
   refine ⟨_,_,_,hp,Zb,Zk,_,Yp _ _,_,rfl,_,.inl (SqL.of hc),?_⟩
   rw [Yr,dle]
   exact r H' ⟨rfl,T,hx⟩
  ·rintro x σ H' ⟨rfl,T,hx⟩ hd
   have hd:x.ns p≤sz:=of_decide_eq_true hd
   obtain ⟨dx,c,fs,hU,hd',hsm,hns,hp,hDc,hc,hsub⟩:=T.wi.at_ p sh hg
   rw [hC] at hp
   walk_at "rd"
   refine ⟨_,_,_,hp,Zb,Zk,_,Yp _ _,.inl ⟨rfl,_,SqL.of hc⟩,_,_,hp,Xy (by decide +kernel) hsub,_,_,_,hp,Zb,Zk,_,Yp _ _,_,rfl,_,.inl (SqL.of hc),?_⟩
   rw [Yr]
   have hfl:=Wm (w:=w) (d:=dep sh) hd
   have hrd:YZ w x (x.ns p) (dep sh+1):=(T.ready hRd).mono (by omega)
   refine ⟨w,x,p,sh,x.ns p,rfl,hk,T.wi,hg,rfl,by omega,by omega,hrd,fun t2 H2 T2 e2 hful=>?_⟩
   have T3:=T.trans (T2.mono (by omega))
   obtain ⟨dx2,c2,fs2,hU2,hd2,hsm2,hns2,hp2,hDc2,hc2,hsub2⟩:=T2.wi.at_ p sh hg
   have ec:=T2.wi.inj _ _ _ hDc2 hDc
   subst ec
   rw [e2] at hc2
   have T4:=T3.count hg hDc2 e2 hd hs hful
   refine ⟨_,rfl,_,hc2,by rw [Yr];exact few (by omega),t2.setn p (x.ns p+1),?_,?_,?_⟩
   ·rw [← Y2];exact T4
   ·show (if p=p then _ else _)≤_
    rw [if_pos rfl];omega
   ·show sz+1 - (if p=p then _ else _)<_
    rw [if_pos rfl];omega
  ·rintro x σ H' ⟨rfl,T,hx⟩ hd
   have hd:¬ x.ns p≤sz:=of_decide_eq_false hd
   obtain ⟨dx,c,fs,hU,hd',hsm,hns,hp,hDc,hc,hsub⟩:=T.wi.at_ p sh hg
   rw [hC] at hp
   walk_at "rd"
   exact ⟨_,_,_,hp,Zb,Zk,_,Yp _ _,_,rfl,_,SqL.of hc,_,YY _ (by omega),q x H' T (by omega)⟩
theorem Z1G {k:Nat} {Z3 Z0 Z1 Za Z5 Z4 Z7 Z9 Z6 Z8 Z2:Addr} (R:g.RawM Z0 "count_at" "Maker.count_at" Z0O ["self","size"]) (Z3w:g.Me k Z0 "reckoned" ["self","size"] (YM (Cs.mk Z2 Z6 Z7 Z9 Z5 Z4 Z8 Z3 Z0 Z1) 7 m)) (b_len:g.mg "len"=none) (Zf:Cls g.K Z0) (Zc:Yb g.K Z0 "counts") (Zv:Yb g.K Z0 "part") (Zn:Yb g.K Z0 "table"):g.Me (k+1) Z0 "count_at" ["self","size"] (Zs (Cs.mk Z2 Z6 Z7 Z9 Z5 Z4 Z8 Z3 Z0 Z1) 7 (m+1)):=by
 refine R.me Z3e (fun vs H Q E h=>by obtain ⟨w,t,p,sh,sz,rfl,hk,W,hg,hl,hs,q1,q2⟩:=h;rfl) fun f_ cdv A outer s H vs Q E hr h=>?_
 obtain ⟨w,t,p,sh,sz,rfl,hk,W,hg,hl,hs,q1,q2⟩:=h
 refine ⟨_,(@Yh _ _ _ _ _ (@XA _ _ _ _ _ _ PassesOwn.never (@Yt _ _ _ _ _ _ _ _ Wx (@YT _ _ _ _ _ _ _ _ _ _ b_len Yu (@Ya _ _ _ _ _ (@Yl _ _ _ _ _ (@pv _ 0 _ _ (by rfl) (by first | exact .inl rfl | exact .inr (.inl rfl) | exact .inr (.inr rfl)) (by decide) (by decide)) rfl) Yc (by rfl)) (by decide +kernel) (by rfl) (by rfl) (by decide) (by decide) (by rfl) (by rfl)) (@pv _ 1 _ _ (by rfl) (by first | exact .inl rfl | exact .inr (.inl rfl) | exact .inr (.inr rfl)) (by decide) (by decide)) (Yw _)) (@Yg _ _ _ (@YS _ _ _ _ (@XN _ _ _ _ _ _ _ _ _ _ _ _ PySem.F.plainAttrs_list PySem.F.slot_list_append PySem.F.type_list_append Y5 (@Yl _ _ _ _ _ (@pv _ 0 _ _ (by rfl) (by first | exact .inl rfl | exact .inr (.inl rfl) | exact .inr (.inr rfl)) (by decide) (by decide)) rfl) (@Ya _ _ _ _ _ (@Yn _ _ _ _ _ _ _ _ _ _ _ _ _ _ _ _ Z3w Zf hr (@pv _ 0 _ _ (by rfl) (by first | exact .inl rfl | exact .inr (.inl rfl) | exact .inr (.inr rfl)) (by decide) (by decide)) (@Ya _ _ _ _ _ (@YT _ _ _ _ _ _ _ _ _ _ b_len Yu (@Ya _ _ _ _ _ (@Yl _ _ _ _ _ (@pv _ 0 _ _ (by rfl) (by first | exact .inl rfl | exact .inr (.inl rfl) | exact .inr (.inr rfl)) (by decide) (by decide)) rfl) Yc (by rfl)) (by decide +kernel) (by rfl) (by rfl) (by decide) (by decide) (by rfl) (by rfl)) Yc (by rfl)) (by omega) (by rfl) (by rfl) (by rfl) (by rfl)) Yc (by rfl)) (by rfl) (by rfl) (by rfl) (by rfl) (by rfl)) (by rfl)))) (@Yg _ _ _ (@Yo _ _ _ _ (@YE _ _ _ _ _ _ _ YJ (@Yl _ _ _ _ _ (@pv _ 0 _ _ (by rfl) (by first | exact .inl rfl | exact .inr (.inl rfl) | exact .inr (.inr rfl)) (by decide) (by decide)) rfl) (@pv _ 1 _ _ (by rfl) (by first | exact .inl rfl | exact .inr (.inl rfl) | exact .inr (.inr rfl)) (by decide) (by decide)) (fun _ _=>rfl))))),?_⟩
 walk_at "rd"
 have hC:WN (Cs.mk Z2 Z6 Z7 Z9 Z5 Z4 Z8 Z3 Z0 Z1) sh=Z0:=by cases sh<;>first | rfl | (simp [kind] at hk)
 by_cases cs:sz<t.ns p
 ·obtain ⟨dx,c,fs,hU,hd,hsm,hns,hp,hDc,hc,hsub⟩:=W.at_ p sh hg
  rw [hC] at hp
  refine YV (α:=Unit) (fun x σ H'=>σ=[some (.ref p),some (.int sz)]∧H=H') (fun x=>false) (fun x=>0) () ⟨rfl,rfl⟩ ?_ ?_ ?_
  ·rintro x σ H' ⟨rfl,rfl⟩ R r
   walk_at "rd"
   refine ⟨_,_,_,hp,Zf,Zc,_,Yp _ _,_,rfl,_,.inl (SqL.of hc),?_⟩
   rw [Yr,dle,decide_eq_false (by omega)]
   exact r H ⟨rfl,rfl⟩
  ·rintro x σ H' ⟨rfl,rfl⟩ hd
   cases hd
  ·rintro x σ H' ⟨rfl,rfl⟩ hd
   walk_at "rd"
   exact ⟨_,_,_,hp,Zf,Zc,_,Yp _ _,_,rfl,_,SqL.of hc,_,YY _ cs,q1 cs⟩
 ·obtain ⟨hfu,hRd,q⟩:=q2 (by omega)
  refine YV (α:=Sw) (fun x σ H'=>σ=[some (.ref p),some (.int sz)]∧Tr (Cs.mk Z2 Z6 Z7 Z9 Z5 Z4 Z8 Z3 Z0 Z1) w t H x H' sz (dep sh+1)∧x.ns p≤sz+1) (fun x=>decide (x.ns p≤sz)) (fun x=>sz+1 - x.ns p) t ⟨rfl,.refl W _ _,by omega⟩ ?_ ?_ ?_
  ·rintro x σ H' ⟨rfl,T,hx⟩ R r
   obtain ⟨dx,c,fs,hU,hd,hsm,hns,hp,hDc,hc,hsub⟩:=T.wi.at_ p sh hg
   rw [hC] at hp
   walk_at "rd"
   refine ⟨_,_,_,hp,Zf,Zc,_,Yp _ _,_,rfl,_,.inl (SqL.of hc),?_⟩
   rw [Yr,dle]
   exact r H' ⟨rfl,T,hx⟩
  ·rintro x σ H' ⟨rfl,T,hx⟩ hd
   have hd:x.ns p≤sz:=of_decide_eq_true hd
   obtain ⟨dx,c,fs,hU,hd',hsm,hns,hp,hDc,hc,hsub⟩:=T.wi.at_ p sh hg
   rw [hC] at hp
   walk_at "rd"
   refine ⟨_,_,_,hp,Zf,Zc,_,Yp _ _,.inl ⟨rfl,_,SqL.of hc⟩,_,_,hp,Xy (by decide +kernel) hsub,_,_,_,hp,Zf,Zc,_,Yp _ _,_,rfl,_,.inl (SqL.of hc),?_⟩
   rw [Yr]
   have hfl:=Wm (w:=w) (d:=dep sh) hd
   have hrd:YZ w x (x.ns p) (dep sh+1):=(T.ready hRd).mono (by omega)
   refine ⟨w,x,p,sh,x.ns p,rfl,hk,T.wi,hg,rfl,by omega,by omega,hrd,fun t2 H2 T2 e2 hful=>?_⟩
   have T3:=T.trans (T2.mono (by omega))
   obtain ⟨dx2,c2,fs2,hU2,hd2,hsm2,hns2,hp2,hDc2,hc2,hsub2⟩:=T2.wi.at_ p sh hg
   have ec:=T2.wi.inj _ _ _ hDc2 hDc
   subst ec
   rw [e2] at hc2
   have T4:=T3.count hg hDc2 e2 hd hs hful
   refine ⟨_,rfl,_,hc2,by rw [Yr];exact few (by omega),t2.setn p (x.ns p+1),?_,?_,?_⟩
   ·rw [← Y2];exact T4
   ·show (if p=p then _ else _)≤_
    rw [if_pos rfl];omega
   ·show sz+1 - (if p=p then _ else _)<_
    rw [if_pos rfl];omega
  ·rintro x σ H' ⟨rfl,T,hx⟩ hd
   have hd:¬ x.ns p≤sz:=of_decide_eq_false hd
   obtain ⟨dx,c,fs,hU,hd',hsm,hns,hp,hDc,hc,hsub⟩:=T.wi.at_ p sh hg
   rw [hC] at hp
   walk_at "rd"
   exact ⟨_,_,_,hp,Zf,Zc,_,Yp _ _,_,rfl,_,SqL.of hc,_,YY _ (by omega),q x H' T (by omega)⟩
def Yc3:Sp:=fun vs H Q _=>∃ (n:Nat),vs=[.int n]∧n≤100∧Q (.int (1*2^n / 2^1)) H
theorem Z5g {Z3 Z0 Z1 Za Z5 Z4 Z7 Z9 Z6 Z8 Z2:Addr} (R:g.Raw "least_distance" "least_distance" Z21 ["size"]):g.Fn (1) "least_distance" ["size"] (Yc3):=by
 refine R.fn Z5e (fun vs H Q E h=>by obtain ⟨n,rfl,hn,q⟩:=h;rfl) fun f_ cdv A outer s H vs Q E hr h=>?_
 obtain ⟨n,rfl,hn,q⟩:=h
 refine ⟨_,(@Yg _ _ _ (@Yo _ _ _ _ (@Yi _ _ _ _ _ _ _ _ YdV (@Yi _ _ _ _ _ _ _ _ Qi Yf (@pv _ 0 _ _ (by rfl) (by first | exact .inl rfl | exact .inr (.inl rfl) | exact .inr (.inr rfl)) (by decide) (by decide))) Yf))),?_⟩
 walk_at "rd"
 exact ⟨⟨by omega,by omega,by decide⟩,by decide,q⟩
theorem Z1R {k:Nat} {Z3 Z0 Z1 Za Z5 Z4 Z7 Z9 Z6 Z8 Z2:Addr} (R:g.RawM Z2 "reckoned" "WholeMaker.reckoned" Z0T ["self","size"]) (Z5y:g.Fn k "least_distance" ["size"] (Yc3)) (b_max:g.mg "max"=none) (b_min:g.mg "min"=none) (Zr:Cls g.K Z2) (Zd:Yb g.K Z2 "counts") (ZE:Yb g.K Z2 "low") (Zx:Yb g.K Z2 "span"):g.Me (k+1) Z2 "reckoned" ["self","size"] (YM (Cs.mk Z2 Z6 Z7 Z9 Z5 Z4 Z8 Z3 Z0 Z1) 0 (m+1)):=by
 refine R.me Z1N (fun vs H Q E h=>by obtain ⟨w,t,p,sh,sz,rfl,hk,W,hg,hn,hs,hf,hR,q⟩:=h;rfl) fun f_ cdv A outer s H vs Q E hr h=>?_
 obtain ⟨w,t,p,sh,sz,rfl,hk,W,hg,hn,hs,hf,hR,q⟩:=h
 refine ⟨_,(@Yh _ _ _ _ _ (@YA _ _ (2) _ _ _ _ Z1N.nd rfl (.inl rfl) (@YT _ _ _ _ _ _ _ _ _ _ b_min (YbK rfl) (@Ya _ _ _ _ _ (@Yl _ _ _ _ _ (@pv _ 0 _ _ (by rfl) (by first | exact .inl rfl | exact .inr (.inl rfl) | exact .inr (.inr rfl)) (by decide) (by decide)) rfl) (@Ya _ _ _ _ _ (@Yi _ _ _ _ _ _ _ _ YD (@Yi _ _ _ _ _ _ _ _ Qi Yf (@pv _ 1 _ _ (by rfl) (by first | exact .inl rfl | exact .inr (.inl rfl) | exact .inr (.inr rfl)) (by decide) (by decide))) Yf) Yc (by rfl)) (by rfl)) (by decide +kernel) (by rfl) (by rfl) (by decide) (by decide) (by rfl) (by rfl)) (by rfl) (by first | exact .inl rfl | exact .inr rfl | assumption)) (@Yg _ _ _ (@Yo _ _ _ _ (@YT _ _ _ _ _ _ _ _ _ _ b_max (UA rfl) (@Ya _ _ _ _ _ Yf (@Ya _ _ _ _ _ (@Yi _ _ _ _ _ _ _ _ YI (@Yi _ _ _ _ _ _ _ _ YD (@pv _ 2 _ _ (by rfl) (by first | exact .inl rfl | exact .inr (.inl rfl) | exact .inr (.inr rfl)) (by decide) (by decide)) (@Yx _ _ _ _ _ _ _ _ _ _ _ _ Z5y hr (@Ya _ _ _ _ _ (@pv _ 1 _ _ (by rfl) (by first | exact .inl rfl | exact .inr (.inl rfl) | exact .inr (.inr rfl)) (by decide) (by decide)) Yc (by rfl)) (by omega) (by rfl) (by rfl) (by decide) (by rfl) (by rfl))) Yf) Yc (by rfl)) (by rfl)) (by decide +kernel) (by rfl) (by rfl) (by decide) (by decide) (by rfl) (by rfl))))),?_⟩
 cases sh with
 | w lo span =>
  obtain ⟨dx,c,fs,hU,hd,hsm,hns,hp,hDc,hc,hsub⟩:=W.at_ p _ hg
  have hsub:fs=fW lo span:=hsub
  subst hsub
  walk_at "rd"
  have:=q t H (.refl W _ _) hn (fun ps z=>by cases z)
  rw [Yc2] at this
  exact ⟨_,_,_,hp,Zr,Zx,_,rfl,⟨by omega,by omega,by decide⟩,_,rfl,sz,rfl,by omega,_,rfl,this⟩
 | _=>simp [kind] at hk
theorem pow62 {a:Nat} (h:a≤62) (j:Nat):((a:Int)^j).natAbs<2^(6*j+1):=by
 have e:((a:Int)^j).natAbs=a^j:=by rw [Int.natAbs_pow,Int.natAbs_natCast]
 rw [e]
 have h1:a^j≤(2^6)^j:=Nat.pow_le_pow_left (by omega) j
 rw [← Nat.pow_mul] at h1
 have h2:2^(6*j)<2^(6*j+1):=Nat.pow_lt_pow_right (by decide) (by omega)
 omega
theorem Z2d {k:Nat} {Z3 Z0 Z1 Za Z5 Z4 Z7 Z9 Z6 Z8 Z2:Addr} (R:g.RawM Z6 "reckoned" "TextMaker.reckoned" Z19 ["self","size"]) (ZM:g.Me k Z6 "count_at" ["self","size"] (Zs (Cs.mk Z2 Z6 Z7 Z9 Z5 Z4 Z8 Z3 Z0 Z1) 1 m)) (b_len:g.mg "len"=none) (Zw:Cls g.K Z6) (Zg:Yb g.K Z6 "counts") (Zy:Yb g.K Z6 "signs"):g.Me (k+1) Z6 "reckoned" ["self","size"] (YM (Cs.mk Z2 Z6 Z7 Z9 Z5 Z4 Z8 Z3 Z0 Z1) 1 (m+1)):=by
 refine R.me Z3J (fun vs H Q E h=>by obtain ⟨w,t,p,sh,sz,rfl,hk,W,hg,hn,hs,hf,hR,q⟩:=h;rfl) fun f_ cdv A outer s H vs Q E hr h=>?_
 obtain ⟨w,t,p,sh,sz,rfl,hk,W,hg,hn,hs,hf,hR,q⟩:=h
 refine ⟨_,(@Yg _ _ _ (@Yo _ _ _ _ (@WJ _ _ _ _ _ _ _ _ (@Yt _ _ _ _ _ _ _ _ Y4 (@pv _ 1 _ _ (by rfl) (by first | exact .inl rfl | exact .inr (.inl rfl) | exact .inr (.inr rfl)) (by decide) (by decide)) Yf (Yw _)) Yf (@Yi _ _ _ _ _ _ _ _ Xt (@YT _ _ _ _ _ _ _ _ _ _ b_len Qp (@Ya _ _ _ _ _ (@Yl _ _ _ _ _ (@pv _ 0 _ _ (by rfl) (by first | exact .inl rfl | exact .inr (.inl rfl) | exact .inr (.inr rfl)) (by decide) (by decide)) rfl) Yc (by rfl)) (by decide +kernel) (by rfl) (by rfl) (by decide) (by decide) (by rfl) (by rfl)) (@Yn _ _ _ _ _ _ _ _ _ _ _ _ _ _ _ _ ZM Zw hr (@pv _ 0 _ _ (by rfl) (by first | exact .inl rfl | exact .inr (.inl rfl) | exact .inr (.inr rfl)) (by decide) (by decide)) (@Ya _ _ _ _ _ (@Yi _ _ _ _ _ _ _ _ YD (@pv _ 1 _ _ (by rfl) (by first | exact .inl rfl | exact .inr (.inl rfl) | exact .inr (.inr rfl)) (by decide) (by decide)) Yf) Yc (by rfl)) (by omega) (by rfl) (by rfl) (by rfl) (by rfl)))))),?_⟩
 cases sh with
 | t sg =>
  obtain ⟨dx,c,fs,hU,hd,hsm,hns,hp,hDc,hc,hsub⟩:=W.at_ p _ hg
  have hno:=fun {m:Str} (h:isF m=false)=>Xy (c:=c) h hsub
  obtain ⟨rfl,hsl⟩:=hsub
  have q:=q t H (.refl W _ _) hn (fun ps z=>by cases z)
  walk_at "rd"
  refine XB (fun c=>?_) (fun c=>?_)
  ·have e:sz=0:=by omega
   rw [e,Ub] at q
   exact q
  ·obtain ⟨j,rfl⟩:∃ j,sz=j+1:=⟨sz - 1,by omega⟩
   refine ⟨_,_,_,hp,Zw,Zy,_,rfl,_,rfl,by rw [U5];exact few (by omega),_,_,hp,hno (by decide +kernel),?_⟩
   refine ⟨w,t,p,.t sg,j,by rw [show ((j+1:Nat):Int) - 1=(j:Int) by omega],rfl,W,hg,by unfold fu at hf;omega,by omega,fun _=>⟨_,rfl,?_,?_⟩,fun z=>absurd z (by omega)⟩
   ·rw [U5,Ub]
    refine .inl (cm (m:=7) (n:=6*j+1) ?_ (pow62 hsl j) (by omega))
    rw [Int.natAbs_natCast];omega
   ·rw [U5,Ub]
    rw [Ub,Int.pow_succ,Int.mul_comm] at q
    exact q
 | _=>simp [kind] at hk
def Blk (H:Hp) (D:Addr) (ps:List (Int×Int)):Prop:=∃ xs:List V,H D=some (.lst xs)∧xs.length=ps.length∧∀ (i:Nat) x p,xs[i]?=some x→ps[i]?=some p→∃ T,x = .ref T∧H T=some (.tup [.int p.1,.int p.2])
def Z2q (K:PySem.W.Frag):Sp:=fun vs H Q _=>∃ (D:Addr) (ps:List (Int×Int)),vs=[.ref D]∧Blk H D ps∧ps.length≤1000∧(∀ p∈ps,sm p.1∧sm p.2)∧∀ H',Yq H H'→Q (.int (ps.map fun p=>p.1*p.2).sum) H'
section
variable {src:List (Option Nat)} {te:TE} {σ:St} {H:Hp} {Q:VK}
theorem Yb5 {K:PySem.W.Frag} {tl:TE} {b:Addr} {xs:List V} (ps:List (V×V)) (ys:List V) (ha:∀ R:V→Hp→Prop,R (.ref b) H→tl σ H R) (hS:SqL K H b xs) (hp:∀ (i:Nat) x p,xs[i]?=some x→ps[i]?=some p→∃ T,x = .ref T∧H T=some (.tup [p.1,p.2])) (hl:ps.length=xs.length) (hl2:ys.length=xs.length) (hlen:xs.length≤100000)
  (step:∀ (i:Nat) p y H',ps[i]?=some p→ys[i]?=some y→Yq H H'→∀ R:VK,(∀ H'',Yq H' H''→R y H'')→te (some p.1::some p.2::Y6 src σ) H' R)
  (fin:∀ D H',H D=none→Yq H H'→H' D=some (.lst ys)→Q (.ref D) H'):tLC (none::none::src) (Vj K tl) (WZ K 2 (Xq (YL 0) (Xq (YL 1) WY))) Vk te σ H Q:=by
 refine ha _ ⟨b,rfl,⟨xs,hS⟩,fun D hD=>?_⟩
 have h6:100000<sizeLine:=by decide
 refine V4 (Vl.imp fun H' (e:Yq H H')=>e.seq hS) (fun i zs σ' H'=>zs=ys.take i∧(∃ o o',σ'=o::o'::Y6 src σ)∧Yq H H'∧H' D=some (.lst zs)) ⟨by simp,⟨none,none,rfl⟩,.upd_new hD _,Ye⟩ (fun i zs σ' H' p=>⟨p.2.2.1,p.2.2.2⟩) (VR K 0 1) ?_ ?_
 ·rintro i zs σ' H' x hx ⟨rfl,⟨o,o',rfl⟩,sm,hd⟩
  have hi:=(List.getElem?_eq_some_iff.mp hx).1
  have hy:ys[i]?=some (ys[i]'(by omega)):=List.getElem?_eq_getElem _
  have hpi:ps[i]?=some (ps[i]'(by omega)):=List.getElem?_eq_getElem _
  obtain ⟨T,rfl,hT⟩:=hp i x _ hx hpi
  refine ⟨T,_,rfl,SqT.of (sm _ _ hT),rfl,_,_,rfl,_,_,rfl,rfl,?_⟩
  refine step i _ _ H' hpi hy sm _ fun H'' s2=>⟨s2 _ _ hd,?_,(WT hy).symm,⟨_,_,rfl⟩,.upd_over hD (sm.trans s2) _,Ye⟩
  rw [List.length_take];omega
 ·rintro zs σ' H' ⟨rfl,_,sm,hd⟩
  rw [← hl2,List.take_length] at hd
  exact fin D H' hD sm hd
end
theorem Ybc {Z3 Z0 Z1 Za Z5 Z4 Z7 Z9 Z6 Z8 Z2:Addr} (R:g.Raw "ways_of" "ways_of" Z4U ["blocks"]) (b_sum:g.mg "sum"=none):g.Fn (1) "ways_of" ["blocks"] (Z2q g.K):=by
 refine R.fn Yba (fun vs H Q E h=>by obtain ⟨D,ps,rfl,⟨xs,hD,hxl,hxp⟩,hl,hb,q⟩:=h;rfl) fun f_ cdv A outer s H vs Q E hr h=>?_
 obtain ⟨D,ps,rfl,⟨xs,hD,hxl,hxp⟩,hl,hb,q⟩:=h
 refine ⟨_,(@Yg _ _ _ (@Yo _ _ _ _ (@YT _ _ _ _ _ _ _ _ _ _ b_sum US (@Ya _ _ _ _ _ (@Wj _ _ _ _ _ _ _ ([none,none]) ((["choices","rest"]:List Str)) _ (WZ g.K 2 (Xq (YL 0) (Xq (YL 1) WY))) _ _ (.own (.own .nil)) rfl (@W4 _ _ _ _ (@pv _ 0 _ _ (by rfl) (by first | exact .inl rfl | exact .inr (.inl rfl) | exact .inr (.inr rfl)) (by decide) (by decide))) (fun cl C s₀ H₀ fp pn=>(@VY _ _ _ _ _ (2) rfl (@XQ _ _ _ _ _ (@YF _ _ (0) _ (show List.Nodup (["choices","rest"]:List Str) by decide +kernel) rfl (.inl rfl) (.inr rfl)) (@XQ _ _ _ _ _ (@YF _ _ (1) _ (show List.Nodup (["choices","rest"]:List Str) by decide +kernel) rfl (.inl rfl) (.inr rfl)) VI (by rfl)) (by rfl)) (by rfl) (by rfl))) (fun cl C s₀ H₀ fp pn=>Xs) (fun cl C s₀ H₀ fp pn=>(@Yi _ _ _ _ _ _ _ _ Xt (@pv _ 0 _ _ (by rfl) (by first | exact .inl rfl | exact .inr (.inl rfl) | exact .inr (.inr rfl)) (by decide) (by decide)) (@pv _ 1 _ _ (by rfl) (by first | exact .inl rfl | exact .inr (.inl rfl) | exact .inr (.inr rfl)) (by decide) (by decide)))) (by intro x hx;simp at hx) (by rfl) (by decide) (by decide +kernel) (by intro _;rfl)) Yc (by rfl)) (by decide +kernel) (by rfl) (by rfl) (by decide) (by decide) (by rfl) (by rfl)))),?_⟩
 walk_at "rd"
 refine Yb5 (K:=g.K) (b:=D) (xs:=xs) (ps.map fun p=>(V.int p.1,V.int p.2)) (ps.map fun p=>V.int (p.1*p.2)) (fun R r=>by walk_at "rd";exact r) (SqL.of hD) ?_ (by rw [List.length_map];omega) (by rw [List.length_map];omega) (by omega) ?_ ?_
 ·intro i x p hx hp
  rw [List.getElem?_map] at hp
  obtain ⟨p',hp',rfl⟩:=Option.map_eq_some_iff.mp hp
  exact hxp i x p' hx hp'
 ·intro i p y H' hp hy sm R r
  rw [List.getElem?_map] at hp hy
  obtain ⟨p',hp',rfl⟩:=Option.map_eq_some_iff.mp hp
  rw [hp'] at hy
  have:V.int (p'.1*p'.2)=y:=Option.some.inj hy
  subst this
  obtain ⟨⟨n1,b0,b1⟩,⟨n2,b2,b3⟩⟩:=hb p' (List.mem_of_getElem? hp')
  walk_at "rd"
  exact ⟨.inl (cm b1 b3 (by omega)),r H' (.refl _)⟩
 ·intro D' H' hD' sm hd
  refine ⟨D',rfl,ps.map fun p=>p.1*p.2,SqL.of (by rw [hd,List.map_map];rfl),q H' sm⟩
def Tb (C:Cs) (H:Hp) (p T:Addr):Prop:=∃ dx c P,H p=some (.ins C.row dx (mf c (fR P T)))
def Va (C:Cs) (l:Nat):Sp:=fun vs H Q _=>∃ (w:Wo) (t:Sw) (p T:Addr) (ps:List Sh) (pl left:Nat),vs=[.ref T,.int pl,.int left]∧WI C w t H∧w.reg p=some (.row ps)∧Tb C H p T∧pl≤ps.length∧left≤40∧1≤l ∧
 (left<t.ms p ps.length→left<t.ms p pl∧Q (.int (Y9 w.bk (ps.drop pl) left)) H) ∧
 (t.ms p ps.length≤left→Uni t p∧left≤t.ns p∧fu w left (YQ ps+1)+3≤l∧YZ w t left (YQ ps+1)∧∀ t' H',Tr C w t H t' H' left (YQ ps+2)→t'.ns p=t.ns p→Uni t' p→left<t'.ms p 0→Q (.int (Y9 w.bk (ps.drop pl) left)) H')
def Uc (C:Cs) (l:Nat):Sp:=fun vs H Q _=>∃ (w:Wo) (t:Sw) (p T:Addr) (ps:List Sh) (sz:Nat),vs=[.ref T,.int sz]∧WI C w t H∧w.reg p=some (.row ps)∧Tb C H p T∧(∀ i,t.ms p i=sz)∧sz≤40∧sz≤t.ns p∧fu w sz (YQ ps+1)+2≤l∧YZ w t sz (YQ ps+1) ∧
 ∀ t' H',Tr C w t H t' H' sz (YQ ps+2)→t'.ns p=t.ns p→(∀ i,t'.ms p i=sz+1)→Q .non H'
def Z2T (C:Cs) (l:Nat):Sp:=fun vs H Q _=>∃ (w:Wo) (t:Sw) (p T:Addr) (ps:List Sh) (pl left:Nat) (sh:Sh),vs=[.ref T,.int pl,.int left]∧WI C w t H∧w.reg p=some (.row ps)∧Tb C H p T∧ps[pl]?=some sh∧left≤40∧left≤t.ns p∧(∀ i,pl<i→left<t.ms p i)∧fu w left (YQ ps+1)+1≤l∧YZ w t left (YQ ps+1) ∧
 ∀ D t' H',Tr C w t H t' H' left (YQ ps+1)→H D=none→¬ t'.U D→Blk H' D ((List.range (left+1)).map fun f=>(cnt w.bk sh f,Y9 w.bk (ps.drop (pl+1)) (left - f)))→Q (.ref D) H'
theorem Yav {C:Cs} {vs:List V} {H:Hp} {Q:VK} {E:XK} (h:Va C 0 vs H Q E):False:=by
 obtain ⟨w,t,p,T,ps,pl,left,_,_,_,_,_,_,h,_⟩:=h
 omega
theorem Yd8 {C:Cs} {vs:List V} {H:Hp} {Q:VK} {E:XK} (h:Uc C 0 vs H Q E):False:=by
 obtain ⟨w,t,p,T,ps,sz,_,_,_,_,_,_,_,h,_⟩:=h
 omega
theorem Ybd {C:Cs} {vs:List V} {H:Hp} {Q:VK} {E:XK} (h:Z2T C 0 vs H Q E):False:=by
 obtain ⟨w,t,p,T,ps,pl,left,sh,_,_,_,_,_,_,_,_,h,_⟩:=h
 omega
theorem Vb {C:Cs} {w:Wo} {t:Sw} {H:Hp} {p T:Addr} {ps:List Sh} (W:WI C w t H) (hg:w.reg p=some (.row ps)) (hT:Tb C H p T):∃ (P dt L:Addr) (as ws:List Addr),w.D T=none∧w.D P=none∧w.D L=none∧H P=some (.lst (as.map V.ref))∧Wl w.reg as ps∧ps.length≤100 ∧
   H T=some (.ins C.tab dt (W2 P L))∧H L=some (.lst (ws.map V.ref))∧ws.length=ps.length+1 ∧
   (∀ (i:Nat) x,ws[i]?=some x→w.D x=some (p,i+1)∧t.ns p≤t.ms p i∧t.ms p i≤60∧H x=some (.lst (YR (Y9 w.bk (ps.drop i)) (t.ms p i))))∧(∀ i s,s≤45→sm (Y9 w.bk (ps.drop i) s))∧dep (.row ps)≤w.M:=by
 obtain ⟨dx,c,fs,hU,hd,hsm,hns,hp,hDc,hc,hsub⟩:=W.at_ p _ hg
 obtain ⟨P,T',dt,L,as,ws,rfl,h2,h3,h4,h5,h6,h7,h8,h9,h10,h11,h12⟩:=hsub
 obtain ⟨dx',c',P',hp'⟩:=hT
 rw [hp] at hp'
 have e:=Option.some.inj hp'
 injection e with e1 e2 e3
 unfold mf fR at e3
 injection e3 with e4 e5
 injection e5 with e6 e7
 injection e7 with e8 e9
 injection e8 with _ e8
 have:=V.ref.inj e8
 subst this
 exact ⟨P,dt,L,as,ws,h3.1,h2.1,h4.1,h5,h6,h7,h8,h9,h10,h11,h12,hd⟩
theorem Tr.tb {C:Cs} {w:Wo} {t t':Sw} {H H':Hp} {s d:Nat} (T:Tr C w t H t' H' s d) {p x:Addr} {sh:Sh} (W:WI C w t H) (hg:w.reg p=some sh) (h:Tb C H p x):Tb C H' p x:=by
 obtain ⟨dx,c,P,h⟩:=h
 obtain ⟨_,_,_,hU,_⟩:=W.at_ p _ hg
 exact ⟨dx,c,P,T.fr _ _ hU.1 h⟩
def Cal (C:Cs) (cx:Addr) (k l:Nat) (H:Hp) (a:Addr) (s:Nat) (Q:VK):Prop:=∃ dx fs,H a=some (.ins cx dx fs)∧fs.lookup ("count_at":Str)=none∧Zs C k l [.ref a,.int s] H Q E0
theorem X3 {C:Cs} {w:Wo} {t:Sw} {H:Hp} {a:Addr} {sh:Sh} {l sz:Nat} {Q:VK} (W:WI C w t H) (hg:w.reg a=some sh) (hs:sz≤40) (hf:fu w sz (dep sh)+5≤l) (hR:YZ w t sz (dep sh+1))
  (q:∀ t' H',Tr C w t H t' H' sz (dep sh+1)→sz<t'.ns a→Q (.int (cnt w.bk sh sz)) H'):Cal C C.w 0 l H a sz Q∨Cal C C.t 1 l H a sz Q∨Cal C C.row 2 l H a sz Q∨Cal C C.many 4 l H a sz Q∨Cal C C.pick 3 l H a sz Q∨Cal C C.use 5 l H a sz Q∨Cal C C.alike 6 l H a sz Q∨Cal C C.cho 7 l H a sz Q:=by
 obtain ⟨dx,c,fs,hU,hd,hsm,hns,hp,hDc,hc,hsub⟩:=W.at_ a sh hg
 have key:Cal C (WN C sh) (kind sh) l H a sz Q:=⟨dx,_,hp,Xy (by decide +kernel) hsub,w,t,a,sh,sz,rfl,rfl,W,hg,by omega,hs,fun h=>q t H (.refl W _ _) h,fun _=>⟨hf,hR,fun t' H' T e=>q t' H' T (by omega)⟩⟩
 cases sh with
 | w lo span=>exact .inl key
 | t sg=>exact .inr (.inl key)
 | row ps=>exact .inr (.inr (.inl key))
 | many p=>exact .inr (.inr (.inr (.inl key)))
 | pick mk ps=>exact .inr (.inr (.inr (.inr (.inl key))))
 | use x=>exact .inr (.inr (.inr (.inr (.inr (.inl key)))))
 | alike p n=>exact .inr (.inr (.inr (.inr (.inr (.inr (.inl key))))))
 | cho un p=>exact .inr (.inr (.inr (.inr (.inr (.inr (.inr key))))))
theorem Z2e {k:Nat} {Z3 Z0 Z1 Za Z5 Z4 Z7 Z9 Z6 Z8 Z2:Addr} (R:g.RawM Z9 "blocks_at" "RowTable.blocks_at" Z1a ["self","place","left"]) (Z1C:g.Me k Z9 "ways_at" ["self","place","left"] (Va (Cs.mk Z2 Z6 Z7 Z9 Z5 Z4 Z8 Z3 Z0 Z1) m)) (ZR:g.Me k Z2 "count_at" ["self","size"] (Zs (Cs.mk Z2 Z6 Z7 Z9 Z5 Z4 Z8 Z3 Z0 Z1) 0 m)) (ZM:g.Me k Z6 "count_at" ["self","size"] (Zs (Cs.mk Z2 Z6 Z7 Z9 Z5 Z4 Z8 Z3 Z0 Z1) 1 m)) (ZV:g.Me k Z7 "count_at" ["self","size"] (Zs (Cs.mk Z2 Z6 Z7 Z9 Z5 Z4 Z8 Z3 Z0 Z1) 2 m)) (ZQ:g.Me k Z5 "count_at" ["self","size"] (Zs (Cs.mk Z2 Z6 Z7 Z9 Z5 Z4 Z8 Z3 Z0 Z1) 4 m)) (ZT:g.Me k Z4 "count_at" ["self","size"] (Zs (Cs.mk Z2 Z6 Z7 Z9 Z5 Z4 Z8 Z3 Z0 Z1) 3 m)) (ZW:g.Me k Z8 "count_at" ["self","size"] (Zs (Cs.mk Z2 Z6 Z7 Z9 Z5 Z4 Z8 Z3 Z0 Z1) 5 m)) (ZS:g.Me k Z3 "count_at" ["self","size"] (Zs (Cs.mk Z2 Z6 Z7 Z9 Z5 Z4 Z8 Z3 Z0 Z1) 6 m)) (ZN:g.Me k Z0 "count_at" ["self","size"] (Zs (Cs.mk Z2 Z6 Z7 Z9 Z5 Z4 Z8 Z3 Z0 Z1) 7 m)) (ZP:g.mg "range"=none) (Zb:Cls g.K Z3) (Zk:Yb g.K Z3 "counts") (Zq:Yb g.K Z3 "part") (Ze:Yb g.K Z3 "times") (Zf:Cls g.K Z0) (Zc:Yb g.K Z0 "counts") (Zv:Yb g.K Z0 "part") (Zn:Yb g.K Z0 "table") (Zj:Cls g.K Z5) (Zi:Yb g.K Z5 "counts") (Zm:Yb g.K Z5 "part") (Zu:Cls g.K Z4) (Zh:Yb g.K Z4 "counts") (ZA:Yb g.K Z4 "marks") (Zz:Yb g.K Z4 "parts") (ZD:Cls g.K Z7) (Zo:Yb g.K Z7 "counts") (ZF:Yb g.K Z7 "parts") (ZC:Yb g.K Z7 "table") (ZL:Cls g.K Z9) (ZU:Yb g.K Z9 "parts") (ZK:Yb g.K Z9 "ways") (Zw:Cls g.K Z6) (Zg:Yb g.K Z6 "counts") (Zy:Yb g.K Z6 "signs") (Zt:Cls g.K Z8) (Zp:Yb g.K Z8 "counts") (Zl:Yb g.K Z8 "named") (Zr:Cls g.K Z2) (Zd:Yb g.K Z2 "counts") (ZE:Yb g.K Z2 "low") (Zx:Yb g.K Z2 "span"):g.Me (k+1) Z9 "blocks_at" ["self","place","left"] (Z2T (Cs.mk Z2 Z6 Z7 Z9 Z5 Z4 Z8 Z3 Z0 Z1) (m+1)):=by
 refine R.me Z29 (fun vs H Q E h=>by obtain ⟨w,t,p,T,ps,pl,left,sh,rfl,W,hg,hT,hsh,hl,hln,hms,hf,hR,q⟩:=h;rfl) fun f_ cdv A outer s H vs Q E hr h=>?_
 obtain ⟨w,t,p,T,ps,pl,left,sh,rfl,W,hg,hT,hsh,hl,hln,hms,hf,hR,q⟩:=h
 refine ⟨_,(@Yh _ _ _ _ _ (@YA _ _ (3) _ _ _ _ Z29.nd rfl (.inr rfl) (@YE _ _ _ _ _ _ _ YJ (@Yl _ _ _ _ _ (@pv _ 0 _ _ (by rfl) (by first | exact .inl rfl | exact .inr (.inl rfl) | exact .inr (.inr rfl)) (by decide) (by decide)) rfl) (@pv _ 1 _ _ (by rfl) (by first | exact .inl rfl | exact .inr (.inl rfl) | exact .inr (.inr rfl)) (by decide) (by decide)) (fun _ _=>rfl)) (by rfl) (by first | exact .inl rfl | exact .inr rfl | assumption)) (@Yg _ _ _ (@Yo _ _ _ _ (@Wj _ _ _ _ _ _ _ ([none,some 3,some 0,some 1,some 2]) ((["first","part","self","place","left"]:List Str)) _ (YL 0) _ _ (.own (.cap (i:=3) rfl rfl (by first | exact .inl rfl | exact .inr rfl) (.cap (i:=0) rfl rfl (by first | exact .inl rfl | exact .inr rfl) (.cap (i:=1) rfl rfl (by first | exact .inl rfl | exact .inr rfl) (.cap (i:=2) rfl rfl (by first | exact .inl rfl | exact .inr rfl) .nil))))) rfl (@Xd _ _ _ _ _ _ rfl ZP (@Ya _ _ _ _ _ (@Yi _ _ _ _ _ _ _ _ YI (@pv _ 2 _ _ (by rfl) (by first | exact .inl rfl | exact .inr (.inl rfl) | exact .inr (.inr rfl)) (by decide) (by decide)) Yf) Yc (by rfl)) (by rfl)) (fun cl C s₀ H₀ fp pn=>(@YF _ _ (0) _ (show List.Nodup (["first","part","self","place","left"]:List Str) by decide +kernel) rfl (.inl rfl) (.inr rfl))) (fun cl C s₀ H₀ fp pn=>Xs) (fun cl C s₀ H₀ fp pn=>(@Xg _ _ _ _ _ (@Ya _ _ _ _ _ (@Ym _ _ _ _ (@Yn _ _ _ _ _ _ _ _ _ _ _ _ _ _ _ _ ZR Zr hr (@pv _ 1 _ _ (by rfl) (by first | exact .inl rfl | exact .inr (.inl rfl) | exact .inr (.inr rfl)) (by decide) (by decide)) (@Ya _ _ _ _ _ (@pv _ 0 _ _ (by rfl) (by first | exact .inl rfl | exact .inr (.inl rfl) | exact .inr (.inr rfl)) (by decide) (by decide)) Yc (by rfl)) (by omega) (by rfl) (by rfl) (by rfl) (by rfl)) (@Ym _ _ _ _ (@Yn _ _ _ _ _ _ _ _ _ _ _ _ _ _ _ _ ZM Zw hr (@pv _ 1 _ _ (by rfl) (by first | exact .inl rfl | exact .inr (.inl rfl) | exact .inr (.inr rfl)) (by decide) (by decide)) (@Ya _ _ _ _ _ (@pv _ 0 _ _ (by rfl) (by first | exact .inl rfl | exact .inr (.inl rfl) | exact .inr (.inr rfl)) (by decide) (by decide)) Yc (by rfl)) (by omega) (by rfl) (by rfl) (by rfl) (by rfl)) (@Ym _ _ _ _ (@Yn _ _ _ _ _ _ _ _ _ _ _ _ _ _ _ _ ZV ZD hr (@pv _ 1 _ _ (by rfl) (by first | exact .inl rfl | exact .inr (.inl rfl) | exact .inr (.inr rfl)) (by decide) (by decide)) (@Ya _ _ _ _ _ (@pv _ 0 _ _ (by rfl) (by first | exact .inl rfl | exact .inr (.inl rfl) | exact .inr (.inr rfl)) (by decide) (by decide)) Yc (by rfl)) (by omega) (by rfl) (by rfl) (by rfl) (by rfl)) (@Ym _ _ _ _ (@Yn _ _ _ _ _ _ _ _ _ _ _ _ _ _ _ _ ZQ Zj hr (@pv _ 1 _ _ (by rfl) (by first | exact .inl rfl | exact .inr (.inl rfl) | exact .inr (.inr rfl)) (by decide) (by decide)) (@Ya _ _ _ _ _ (@pv _ 0 _ _ (by rfl) (by first | exact .inl rfl | exact .inr (.inl rfl) | exact .inr (.inr rfl)) (by decide) (by decide)) Yc (by rfl)) (by omega) (by rfl) (by rfl) (by rfl) (by rfl)) (@Ym _ _ _ _ (@Yn _ _ _ _ _ _ _ _ _ _ _ _ _ _ _ _ ZT Zu hr (@pv _ 1 _ _ (by rfl) (by first | exact .inl rfl | exact .inr (.inl rfl) | exact .inr (.inr rfl)) (by decide) (by decide)) (@Ya _ _ _ _ _ (@pv _ 0 _ _ (by rfl) (by first | exact .inl rfl | exact .inr (.inl rfl) | exact .inr (.inr rfl)) (by decide) (by decide)) Yc (by rfl)) (by omega) (by rfl) (by rfl) (by rfl) (by rfl)) (@Ym _ _ _ _ (@Yn _ _ _ _ _ _ _ _ _ _ _ _ _ _ _ _ ZW Zt hr (@pv _ 1 _ _ (by rfl) (by first | exact .inl rfl | exact .inr (.inl rfl) | exact .inr (.inr rfl)) (by decide) (by decide)) (@Ya _ _ _ _ _ (@pv _ 0 _ _ (by rfl) (by first | exact .inl rfl | exact .inr (.inl rfl) | exact .inr (.inr rfl)) (by decide) (by decide)) Yc (by rfl)) (by omega) (by rfl) (by rfl) (by rfl) (by rfl)) (@Ym _ _ _ _ (@Yn _ _ _ _ _ _ _ _ _ _ _ _ _ _ _ _ ZS Zb hr (@pv _ 1 _ _ (by rfl) (by first | exact .inl rfl | exact .inr (.inl rfl) | exact .inr (.inr rfl)) (by decide) (by decide)) (@Ya _ _ _ _ _ (@pv _ 0 _ _ (by rfl) (by first | exact .inl rfl | exact .inr (.inl rfl) | exact .inr (.inr rfl)) (by decide) (by decide)) Yc (by rfl)) (by omega) (by rfl) (by rfl) (by rfl) (by rfl)) (@Yn _ _ _ _ _ _ _ _ _ _ _ _ _ _ _ _ ZN Zf hr (@pv _ 1 _ _ (by rfl) (by first | exact .inl rfl | exact .inr (.inl rfl) | exact .inr (.inr rfl)) (by decide) (by decide)) (@Ya _ _ _ _ _ (@pv _ 0 _ _ (by rfl) (by first | exact .inl rfl | exact .inr (.inl rfl) | exact .inr (.inr rfl)) (by decide) (by decide)) Yc (by rfl)) (by omega) (by rfl) (by rfl) (by rfl) (by rfl))))))))) (@Ya _ _ _ _ _ (@Yn _ _ _ _ _ _ _ _ _ _ _ _ _ _ _ _ Z1C ZL hr (@pv _ 2 _ _ (by rfl) (by first | exact .inl rfl | exact .inr (.inl rfl) | exact .inr (.inr rfl)) (by decide) (by decide)) (@Ya _ _ _ _ _ (@Yi _ _ _ _ _ _ _ _ YI (@pv _ 3 _ _ (by rfl) (by first | exact .inl rfl | exact .inr (.inl rfl) | exact .inr (.inr rfl)) (by decide) (by decide)) Yf) (@Ya _ _ _ _ _ (@Yi _ _ _ _ _ _ _ _ YD (@pv _ 4 _ _ (by rfl) (by first | exact .inl rfl | exact .inr (.inl rfl) | exact .inr (.inr rfl)) (by decide) (by decide)) (@pv _ 0 _ _ (by rfl) (by first | exact .inl rfl | exact .inr (.inl rfl) | exact .inr (.inr rfl)) (by decide) (by decide))) Yc (by rfl)) (by rfl)) (by omega) (by rfl) (by rfl) (by rfl) (by rfl)) Yc (by rfl)) (by rfl)))) (by intro x hx;simp at hx;first | (subst hx;exact .inl rfl) | (rcases hx with rfl | rfl<;>exact .inl rfl) | (rcases hx with rfl | rfl | rfl<;>exact .inl rfl) | (rcases hx with rfl | rfl | rfl | rfl<;>exact .inl rfl) | (rcases hx with rfl | rfl | rfl | rfl | rfl<;>exact .inl rfl)) (by rfl) (by decide) (by decide +kernel) (by intro _;rfl))))),?_⟩
 walk_at "rd"
 obtain ⟨P,dt,L,as,ws,dT,dP,dL,hP,hra,hpl,hTT,hLL,hwl,hws,hsm,hdp⟩:=Vb W hg hT
 have hpi:=(List.getElem?_eq_some_iff.mp hsh).1
 have hal:=hra.1
 have hai:as[pl]?=some (as[pl]'(by omega)):=List.getElem?_eq_getElem _
 generalize as[pl]'(by omega)=a at hai
 have hga:=hra.2 pl a sh hai hsh
 have hds:dep sh≤YQ ps:=W8 (List.mem_of_getElem? hsh)
 have hdr:dep (.row ps)=YQ ps+1:=by rw [dep]
 refine ⟨_,_,_,hTT,ZL,ZU,_,rfl,P,rfl,_,SqL.of hP,.ref a,Yy (by rw [List.getElem?_map,hai];rfl),?_⟩
 refine XI (n:=left+1) (fun D i zs H'=>∃ t',Tr (Cs.mk Z2 Z6 Z7 Z9 Z5 Z4 Z8 Z3 Z0 Z1) w t H t' H' left (YQ ps+1)∧zs.length=i∧H' D=some (.lst zs)∧¬ t'.U D∧∀ (j:Nat) x,zs[j]?=some x→∃ T,x = .ref T∧w.D T=none∧¬ t'.U T∧T≠D∧H' T=some (.tup [.int (cnt w.bk sh j),.int (Y9 w.bk (ps.drop (pl+1)) (left - j))])) (fun R r=>by walk_at "rd";exact r) (by omega) ?_ ?_ ?_ ?_
 ·intro D hD
  exact ⟨t,(Tr.refl W _ _).put hD (W.new hD).2 _,rfl,Ye,(W.new hD).2,fun j x hx=>by simp at hx⟩
 ·rintro D i zs H' ⟨t',_,h1,h2,_⟩
  exact ⟨h1,h2⟩
 ·rintro D i zs H' hD hi ⟨t',T1,hz,hd,hUD,hts⟩ R r
  have fm:fu w i (dep sh)+6≤fu w left (YQ ps+1):=WF (by omega) (by omega)
  have dD:w.D D=none:=(W.new hD).1
  walk_at "rd"
  refine X3 T1.wi hga (by omega) (by omega) ((T1.ready hR).mono (by omega)) fun t2 H2 T2 hn2=>?_
  have T12:=T1.trans (T2.mono (by omega))
  have own:=T12.own hg (by omega) hln
  have hd2:=T2.fr _ _ dD hd
  have hUD2:=T2.ours hUD hd
  refine ⟨_,_,T12.fr _ _ dT hTT,rfl,w,t2,p,T,ps,pl+1,left - i,by rw [show (left:Int) - (i:Int)=((left - i:Nat):Int) by omega];rfl,T2.wi,hg,T12.tb W hg hT,by omega,by omega,by omega,fun _=>⟨?_,few (by decide),fun X gX=>?_⟩,fun h=>?_⟩
  ·rw [own.2]
   have:=hms (pl+1) (by omega)
   omega
  ·have nXD:X≠D:=Ne.symm (Yk hd2 gX)
   have sX:=Yq.upd_new gX (.tup [.int (cnt w.bk sh i),.int (Y9 w.bk (ps.drop (pl+1)) (left - i))])
   refine r _ _ (sX _ _ hd2) ⟨t2,(T12.same sX).put hD hUD2 _,by rw [List.length_append,hz];rfl,Ye,hUD2,fun j x hx=>?_⟩
   by_cases c:j<zs.length
   ·rw [List.getElem?_append_left c] at hx
    obtain ⟨Y,rfl,y1,y2,y3,y4⟩:=hts j x hx
    exact ⟨Y,rfl,y1,T2.ours y2 y4,y3,by rw [Yd y3];exact sX _ _ (T2.fr _ _ y1 y4)⟩
   ·have hj:j=zs.length:=by
     have:=(List.getElem?_eq_some_iff.mp hx).1
     rw [List.length_append,List.length_singleton] at this
     omega
    subst hj
    rw [List.getElem?_append_right (Nat.le_refl _),Nat.sub_self] at hx
    have:V.ref X=x:=Option.some.inj hx
    subst this
    exact ⟨X,rfl,(T2.wi.new gX).1,(T2.wi.new gX).2,nXD,by rw [Yd nXD,Ye,hz]⟩
  ·have:=hms ps.length (by omega)
   rw [own.2] at h
   omega
 ·rintro D zs H' hD ⟨t',T1,hz,hd,hUD,hts⟩
  refine q D t' H' T1 hD hUD ⟨zs,hd,by rw [hz,List.length_map,List.length_range],fun j x y hx hy=>?_⟩
  obtain ⟨X,rfl,_,_,_,hX⟩:=hts j x hx
  have hj:=(List.getElem?_eq_some_iff.mp hx).1
  rw [List.getElem?_map,List.getElem?_range (by omega)] at hy
  have:=Option.some.inj hy
  subst this
  exact ⟨X,rfl,hX⟩
theorem Yc4 {xs:List V} {n:Nat} {x:V} (hl:xs.length=n+1) (h:xs[n]?=some x):atI xs (-1)=some x:=by
 have e:xs=xs.take n++[x]:=by rw [← WT h,List.take_of_length_le (by omega)]
 rw [e]
 exact Ycq _ _
theorem XF (P L:Addr):(W2 P L).lookup ("ways":Str)=some (.ref L):=by
 unfold W2
 rw [List.lookup_cons,show (("ways":Str)==("parts":Str))=false by decide +kernel,List.lookup_cons,show (("ways":Str)==("ways":Str))=true by decide +kernel]
theorem Uu (P L:Addr) {m:Str} (hm:isF m=false):(W2 P L).lookup m=none:=by
 obtain ⟨a1,a2,a3,a4,a5,a6,a7,a8,a9,a10,a11,a12,a13⟩:=QH hm
 unfold W2
 rw [List.lookup_cons,a5,List.lookup_cons,a7];rfl
theorem Ud {g:TG} {tb:TS} {D:Ends} {σ:St} {H:Hp} {ta:TA} {n:Nat} (Pv:Nat→St→Hp→Prop) (ha:∀ R:List V→Hp→Prop,R [.int ((n:Int) - 1),.int (-1),.int (-1)] H→ta σ H R) (hn:n<2^62) (h0:Pv 0 σ H)
  (hs:∀ i σ H,i<n→Pv i σ H→g (.int ((n - 1 - i:Nat):Int)) σ H fun σ2 H2=>tb { D with nx:=Pv (i+1),ct:=Pv (i+1),bk:=D.nx } σ2 H2) (hd:∀ σ H,Pv n σ H→D.nx σ H):Uj (Yc0 ta) g tb D σ H:=by
 refine ha _ ⟨(n:Int) - 1,-1,rfl,⟨by omega,by omega,by omega,by omega⟩,?_⟩
 have e:((n:Int) - 1 - (-1)).toNat=n:=by omega
 rw [e]
 refine ⟨fun i m σ H=>m=n - i∧i≤n∧Pv i σ H,⟨n,by simp,Nat.zero_le _,h0⟩,?_⟩
 rintro i m σ H ⟨rfl,hi,p⟩
 by_cases hlt:i<n
 ·refine .inr ⟨hlt,Pv (i+1),fun σ' H' p'=>⟨n - (i+1),by omega,rfl,hlt,p'⟩,fun x H' y=>?_⟩
  obtain ⟨e,y⟩:=y
  subst e y
  have:=hs i σ _ hlt p
  have e2:((n - 1 - i:Nat):Int)=(n:Int) - 1 - i:=by omega
  rw [e2] at this
  exact this
 ·have e:i=n:=by omega
  subst e
  exact .inl ⟨Nat.le_refl _,hd σ H p⟩
theorem Z2r {k:Nat} {Z3 Z0 Z1 Za Z5 Z4 Z7 Z9 Z6 Z8 Z2:Addr} (R:g.RawM Z9 "add_size" "RowTable.add_size" Z1o ["self","size"]) (Z1D:g.Fn k "ways_of" ["blocks"] (Z2q g.K)) (Z4o:g.Me k Z9 "blocks_at" ["self","place","left"] (Z2T (Cs.mk Z2 Z6 Z7 Z9 Z5 Z4 Z8 Z3 Z0 Z1) m)) (b_len:g.mg "len"=none) (ZP:g.mg "range"=none) (ZL:Cls g.K Z9) (ZU:Yb g.K Z9 "parts") (ZK:Yb g.K Z9 "ways"):g.Me (k+1) Z9 "add_size" ["self","size"] (Uc (Cs.mk Z2 Z6 Z7 Z9 Z5 Z4 Z8 Z3 Z0 Z1) (m+1)):=by
 refine R.me Z2n (fun vs H Q E h=>by obtain ⟨w,t,p,T,ps,sz,rfl,W,hg,hT,hms,hs,hsn,hf,hR,q⟩:=h;rfl) fun f_ cdv A outer s H vs Q E hr h=>?_
 obtain ⟨w,t,p,T,ps,sz,rfl,W,hg,hT,hms,hs,hsn,hf,hR,q⟩:=h
 refine ⟨_,(@Yh _ _ _ _ _ (@YS _ _ _ _ (@XN _ _ _ _ _ _ _ _ _ _ _ _ PySem.F.plainAttrs_list PySem.F.slot_list_append PySem.F.type_list_append Y5 (@YE _ _ _ _ _ _ _ YJ (@Yl _ _ _ _ _ (@pv _ 0 _ _ (by rfl) (by first | exact .inl rfl | exact .inr (.inl rfl) | exact .inr (.inr rfl)) (by decide) (by decide)) rfl) (@WC _ _ _ _ _ _ Wi Yf) (fun _ _=>rfl)) (@Ya _ _ _ _ _ (@WJ _ _ _ _ _ _ _ _ (@Yt _ _ _ _ _ _ _ _ Y4 (@pv _ 1 _ _ (by rfl) (by first | exact .inl rfl | exact .inr (.inl rfl) | exact .inr (.inr rfl)) (by decide) (by decide)) Yf (Yw _)) Yf Yf) Yc (by rfl)) (by rfl) (by rfl) (by rfl) (by rfl) (by rfl)) (by rfl)) (@Yg _ _ _ (@XR _ _ _ _ _ _ _ _ PassesOwn.never rfl (@UJ _ _ _ _ _ _ _ _ rfl ZP (@Ya _ _ _ _ _ (@Yi _ _ _ _ _ _ _ _ YD (@YT _ _ _ _ _ _ _ _ _ _ b_len Yu (@Ya _ _ _ _ _ (@Yl _ _ _ _ _ (@pv _ 0 _ _ (by rfl) (by first | exact .inl rfl | exact .inr (.inl rfl) | exact .inr (.inr rfl)) (by decide) (by decide)) rfl) Yc (by rfl)) (by decide +kernel) (by rfl) (by rfl) (by decide) (by decide) (by rfl) (by rfl)) Yf) (@Ya _ _ _ _ _ (@WC _ _ _ _ _ _ Wi Yf) (@Ya _ _ _ _ _ (@WC _ _ _ _ _ _ Wi Yf) Yc (by rfl)) (by rfl)) (by rfl)) (by rfl) (by rfl)) (@YF _ _ (2) _ Z2n.nd rfl (.inl rfl) (by first | exact .inl rfl | exact .inr rfl | assumption)) (@Yg _ _ _ (@YS _ _ _ _ (@XN _ _ _ _ _ _ _ _ _ _ _ _ PySem.F.plainAttrs_list PySem.F.slot_list_append PySem.F.type_list_append Y5 (@YE _ _ _ _ _ _ _ YJ (@Yl _ _ _ _ _ (@pv _ 0 _ _ (by rfl) (by first | exact .inl rfl | exact .inr (.inl rfl) | exact .inr (.inr rfl)) (by decide) (by decide)) rfl) (@pv _ 2 _ _ (by rfl) (by first | exact .inl rfl | exact .inr (.inl rfl) | exact .inr (.inr rfl)) (by decide) (by decide)) (fun _ _=>rfl)) (@Ya _ _ _ _ _ (@Yx _ _ _ _ _ _ _ _ _ _ _ _ Z1D hr (@Ya _ _ _ _ _ (@Yn _ _ _ _ _ _ _ _ _ _ _ _ _ _ _ _ Z4o ZL hr (@pv _ 0 _ _ (by rfl) (by first | exact .inl rfl | exact .inr (.inl rfl) | exact .inr (.inr rfl)) (by decide) (by decide)) (@Ya _ _ _ _ _ (@pv _ 2 _ _ (by rfl) (by first | exact .inl rfl | exact .inr (.inl rfl) | exact .inr (.inr rfl)) (by decide) (by decide)) (@Ya _ _ _ _ _ (@pv _ 1 _ _ (by rfl) (by first | exact .inl rfl | exact .inr (.inl rfl) | exact .inr (.inr rfl)) (by decide) (by decide)) Yc (by rfl)) (by rfl)) (by omega) (by rfl) (by rfl) (by rfl) (by rfl)) Yc (by rfl)) (by omega) (by rfl) (by rfl) (by decide) (by rfl) (by rfl)) Yc (by rfl)) (by rfl) (by rfl) (by rfl) (by rfl) (by rfl)) (by rfl))) (by intro _;rfl)))),?_⟩
 obtain ⟨P,dt,L,as,ws,dT,dP,dL,hP,hra,hpl,hTT,hLL,hwl,hws,hsm,hdp⟩:=Vb W hg hT
 have hwk:ws[ps.length]?=some (ws[ps.length]'(by omega)):=List.getElem?_eq_getElem _
 generalize ws[ps.length]'(by omega)=y at hwk
 obtain ⟨hDy,hny,hm60,hy⟩:=hws ps.length y hwk
 have hnn:t.ns p=sz:=by have:=hms ps.length;omega
 rw [hms] at hy
 have e0:Y9 w.bk (ps.drop ps.length) sz=if sz=0 then 1 else 0:=by rw [List.drop_length,QF]
 have hdr:dep (.row ps)=YQ ps+1:=by rw [dep]
 have hbr:bnd sz (YQ ps+1) (.row ps)≤t.ns p:=by rw [bnd,if_neg (by omega)];omega
 refine Up (fun σ H'=>σ=[some (.ref T),some (.int sz),none]∧H'=upd H y (.lst (YR (Y9 w.bk (ps.drop ps.length)) (sz+1)))) ?_ (fun N hN=>?_)
 rotate_left
 ·walk_at "rd"
  refine ⟨_,_,_,hTT,ZL,ZK,_,XF _ _,L,rfl,_,SqL.of hLL,.ref y,Yc4 (n:=ps.length) (by rw [List.length_map,hwl]) (by rw [List.getElem?_map,hwk];rfl),.inl ⟨rfl,_,SqL.of hy⟩,XB (fun c=>?_) (fun c=>?_)⟩
  ·refine ⟨y,rfl,_,hy,by rw [Yr];exact few (by omega),hN _ _ ⟨rfl,?_⟩⟩
   rw [Y2,e0,if_pos (by omega)]
  ·refine ⟨y,rfl,_,hy,by rw [Yr];exact few (by omega),hN _ _ ⟨rfl,?_⟩⟩
   rw [Y2,e0,if_neg (by omega)]
 rintro σ H1 ⟨rfl,rfl⟩
 have T0:TrB (Cs.mk Z2 Z6 Z7 Z9 Z5 Z4 Z8 Z3 Z0 Z1) w t H t H sz (YQ ps+2) p:=(Tr.refl W _ _).b rfl
 have T1:=T0.way hg hDy (hms _) (by omega) (fun j h1 h2=>by omega)
 walk_at "rd"
 refine Ud (n:=ps.length) (fun i σ H'=>∃ (t':Sw) (o:Option V),σ=[some (.ref T),some (.int sz),o]∧TrB (Cs.mk Z2 Z6 Z7 Z9 Z5 Z4 Z8 Z3 Z0 Z1) w t H t' H' sz (YQ ps+2) p∧(∀ j,ps.length - i≤j→t'.ms p j=sz+1)∧∀ j,j<ps.length - i→t'.ms p j=sz) (fun R r=>?_) (by omega) ⟨_,none,rfl,T1,fun j hj=>if_pos ⟨rfl,hj⟩,fun j hj=>(if_neg (fun z=>by omega)).trans (hms j)⟩ ?_ ?_
 ·walk_at "rd"
  refine ⟨_,_,_,T1.fr _ _ dT hTT,ZL,ZU,_,rfl,P,rfl,_,.inl (SqL.of (T1.fr _ _ dP hP)),?_⟩
  rw [List.length_map,hra.1]
  exact r
 ·rintro i σ H' hi ⟨t',o,rfl,T2,hge,hlt⟩
  obtain ⟨pl,hplq⟩:∃ pl,pl=ps.length - 1 - i:=⟨_,rfl⟩
  rw [← hplq]
  have hsh:ps[pl]?=some (ps[pl]'(by omega)):=List.getElem?_eq_getElem _
  generalize ps[pl]'(by omega)=sh at hsh
  have hwp:ws[pl]?=some (ws[pl]'(by omega)):=List.getElem?_eq_getElem _
  generalize ws[pl]'(by omega)=yy at hwp
  obtain ⟨hDyy,_,_,_⟩:=hws pl yy hwp
  have hT':Tb (Cs.mk Z2 Z6 Z7 Z9 Z5 Z4 Z8 Z3 Z0 Z1) H' p T:=by
   obtain ⟨dx,c,P',h⟩:=hT
   obtain ⟨_,_,_,hU,_⟩:=W.at_ p _ hg
   exact ⟨dx,c,P',T2.fr _ _ hU.1 h⟩
  obtain ⟨P2,dt2,L2,as2,ws2,_,_,_,_,_,_,_,_,hwl2,hws2,_,_⟩:=Vb T2.wi hg hT'
  have hwp2:ws2[pl]?=some (ws2[pl]'(by omega)):=List.getElem?_eq_getElem _
  obtain ⟨hD2,_,_,hy2⟩:=hws2 pl _ hwp2
  rw [T2.wi.inj _ _ _ hD2 hDyy] at hy2
  walk_at "rd"
  refine ⟨_,_,_,T2.fr _ _ dT hTT,ZL,ZK,_,XF _ _,L,rfl,_,SqL.of (T2.fr _ _ dL hLL),.ref yy,Yy (by rw [List.getElem?_map,hwp];rfl),.inl ⟨rfl,_,SqL.of hy2⟩,_,_,T2.fr _ _ dT hTT,Uu _ _ (by decide +kernel),?_⟩
  refine ⟨w,t',p,T,ps,pl,sz,sh,rfl,T2.wi,hg,hT',hsh,hs,by rw [T2.own];exact hsn,fun j hj=>by rw [hge j (by omega)];omega,by omega,T2.ready hg hbr hR,fun D t3 H3 T3 gD hUD hB=>?_⟩
  have own:=T3.own hg (by omega) (by rw [T2.own];exact hsn)
  have hlen:((List.range (sz+1)).map fun f=>(cnt w.bk sh f,Y9 w.bk (ps.drop (pl+1)) (sz - f))).length=sz+1:=by simp
  refine ⟨D,_,rfl,hB,by rw [hlen];omega,fun x hx=>?_,fun H4 s4=>?_⟩
  ·obtain ⟨f,hf',rfl⟩:=List.mem_map.mp hx
   have hf':=List.mem_range.mp hf'
   have hga:∃ a,w.reg a=some sh:=by
    have hai:as[pl]?=some (as[pl]'(by have:=hra.1;omega)):=List.getElem?_eq_getElem _
    exact ⟨_,hra.2 pl _ sh hai hsh⟩
   obtain ⟨a,hga⟩:=hga
   obtain ⟨_,_,_,_,_,hsma,_⟩:=W.at_ a sh hga
   exact ⟨hsma f (by omega),hsm _ _ (by omega)⟩
  have T4:=(T2.trans ((T3.mono (by omega)).b own.1)).same s4
  have T5:=T4.way (i:=pl) hg hDyy (by rw [own.2];exact hlt pl (by omega)) (by omega) (fun j h1 h2=>by rw [own.2];exact hge j (by omega))
  obtain ⟨P4,dt4,L4,as4,ws4,_,_,_,_,_,_,_,_,hwl4,hws4,_,_⟩:=Vb T3.wi hg (T3.tb T2.wi hg hT')
  have hwp4:ws4[pl]?=some (ws4[pl]'(by omega)):=List.getElem?_eq_getElem _
  obtain ⟨hD4,_,_,hy4⟩:=hws4 pl _ hwp4
  rw [T3.wi.inj _ _ _ hD4 hDyy,own.2,hlt pl (by omega)] at hy4
  have hy4:=s4 _ _ hy4
  refine ⟨yy,rfl,_,hy4,by rw [Yr];exact few (by omega),t3.setm p pl (sz+1),?_,fun j hj=>?_,fun j hj=>?_⟩
  ·have esum:(((List.range (sz+1)).map fun f=>(cnt w.bk sh f,Y9 w.bk (ps.drop (pl+1)) (sz - f))).map fun p=>p.1*p.2).sum=Y9 w.bk (ps.drop pl) sz:=by
    rw [List.drop_eq_getElem_cons (by omega:pl<ps.length),UM,List.map_map]
    have:ps[pl]'(by omega)=sh:=by
     have:=List.getElem?_eq_getElem (l:=ps) (i:=pl) (by omega)
     rw [this] at hsh
     exact Option.some.inj hsh
    rw [this]
    rfl
   rw [esum,← Y2]
   exact T5
  ·show (if p=p∧pl≤j then _ else _)=_
   rw [if_pos ⟨rfl,by omega⟩]
  ·show (if p=p∧pl≤j then _ else _)=_
   rw [if_neg (by omega),own.2]
   exact hlt j (by omega)
 ·rintro σ H' ⟨t',o,rfl,T2,hge,hlt⟩
  walk_at "rd"
  have hall:∀ i,t'.ms p i=sz+1:=fun i=>hge i (by omega)
  exact q t' H' (T2.to hg (by omega) (by omega) (fun i=>by rw [hall,hall])) T2.own hall
theorem Z2C {k:Nat} {Z3 Z0 Z1 Za Z5 Z4 Z7 Z9 Z6 Z8 Z2:Addr} (R:g.RawM Z9 "ways_at" "RowTable.ways_at" Z1A ["self","place","left"]) (Z4M:g.Me k Z9 "add_size" ["self","size"] (Uc (Cs.mk Z2 Z6 Z7 Z9 Z5 Z4 Z8 Z3 Z0 Z1) m)) (b_len:g.mg "len"=none) (ZL:Cls g.K Z9) (ZU:Yb g.K Z9 "parts") (ZK:Yb g.K Z9 "ways"):g.Me (k+1) Z9 "ways_at" ["self","place","left"] (Va (Cs.mk Z2 Z6 Z7 Z9 Z5 Z4 Z8 Z3 Z0 Z1) (m+1)):=by
 refine R.me Z4J (fun vs H Q E h=>by obtain ⟨w,t,p,T,ps,pl,left,rfl,W,hg,hT,hpl,hl,hm1,q1,q2⟩:=h;rfl) fun f_ cdv A outer s H vs Q E hr h=>?_
 obtain ⟨w,t,p,T,ps,pl,left,rfl,W,hg,hT,hpl,hl,hm1,q1,q2⟩:=h
 refine ⟨_,(@Yh _ _ _ _ _ (@XA _ _ _ _ _ _ PassesOwn.never (@Yt _ _ _ _ _ _ _ _ Wx (@YT _ _ _ _ _ _ _ _ _ _ b_len Yu (@Ya _ _ _ _ _ (@YE _ _ _ _ _ _ _ YJ (@Yl _ _ _ _ _ (@pv _ 0 _ _ (by rfl) (by first | exact .inl rfl | exact .inr (.inl rfl) | exact .inr (.inr rfl)) (by decide) (by decide)) rfl) (@WC _ _ _ _ _ _ Wi Yf) (fun _ _=>rfl)) Yc (by rfl)) (by decide +kernel) (by rfl) (by rfl) (by decide) (by decide) (by rfl) (by rfl)) (@pv _ 2 _ _ (by rfl) (by first | exact .inl rfl | exact .inr (.inl rfl) | exact .inr (.inr rfl)) (by decide) (by decide)) (Yw _)) (@Yg _ _ _ (@YS _ _ _ _ (@Yn _ _ _ _ _ _ _ _ _ _ _ _ _ _ _ _ Z4M ZL hr (@pv _ 0 _ _ (by rfl) (by first | exact .inl rfl | exact .inr (.inl rfl) | exact .inr (.inr rfl)) (by decide) (by decide)) (@Ya _ _ _ _ _ (@YT _ _ _ _ _ _ _ _ _ _ b_len Yu (@Ya _ _ _ _ _ (@YE _ _ _ _ _ _ _ YJ (@Yl _ _ _ _ _ (@pv _ 0 _ _ (by rfl) (by first | exact .inl rfl | exact .inr (.inl rfl) | exact .inr (.inr rfl)) (by decide) (by decide)) rfl) (@WC _ _ _ _ _ _ Wi Yf) (fun _ _=>rfl)) Yc (by rfl)) (by decide +kernel) (by rfl) (by rfl) (by decide) (by decide) (by rfl) (by rfl)) Yc (by rfl)) (by omega) (by rfl) (by rfl) (by rfl) (by rfl)) (by rfl)))) (@Yg _ _ _ (@Yo _ _ _ _ (@YE _ _ _ _ _ _ _ YJ (@YE _ _ _ _ _ _ _ YJ (@Yl _ _ _ _ _ (@pv _ 0 _ _ (by rfl) (by first | exact .inl rfl | exact .inr (.inl rfl) | exact .inr (.inr rfl)) (by decide) (by decide)) rfl) (@pv _ 1 _ _ (by rfl) (by first | exact .inl rfl | exact .inr (.inl rfl) | exact .inr (.inr rfl)) (by decide) (by decide)) (fun _ _=>rfl)) (@pv _ 2 _ _ (by rfl) (by first | exact .inl rfl | exact .inr (.inl rfl) | exact .inr (.inr rfl)) (by decide) (by decide)) (fun _ _=>rfl))))),?_⟩
 obtain ⟨P,dt,L,as,ws,dT,dP,dL,hP,hra,hpl',hTT,hLL,hwl,hws,hsm,hdp⟩:=Vb W hg hT
 have hwk:ws[ps.length]?=some (ws[ps.length]'(by omega)):=List.getElem?_eq_getElem _
 generalize ws[ps.length]'(by omega)=y at hwk
 obtain ⟨hDy,hny,hm60,hy⟩:=hws ps.length y hwk
 have hwp:ws[pl]?=some (ws[pl]'(by omega)):=List.getElem?_eq_getElem _
 generalize ws[pl]'(by omega)=yp at hwp
 obtain ⟨hDp,hnp,hmp,hyp⟩:=hws pl yp hwp
 have hm1':atI (ws.map V.ref) (-1)=some (.ref y):=Yc4 (n:=ps.length) (by rw [List.length_map,hwl]) (by rw [List.getElem?_map,hwk];rfl)
 have hmp':atI (ws.map V.ref) (pl:Int)=some (.ref yp):=Yy (by rw [List.getElem?_map,hwp];rfl)
 walk_at "rd"
 by_cases cs:left<t.ms p ps.length
 ·refine YV (α:=Unit) (fun x σ H'=>σ=[some (.ref T),some (.int pl),some (.int left)]∧H=H') (fun x=>false) (fun x=>0) () ⟨rfl,rfl⟩ ?_ ?_ ?_
  ·rintro x σ H' ⟨rfl,rfl⟩ R r
   walk_at "rd"
   refine ⟨_,_,_,hTT,ZL,ZK,_,XF _ _,L,rfl,_,SqL.of hLL,_,hm1',y,rfl,_,.inl (SqL.of hy),?_⟩
   rw [Yr,dle,decide_eq_false (by omega)]
   exact r H ⟨rfl,rfl⟩
  ·rintro x σ H' ⟨rfl,rfl⟩ hd
   cases hd
  ·rintro x σ H' ⟨rfl,rfl⟩ hd
   walk_at "rd"
   exact ⟨_,_,_,hTT,ZL,ZK,_,XF _ _,L,rfl,_,SqL.of hLL,_,hmp',yp,rfl,_,SqL.of hyp,_,YY _ (q1 cs).1,(q1 cs).2⟩
 ·obtain ⟨hU,hln,hf,hR,q⟩:=q2 (by omega)
  have hms:∀ i,t.ms p i=left:=fun i=>by have:=hU i;have:=hU ps.length;omega
  have T0:∀ (x:Sw) (H':Hp),Tr (Cs.mk Z2 Z6 Z7 Z9 Z5 Z4 Z8 Z3 Z0 Z1) w t H x H' left (YQ ps+2)→(∀ i,x.ms p i=left+1)→H' y=some (.lst (YR (Y9 w.bk (ps.drop ps.length)) (left+1)))∧H' yp=some (.lst (YR (Y9 w.bk (ps.drop pl)) (left+1))):=fun x H' T1 hx=>by
   obtain ⟨P2,dt2,L2,as2,ws2,_,_,_,_,_,_,_,_,hwl2,hws2,_,_⟩:=Vb T1.wi hg (T1.tb W hg hT)
   have h1:ws2[ps.length]?=some (ws2[ps.length]'(by omega)):=List.getElem?_eq_getElem _
   have h2:ws2[pl]?=some (ws2[pl]'(by omega)):=List.getElem?_eq_getElem _
   obtain ⟨k1,_,_,k4⟩:=hws2 _ _ h1
   obtain ⟨j1,_,_,j4⟩:=hws2 _ _ h2
   rw [T1.wi.inj _ _ _ k1 hDy,hx] at k4
   rw [T1.wi.inj _ _ _ j1 hDp,hx] at j4
   exact ⟨k4,j4⟩
  rw [hms] at hy
  refine YV (α:=Bool×Sw) (fun x σ H'=>σ=[some (.ref T),some (.int pl),some (.int left)]∧(x.1=false→x.2=t∧H'=H)∧(x.1=true→Tr (Cs.mk Z2 Z6 Z7 Z9 Z5 Z4 Z8 Z3 Z0 Z1) w t H x.2 H' left (YQ ps+2)∧x.2.ns p=t.ns p∧∀ i,x.2.ms p i=left+1)) (fun x => !x.1) (fun x=>if x.1 then 0 else 1) (false,t) ⟨rfl,fun _=>⟨rfl,rfl⟩,fun z=>by cases z⟩ ?_ ?_ ?_
  ·rintro ⟨b,x⟩ σ H' ⟨rfl,h1,h2⟩ R r
   have rr:=r H' ⟨rfl,h1,h2⟩
   walk_at "rd"
   cases b with
   | false =>
    obtain ⟨rfl,rfl⟩:=h1 rfl
    refine ⟨_,_,_,hTT,ZL,ZK,_,XF _ _,L,rfl,_,SqL.of hLL,_,hm1',y,rfl,_,.inl (SqL.of hy),?_⟩
    rw [Yr,dle,decide_eq_true (by omega)]
    exact rr
   | true =>
    obtain ⟨T1,_,hx⟩:=h2 rfl
    refine ⟨_,_,_,T1.fr _ _ dT hTT,ZL,ZK,_,XF _ _,L,rfl,_,SqL.of (T1.fr _ _ dL hLL),_,hm1',y,rfl,_,.inl (SqL.of (T0 x H' T1 hx).1),?_⟩
    rw [Yr,dle,decide_eq_false (by omega)]
    exact rr
  ·rintro ⟨b,x⟩ σ H' ⟨rfl,h1,h2⟩ hd
   cases b with
   | true=>cases hd
   | false =>
    obtain ⟨rfl,rfl⟩:=h1 rfl
    walk_at "rd"
    refine ⟨_,_,hTT,Uu _ _ (by decide +kernel),_,_,_,hTT,ZL,ZK,_,XF _ _,L,rfl,_,SqL.of hLL,_,hm1',y,rfl,_,.inl (SqL.of hy),?_⟩
    rw [Yr]
    exact ⟨w,x,p,T,ps,left,rfl,W,hg,hT,hms,hl,hln,by omega,hR,fun t' H' T1 hn hx=>⟨(true,t'),(fun z=>by cases z),fun _=>⟨T1,hn,hx⟩,Nat.zero_lt_one⟩⟩
  ·rintro ⟨b,x⟩ σ H' ⟨rfl,h1,h2⟩ hd
   cases b with
   | false=>cases hd
   | true =>
    obtain ⟨T1,hn,hx⟩:=h2 rfl
    walk_at "rd"
    exact ⟨_,_,_,T1.fr _ _ dT hTT,ZL,ZK,_,XF _ _,L,rfl,_,SqL.of (T1.fr _ _ dL hLL),_,hmp',yp,rfl,_,SqL.of (T0 x H' T1 hx).2,_,YY _ (by omega),q x H' T1 hn (fun i=>by rw [hx,hx]) (by rw [hx];omega)⟩
theorem YcD (c P T:Addr):(mf c (fR P T)).lookup ("table":Str)=some (.ref T):=by
 unfold mf fR
 rw [List.lookup_cons,show (("table":Str)==("counts":Str))=false by decide +kernel,List.lookup_cons,show (("table":Str)==("parts":Str))=false by decide +kernel,List.lookup_cons,show (("table":Str)==("table":Str))=true by decide +kernel]
theorem Z2s {k:Nat} {Z3 Z0 Z1 Za Z5 Z4 Z7 Z9 Z6 Z8 Z2:Addr} (R:g.RawM Z7 "reckoned" "RowMaker.reckoned" Z1q ["self","size"]) (Z1C:g.Me k Z9 "ways_at" ["self","place","left"] (Va (Cs.mk Z2 Z6 Z7 Z9 Z5 Z4 Z8 Z3 Z0 Z1) m)) (ZD:Cls g.K Z7) (Zo:Yb g.K Z7 "counts") (ZF:Yb g.K Z7 "parts") (ZC:Yb g.K Z7 "table") (ZL:Cls g.K Z9) (ZU:Yb g.K Z9 "parts") (ZK:Yb g.K Z9 "ways"):g.Me (k+1) Z7 "reckoned" ["self","size"] (YM (Cs.mk Z2 Z6 Z7 Z9 Z5 Z4 Z8 Z3 Z0 Z1) 2 (m+1)):=by
 refine R.me Z4g (fun vs H Q E h=>by obtain ⟨w,t,p,sh,sz,rfl,hk,W,hg,hn,hs,hf,hR,q⟩:=h;rfl) fun f_ cdv A outer s H vs Q E hr h=>?_
 obtain ⟨w,t,p,sh,sz,rfl,hk,W,hg,hn,hs,hf,hR,q⟩:=h
 refine ⟨_,(@Yg _ _ _ (@Yo _ _ _ _ (@Yn _ _ _ _ _ _ _ _ _ _ _ _ _ _ _ _ Z1C ZL hr (@Yl _ _ _ _ _ (@pv _ 0 _ _ (by rfl) (by first | exact .inl rfl | exact .inr (.inl rfl) | exact .inr (.inr rfl)) (by decide) (by decide)) rfl) (@Ya _ _ _ _ _ Yf (@Ya _ _ _ _ _ (@pv _ 1 _ _ (by rfl) (by first | exact .inl rfl | exact .inr (.inl rfl) | exact .inr (.inr rfl)) (by decide) (by decide)) Yc (by rfl)) (by rfl)) (by omega) (by rfl) (by rfl) (by rfl) (by rfl)))),?_⟩
 cases sh with
 | row ps =>
  obtain ⟨dx,c,fs,hU,hd,hsm,hns,hp,hDc,hc,hsub⟩:=W.at_ p _ hg
  obtain ⟨P,T,dt,L,as,ws,rfl,h2,h3,h4,h5,h6,h7,h8,h9,h10,h11,h12⟩:=hsub
  have hT:Tb (Cs.mk Z2 Z6 Z7 Z9 Z5 Z4 Z8 Z3 Z0 Z1) H p T:=⟨dx,c,P,hp⟩
  have hdr:dep (.row ps)=YQ ps+1:=by rw [dep]
  rw [hdr] at hf hR
  have hUni:Uni t p:=hR p _ hg (by rw [hn,bnd,if_pos (by omega)];omega)
  have hwk:ws[ps.length]?=some (ws[ps.length]'(by omega)):=List.getElem?_eq_getElem _
  obtain ⟨_,hnk,_,_⟩:=h11 _ _ hwk
  have hw0:ws[0]?=some (ws[0]'(by omega)):=List.getElem?_eq_getElem _
  obtain ⟨_,hn0,_,_⟩:=h11 _ _ hw0
  walk_at "rd"
  refine ⟨_,_,_,hp,ZD,ZC,_,YcD _ _ _,T,rfl,_,_,h8,Uu _ _ (by decide +kernel),w,t,p,T,ps,0,sz,rfl,W,hg,hT,by omega,hs,by omega,fun h=>⟨by rw [← hUni ps.length];exact h,?_⟩,fun h=>⟨hUni,by omega,by omega,hR.mono (by omega),fun t' H' T1 hn' hU' hl'=>?_⟩⟩
  ·have:=q t H (.refl W _ _) hn fun ps' z i=>by
    have:=Sh.row.inj z
    subst this
    rw [hUni i,← hUni ps.length];omega
   rw [Us] at this
   exact this
  ·have hful:∀ i,sz+1≤t'.ms p i:=fun i=>by
    rw [hU' i];exact hl'
   have:=q t' H' (by rw [hdr];exact T1) (by omega) fun ps' z i=>hful i
   rw [Us] at this
   exact this
 | _=>simp [kind] at hk
def Z2U (C:Cs) (l:Nat):Sp:=fun vs H Q _=>∃ (w:Wo) (t:Sw) (p:Addr) (sh:Sh) (left:Nat),vs=[.ref p,.int left]∧WI C w t H∧w.reg p=some (.many sh)∧left≤40∧left≤t.ns p∧fu w left (dep sh+1)+3≤l∧YZ w t left (dep sh+1) ∧
 ∀ D t' H',Tr C w t H t' H' left (dep sh+1)→H D=none→¬ t'.U D→Blk H' D ((List.range left).map fun f=>(cnt w.bk sh f,cnt w.bk (.many sh) (left - 1 - f)))→Q (.ref D) H'
def Z2V (C:Cs) (l:Nat):Sp:=fun vs H Q _=>∃ (w:Wo) (t:Sw) (p:Addr) (mk:List (List Nat)) (ps:List Sh) (sz:Nat),vs=[.ref p,.int sz]∧WI C w t H∧w.reg p=some (.pick mk ps)∧sz≤40∧sz≤t.ns p∧fu w sz (YQ ps+1)+3≤l∧YZ w t sz (YQ ps+1) ∧
 ∀ D t' H',Tr C w t H t' H' sz (YQ ps+1)→H D=none→¬ t'.U D→Blk H' D (ps.map fun sh=>(cnt w.bk sh sz,1))→Q (.ref D) H'
theorem Ybe {C:Cs} {vs:List V} {H:Hp} {Q:VK} {E:XK} (h:Z2U C 0 vs H Q E):False:=by
 obtain ⟨w,t,p,sh,left,_,_,_,_,_,h,_⟩:=h
 omega
theorem Ybf {C:Cs} {vs:List V} {H:Hp} {Q:VK} {E:XK} (h:Z2V C 0 vs H Q E):False:=by
 obtain ⟨w,t,p,mk,ps,sz,_,_,_,_,_,h,_⟩:=h
 omega
theorem Wa (c a:Addr):(mf c (fM a)).lookup ("part":Str)=some (.ref a):=by
 unfold mf fM
 rw [List.lookup_cons,show (("part":Str)==("counts":Str))=false by decide +kernel,List.lookup_cons,show (("part":Str)==("part":Str))=true by decide +kernel]
theorem Yb6 (c M P:Addr):(mf c (fP M P)).lookup ("parts":Str)=some (.ref P):=by
 unfold mf fP
 rw [List.lookup_cons,show (("parts":Str)==("counts":Str))=false by decide +kernel,List.lookup_cons,show (("parts":Str)==("marks":Str))=false by decide +kernel,List.lookup_cons,show (("parts":Str)==("parts":Str))=true by decide +kernel]
theorem XS (c:Addr) (a:V):(mf c (fU a)).lookup ("named":Str)=some a:=by
 unfold mf fU
 rw [List.lookup_cons,show (("named":Str)==("counts":Str))=false by decide +kernel,List.lookup_cons,show (("named":Str)==("named":Str))=true by decide +kernel]
theorem or8 {A0 A1 A2 A3 A4 A5 A6 A7 B0 B1 B2 B3 B4 B5 B6 B7:Prop} (f0:A0→B0) (f1:A1→B1) (f2:A2→B2) (f3:A3→B3) (f4:A4→B4) (f5:A5→B5) (f6:A6→B6) (f7:A7→B7) (h:A0∨A1∨A2∨A3∨A4∨A5∨A6∨A7):B0∨B1∨B2∨B3∨B4∨B5∨B6∨B7:=by
 rcases h with h | h | h | h | h | h | h | h
 ·exact .inl (f0 h)
 ·exact .inr (.inl (f1 h))
 ·exact .inr (.inr (.inl (f2 h)))
 ·exact .inr (.inr (.inr (.inl (f3 h))))
 ·exact .inr (.inr (.inr (.inr (.inl (f4 h)))))
 ·exact .inr (.inr (.inr (.inr (.inr (.inl (f5 h))))))
 ·exact .inr (.inr (.inr (.inr (.inr (.inr (.inl (f6 h)))))))
 ·exact .inr (.inr (.inr (.inr (.inr (.inr (.inr (f7 h)))))))
theorem Z1S {k:Nat} {Z3 Z0 Z1 Za Z5 Z4 Z7 Z9 Z6 Z8 Z2:Addr} (R:g.RawM Z5 "blocks_at" "ManyMaker.blocks_at" Z0U ["self","left"]) (ZR:g.Me k Z2 "count_at" ["self","size"] (Zs (Cs.mk Z2 Z6 Z7 Z9 Z5 Z4 Z8 Z3 Z0 Z1) 0 m)) (ZM:g.Me k Z6 "count_at" ["self","size"] (Zs (Cs.mk Z2 Z6 Z7 Z9 Z5 Z4 Z8 Z3 Z0 Z1) 1 m)) (ZV:g.Me k Z7 "count_at" ["self","size"] (Zs (Cs.mk Z2 Z6 Z7 Z9 Z5 Z4 Z8 Z3 Z0 Z1) 2 m)) (ZQ:g.Me k Z5 "count_at" ["self","size"] (Zs (Cs.mk Z2 Z6 Z7 Z9 Z5 Z4 Z8 Z3 Z0 Z1) 4 m)) (ZT:g.Me k Z4 "count_at" ["self","size"] (Zs (Cs.mk Z2 Z6 Z7 Z9 Z5 Z4 Z8 Z3 Z0 Z1) 3 m)) (ZW:g.Me k Z8 "count_at" ["self","size"] (Zs (Cs.mk Z2 Z6 Z7 Z9 Z5 Z4 Z8 Z3 Z0 Z1) 5 m)) (ZS:g.Me k Z3 "count_at" ["self","size"] (Zs (Cs.mk Z2 Z6 Z7 Z9 Z5 Z4 Z8 Z3 Z0 Z1) 6 m)) (ZN:g.Me k Z0 "count_at" ["self","size"] (Zs (Cs.mk Z2 Z6 Z7 Z9 Z5 Z4 Z8 Z3 Z0 Z1) 7 m)) (ZP:g.mg "range"=none) (Zb:Cls g.K Z3) (Zk:Yb g.K Z3 "counts") (Zq:Yb g.K Z3 "part") (Ze:Yb g.K Z3 "times") (Zf:Cls g.K Z0) (Zc:Yb g.K Z0 "counts") (Zv:Yb g.K Z0 "part") (Zn:Yb g.K Z0 "table") (Zj:Cls g.K Z5) (Zi:Yb g.K Z5 "counts") (Zm:Yb g.K Z5 "part") (Zu:Cls g.K Z4) (Zh:Yb g.K Z4 "counts") (ZA:Yb g.K Z4 "marks") (Zz:Yb g.K Z4 "parts") (ZD:Cls g.K Z7) (Zo:Yb g.K Z7 "counts") (ZF:Yb g.K Z7 "parts") (ZC:Yb g.K Z7 "table") (Zw:Cls g.K Z6) (Zg:Yb g.K Z6 "counts") (Zy:Yb g.K Z6 "signs") (Zt:Cls g.K Z8) (Zp:Yb g.K Z8 "counts") (Zl:Yb g.K Z8 "named") (Zr:Cls g.K Z2) (Zd:Yb g.K Z2 "counts") (ZE:Yb g.K Z2 "low") (Zx:Yb g.K Z2 "span"):g.Me (k+1) Z5 "blocks_at" ["self","left"] (Z2U (Cs.mk Z2 Z6 Z7 Z9 Z5 Z4 Z8 Z3 Z0 Z1) (m+1)):=by
 refine R.me Z3p (fun vs H Q E h=>by obtain ⟨w,t,p,sh,left,rfl,W,hg,hl,hln,hf,hR,q⟩:=h;rfl) fun f_ cdv A outer s H vs Q E hr h=>?_
 obtain ⟨w,t,p,sh,left,rfl,W,hg,hl,hln,hf,hR,q⟩:=h
 refine ⟨_,(@Yg _ _ _ (@Yo _ _ _ _ (@Wj _ _ _ _ _ _ _ ([none,some 0,some 1]) ((["first","self","left"]:List Str)) _ (YL 0) _ _ (.own (.cap (i:=0) rfl rfl (by first | exact .inl rfl | exact .inr rfl) (.cap (i:=1) rfl rfl (by first | exact .inl rfl | exact .inr rfl) .nil))) rfl (@Xd _ _ _ _ _ _ rfl ZP (@Ya _ _ _ _ _ (@pv _ 1 _ _ (by rfl) (by first | exact .inl rfl | exact .inr (.inl rfl) | exact .inr (.inr rfl)) (by decide) (by decide)) Yc (by rfl)) (by rfl)) (fun cl C s₀ H₀ fp pn=>(@YF _ _ (0) _ (show List.Nodup (["first","self","left"]:List Str) by decide +kernel) rfl (.inl rfl) (.inr rfl))) (fun cl C s₀ H₀ fp pn=>Xs) (fun cl C s₀ H₀ fp pn=>(@Xg _ _ _ _ _ (@Ya _ _ _ _ _ (@Ym _ _ _ _ (@Yn _ _ _ _ _ _ _ _ _ _ _ _ _ _ _ _ ZR Zr hr (@X4 _ _ _ _ _ (g.K) (@pv _ 1 _ _ (by rfl) (by first | exact .inl rfl | exact .inr (.inl rfl) | exact .inr (.inr rfl)) (by decide) (by decide)) rfl (by rfl)) (@Ya _ _ _ _ _ (@pv _ 0 _ _ (by rfl) (by first | exact .inl rfl | exact .inr (.inl rfl) | exact .inr (.inr rfl)) (by decide) (by decide)) Yc (by rfl)) (by omega) (by rfl) (by rfl) (by rfl) (by rfl)) (@Ym _ _ _ _ (@Yn _ _ _ _ _ _ _ _ _ _ _ _ _ _ _ _ ZM Zw hr (@X4 _ _ _ _ _ (g.K) (@pv _ 1 _ _ (by rfl) (by first | exact .inl rfl | exact .inr (.inl rfl) | exact .inr (.inr rfl)) (by decide) (by decide)) rfl (by rfl)) (@Ya _ _ _ _ _ (@pv _ 0 _ _ (by rfl) (by first | exact .inl rfl | exact .inr (.inl rfl) | exact .inr (.inr rfl)) (by decide) (by decide)) Yc (by rfl)) (by omega) (by rfl) (by rfl) (by rfl) (by rfl)) (@Ym _ _ _ _ (@Yn _ _ _ _ _ _ _ _ _ _ _ _ _ _ _ _ ZV ZD hr (@X4 _ _ _ _ _ (g.K) (@pv _ 1 _ _ (by rfl) (by first | exact .inl rfl | exact .inr (.inl rfl) | exact .inr (.inr rfl)) (by decide) (by decide)) rfl (by rfl)) (@Ya _ _ _ _ _ (@pv _ 0 _ _ (by rfl) (by first | exact .inl rfl | exact .inr (.inl rfl) | exact .inr (.inr rfl)) (by decide) (by decide)) Yc (by rfl)) (by omega) (by rfl) (by rfl) (by rfl) (by rfl)) (@Ym _ _ _ _ (@Yn _ _ _ _ _ _ _ _ _ _ _ _ _ _ _ _ ZQ Zj hr (@X4 _ _ _ _ _ (g.K) (@pv _ 1 _ _ (by rfl) (by first | exact .inl rfl | exact .inr (.inl rfl) | exact .inr (.inr rfl)) (by decide) (by decide)) rfl (by rfl)) (@Ya _ _ _ _ _ (@pv _ 0 _ _ (by rfl) (by first | exact .inl rfl | exact .inr (.inl rfl) | exact .inr (.inr rfl)) (by decide) (by decide)) Yc (by rfl)) (by omega) (by rfl) (by rfl) (by rfl) (by rfl)) (@Ym _ _ _ _ (@Yn _ _ _ _ _ _ _ _ _ _ _ _ _ _ _ _ ZT Zu hr (@X4 _ _ _ _ _ (g.K) (@pv _ 1 _ _ (by rfl) (by first | exact .inl rfl | exact .inr (.inl rfl) | exact .inr (.inr rfl)) (by decide) (by decide)) rfl (by rfl)) (@Ya _ _ _ _ _ (@pv _ 0 _ _ (by rfl) (by first | exact .inl rfl | exact .inr (.inl rfl) | exact .inr (.inr rfl)) (by decide) (by decide)) Yc (by rfl)) (by omega) (by rfl) (by rfl) (by rfl) (by rfl)) (@Ym _ _ _ _ (@Yn _ _ _ _ _ _ _ _ _ _ _ _ _ _ _ _ ZW Zt hr (@X4 _ _ _ _ _ (g.K) (@pv _ 1 _ _ (by rfl) (by first | exact .inl rfl | exact .inr (.inl rfl) | exact .inr (.inr rfl)) (by decide) (by decide)) rfl (by rfl)) (@Ya _ _ _ _ _ (@pv _ 0 _ _ (by rfl) (by first | exact .inl rfl | exact .inr (.inl rfl) | exact .inr (.inr rfl)) (by decide) (by decide)) Yc (by rfl)) (by omega) (by rfl) (by rfl) (by rfl) (by rfl)) (@Ym _ _ _ _ (@Yn _ _ _ _ _ _ _ _ _ _ _ _ _ _ _ _ ZS Zb hr (@X4 _ _ _ _ _ (g.K) (@pv _ 1 _ _ (by rfl) (by first | exact .inl rfl | exact .inr (.inl rfl) | exact .inr (.inr rfl)) (by decide) (by decide)) rfl (by rfl)) (@Ya _ _ _ _ _ (@pv _ 0 _ _ (by rfl) (by first | exact .inl rfl | exact .inr (.inl rfl) | exact .inr (.inr rfl)) (by decide) (by decide)) Yc (by rfl)) (by omega) (by rfl) (by rfl) (by rfl) (by rfl)) (@Yn _ _ _ _ _ _ _ _ _ _ _ _ _ _ _ _ ZN Zf hr (@X4 _ _ _ _ _ (g.K) (@pv _ 1 _ _ (by rfl) (by first | exact .inl rfl | exact .inr (.inl rfl) | exact .inr (.inr rfl)) (by decide) (by decide)) rfl (by rfl)) (@Ya _ _ _ _ _ (@pv _ 0 _ _ (by rfl) (by first | exact .inl rfl | exact .inr (.inl rfl) | exact .inr (.inr rfl)) (by decide) (by decide)) Yc (by rfl)) (by omega) (by rfl) (by rfl) (by rfl) (by rfl))))))))) (@Ya _ _ _ _ _ (@Yn _ _ _ _ _ _ _ _ _ _ _ _ _ _ _ _ ZQ Zj hr (@pv _ 1 _ _ (by rfl) (by first | exact .inl rfl | exact .inr (.inl rfl) | exact .inr (.inr rfl)) (by decide) (by decide)) (@Ya _ _ _ _ _ (@Yi _ _ _ _ _ _ _ _ YD (@Yi _ _ _ _ _ _ _ _ YD (@pv _ 2 _ _ (by rfl) (by first | exact .inl rfl | exact .inr (.inl rfl) | exact .inr (.inr rfl)) (by decide) (by decide)) Yf) (@pv _ 0 _ _ (by rfl) (by first | exact .inl rfl | exact .inr (.inl rfl) | exact .inr (.inr rfl)) (by decide) (by decide))) Yc (by rfl)) (by omega) (by rfl) (by rfl) (by rfl) (by rfl)) Yc (by rfl)) (by rfl)))) (by intro x hx;simp at hx;first | (subst hx;exact .inl rfl) | (rcases hx with rfl | rfl<;>exact .inl rfl) | (rcases hx with rfl | rfl | rfl<;>exact .inl rfl) | (rcases hx with rfl | rfl | rfl | rfl<;>exact .inl rfl) | (rcases hx with rfl | rfl | rfl | rfl | rfl<;>exact .inl rfl)) (by rfl) (by decide) (by decide +kernel) (by intro _;rfl)))),?_⟩
 walk_at "rd"
 obtain ⟨dx,c,fs,hU,hd,hsm,hns,hp,hDc,hc,hsub⟩:=W.at_ p _ hg
 have hno:=fun {m:Str} (h:isF m=false)=>Xy (c:=c) h hsub
 obtain ⟨a,rfl,hga⟩:=hsub
 have hdr:dep (.many sh)=dep sh+1:=by rw [dep]
 refine XI (n:=left) (fun D i zs H'=>∃ t',Tr (Cs.mk Z2 Z6 Z7 Z9 Z5 Z4 Z8 Z3 Z0 Z1) w t H t' H' left (dep sh+1)∧zs.length=i∧H' D=some (.lst zs)∧¬ t'.U D∧∀ (j:Nat) x,zs[j]?=some x→∃ T,x = .ref T∧w.D T=none∧¬ t'.U T∧T≠D∧H' T=some (.tup [.int (cnt w.bk sh j),.int (cnt w.bk (.many sh) (left - 1 - j))])) (fun R r=>by walk_at "rd";exact r) (by omega) ?_ ?_ ?_ ?_
 ·intro D hD
  exact ⟨t,(Tr.refl W _ _).put hD (W.new hD).2 _,rfl,Ye,(W.new hD).2,fun j x hx=>by simp at hx⟩
 ·rintro D i zs H' ⟨t',_,h1,h2,_⟩
  exact ⟨h1,h2⟩
 ·rintro D i zs H' hD hi ⟨t',T1,hz,hd',hUD,hts⟩ R r
  have fm:fu w i (dep sh)+6≤fu w left (dep sh+1):=WF (by omega) (by omega)
  have dD:w.D D=none:=(W.new hD).1
  walk_at "rd"
  refine or8 (fun h=>⟨_,_,_,T1.fr _ _ hU.1 hp,Zj,Zm,_,Wa _ _,a,rfl,h⟩) (fun h=>⟨_,_,_,T1.fr _ _ hU.1 hp,Zj,Zm,_,Wa _ _,a,rfl,h⟩) (fun h=>⟨_,_,_,T1.fr _ _ hU.1 hp,Zj,Zm,_,Wa _ _,a,rfl,h⟩) (fun h=>⟨_,_,_,T1.fr _ _ hU.1 hp,Zj,Zm,_,Wa _ _,a,rfl,h⟩) (fun h=>⟨_,_,_,T1.fr _ _ hU.1 hp,Zj,Zm,_,Wa _ _,a,rfl,h⟩) (fun h=>⟨_,_,_,T1.fr _ _ hU.1 hp,Zj,Zm,_,Wa _ _,a,rfl,h⟩) (fun h=>⟨_,_,_,T1.fr _ _ hU.1 hp,Zj,Zm,_,Wa _ _,a,rfl,h⟩) (fun h=>⟨_,_,_,T1.fr _ _ hU.1 hp,Zj,Zm,_,Wa _ _,a,rfl,h⟩) ?_
  refine X3 T1.wi hga (by omega) (by omega) ((T1.ready hR).mono (by omega)) fun t2 H2 T2 hn2=>?_
  have T12:=T1.trans (T2.mono (by omega))
  have own:=T12.own hg (by omega) hln
  have hd2:=T2.fr _ _ dD hd'
  have hUD2:=T2.ours hUD hd'
  refine ⟨_,_,T12.fr _ _ hU.1 hp,hno (by decide +kernel),w,t2,p,.many sh,left - 1 - i,by rw [show (left:Int) - 1 - (i:Int)=((left - 1 - i:Nat):Int) by omega],rfl,T2.wi,hg,by omega,by omega,fun _=>⟨few (by decide),fun X gX=>?_⟩,fun h=>by rw [own.1] at h;omega⟩
  have nXD:X≠D:=Ne.symm (Yk hd2 gX)
  have sX:=Yq.upd_new gX (.tup [.int (cnt w.bk sh i),.int (cnt w.bk (.many sh) (left - 1 - i))])
  refine r _ _ (sX _ _ hd2) ⟨t2,(T12.same sX).put hD hUD2 _,by rw [List.length_append,hz];rfl,Ye,hUD2,fun j x hx=>?_⟩
  by_cases c:j<zs.length
  ·rw [List.getElem?_append_left c] at hx
   obtain ⟨Y,rfl,y1,y2,y3,y4⟩:=hts j x hx
   exact ⟨Y,rfl,y1,T2.ours y2 y4,y3,by rw [Yd y3];exact sX _ _ (T2.fr _ _ y1 y4)⟩
  ·have hj:j=zs.length:=by
    have:=(List.getElem?_eq_some_iff.mp hx).1
    rw [List.length_append,List.length_singleton] at this
    omega
   subst hj
   rw [List.getElem?_append_right (Nat.le_refl _),Nat.sub_self] at hx
   have:V.ref X=x:=Option.some.inj hx
   subst this
   exact ⟨X,rfl,(T2.wi.new gX).1,(T2.wi.new gX).2,nXD,by rw [Yd nXD,Ye,hz]⟩
 ·rintro D zs H' hD ⟨t',T1,hz,hd',hUD,hts⟩
  refine q D t' H' T1 hD hUD ⟨zs,hd',by rw [hz,List.length_map,List.length_range],fun j x y hx hy=>?_⟩
  obtain ⟨X,rfl,_,_,_,hX⟩:=hts j x hx
  have hj:=(List.getElem?_eq_some_iff.mp hx).1
  rw [List.getElem?_map,List.getElem?_range (by omega)] at hy
  have:=Option.some.inj hy
  subst this
  exact ⟨X,rfl,hX⟩
theorem Z2f {k:Nat} {Z3 Z0 Z1 Za Z5 Z4 Z7 Z9 Z6 Z8 Z2:Addr} (R:g.RawM Z5 "reckoned" "ManyMaker.reckoned" Z1c ["self","size"]) (Z1D:g.Fn k "ways_of" ["blocks"] (Z2q g.K)) (Z3T:g.Me k Z5 "blocks_at" ["self","left"] (Z2U (Cs.mk Z2 Z6 Z7 Z9 Z5 Z4 Z8 Z3 Z0 Z1) m)) (Zj:Cls g.K Z5) (Zi:Yb g.K Z5 "counts") (Zm:Yb g.K Z5 "part"):g.Me (k+1) Z5 "reckoned" ["self","size"] (YM (Cs.mk Z2 Z6 Z7 Z9 Z5 Z4 Z8 Z3 Z0 Z1) 4 (m+1)):=by
 refine R.me Z3L (fun vs H Q E h=>by obtain ⟨w,t,p,sh,sz,rfl,hk,W,hg,hn,hs,hf,hR,q⟩:=h;rfl) fun f_ cdv A outer s H vs Q E hr h=>?_
 obtain ⟨w,t,p,sh,sz,rfl,hk,W,hg,hn,hs,hf,hR,q⟩:=h
 refine ⟨_,(@Yg _ _ _ (@Yo _ _ _ _ (@WJ _ _ _ _ _ _ _ _ (@Yt _ _ _ _ _ _ _ _ Y4 (@pv _ 1 _ _ (by rfl) (by first | exact .inl rfl | exact .inr (.inl rfl) | exact .inr (.inr rfl)) (by decide) (by decide)) Yf (Yw _)) Yf (@Yx _ _ _ _ _ _ _ _ _ _ _ _ Z1D hr (@Ya _ _ _ _ _ (@Yn _ _ _ _ _ _ _ _ _ _ _ _ _ _ _ _ Z3T Zj hr (@pv _ 0 _ _ (by rfl) (by first | exact .inl rfl | exact .inr (.inl rfl) | exact .inr (.inr rfl)) (by decide) (by decide)) (@Ya _ _ _ _ _ (@pv _ 1 _ _ (by rfl) (by first | exact .inl rfl | exact .inr (.inl rfl) | exact .inr (.inr rfl)) (by decide) (by decide)) Yc (by rfl)) (by omega) (by rfl) (by rfl) (by rfl) (by rfl)) Yc (by rfl)) (by omega) (by rfl) (by rfl) (by decide) (by rfl) (by rfl))))),?_⟩
 cases sh with
 | many sh =>
  obtain ⟨dx,c,fs,hU,hd,hsm,hns,hp,hDc,hc,hsub⟩:=W.at_ p _ hg
  have hno:=fun {m:Str} (h:isF m=false)=>Xy (c:=c) h hsub
  obtain ⟨a,rfl,hga⟩:=hsub
  have hdr:dep (.many sh)=dep sh+1:=by rw [dep]
  rw [hdr] at hf hR
  walk_at "rd"
  refine XB (fun c=>?_) (fun c=>?_)
  ·have e:sz=0:=by omega
   subst e
   have:=q t H (.refl W _ _) hn (fun ps z=>by cases z)
   rw [UL] at this
   exact this
  ·obtain ⟨j,rfl⟩:∃ j,sz=j+1:=⟨sz - 1,by omega⟩
   refine ⟨_,_,hp,hno (by decide +kernel),w,t,p,sh,j+1,rfl,W,hg,hs,by omega,by omega,hR.mono (by omega),fun D t' H' T1 gD hUD hB=>?_⟩
   have hlen:((List.range (j+1)).map fun f=>(cnt w.bk sh f,cnt w.bk (.many sh) (j+1 - 1 - f))).length=j+1:=by simp
   obtain ⟨_,_,_,_,_,hsma,_⟩:=W.at_ a sh hga
   refine ⟨D,_,rfl,hB,by rw [hlen];omega,fun x hx=>?_,fun H4 s4=>?_⟩
   ·obtain ⟨f,hf',rfl⟩:=List.mem_map.mp hx
    have hf':=List.mem_range.mp hf'
    exact ⟨hsma f (by omega),hsm _ (by omega)⟩
   ·have own:=T1.own hg (by omega) (by omega)
    have:=q t' H4 (by rw [hdr];exact (T1.mono (by omega)).same s4) (by omega) (fun ps z=>by cases z)
    rw [QD] at this
    rw [List.map_map]
    exact this
 | _=>simp [kind] at hk
theorem Z2t {k:Nat} {Z3 Z0 Z1 Za Z5 Z4 Z7 Z9 Z6 Z8 Z2:Addr} (R:g.RawM Z8 "reckoned" "UseMaker.reckoned" Z1s ["self","size"]) (ZR:g.Me k Z2 "count_at" ["self","size"] (Zs (Cs.mk Z2 Z6 Z7 Z9 Z5 Z4 Z8 Z3 Z0 Z1) 0 m)) (ZM:g.Me k Z6 "count_at" ["self","size"] (Zs (Cs.mk Z2 Z6 Z7 Z9 Z5 Z4 Z8 Z3 Z0 Z1) 1 m)) (ZV:g.Me k Z7 "count_at" ["self","size"] (Zs (Cs.mk Z2 Z6 Z7 Z9 Z5 Z4 Z8 Z3 Z0 Z1) 2 m)) (ZQ:g.Me k Z5 "count_at" ["self","size"] (Zs (Cs.mk Z2 Z6 Z7 Z9 Z5 Z4 Z8 Z3 Z0 Z1) 4 m)) (ZT:g.Me k Z4 "count_at" ["self","size"] (Zs (Cs.mk Z2 Z6 Z7 Z9 Z5 Z4 Z8 Z3 Z0 Z1) 3 m)) (ZW:g.Me k Z8 "count_at" ["self","size"] (Zs (Cs.mk Z2 Z6 Z7 Z9 Z5 Z4 Z8 Z3 Z0 Z1) 5 m)) (ZS:g.Me k Z3 "count_at" ["self","size"] (Zs (Cs.mk Z2 Z6 Z7 Z9 Z5 Z4 Z8 Z3 Z0 Z1) 6 m)) (ZN:g.Me k Z0 "count_at" ["self","size"] (Zs (Cs.mk Z2 Z6 Z7 Z9 Z5 Z4 Z8 Z3 Z0 Z1) 7 m)) (Zb:Cls g.K Z3) (Zk:Yb g.K Z3 "counts") (Zq:Yb g.K Z3 "part") (Ze:Yb g.K Z3 "times") (Zf:Cls g.K Z0) (Zc:Yb g.K Z0 "counts") (Zv:Yb g.K Z0 "part") (Zn:Yb g.K Z0 "table") (Zj:Cls g.K Z5) (Zi:Yb g.K Z5 "counts") (Zm:Yb g.K Z5 "part") (Zu:Cls g.K Z4) (Zh:Yb g.K Z4 "counts") (ZA:Yb g.K Z4 "marks") (Zz:Yb g.K Z4 "parts") (ZD:Cls g.K Z7) (Zo:Yb g.K Z7 "counts") (ZF:Yb g.K Z7 "parts") (ZC:Yb g.K Z7 "table") (Zw:Cls g.K Z6) (Zg:Yb g.K Z6 "counts") (Zy:Yb g.K Z6 "signs") (Zt:Cls g.K Z8) (Zp:Yb g.K Z8 "counts") (Zl:Yb g.K Z8 "named") (Zr:Cls g.K Z2) (Zd:Yb g.K Z2 "counts") (ZE:Yb g.K Z2 "low") (Zx:Yb g.K Z2 "span"):g.Me (k+1) Z8 "reckoned" ["self","size"] (YM (Cs.mk Z2 Z6 Z7 Z9 Z5 Z4 Z8 Z3 Z0 Z1) 5 (m+1)):=by
 refine R.me Z4i (fun vs H Q E h=>by obtain ⟨w,t,p,sh,sz,rfl,hk,W,hg,hn,hs,hf,hR,q⟩:=h;rfl) fun f_ cdv A outer s H vs Q E hr h=>?_
 obtain ⟨w,t,p,sh,sz,rfl,hk,W,hg,hn,hs,hf,hR,q⟩:=h
 refine ⟨_,(@Yg _ _ _ (@Yo _ _ _ _ (@WJ _ _ _ _ _ _ _ _ (@Yt _ _ _ _ _ _ _ _ Y4 (@pv _ 1 _ _ (by rfl) (by first | exact .inl rfl | exact .inr (.inl rfl) | exact .inr (.inr rfl)) (by decide) (by decide)) Yf (Yw _)) Yf (@Ym _ _ _ _ (@Yn _ _ _ _ _ _ _ _ _ _ _ _ _ _ _ _ ZR Zr hr (@Yl _ _ _ _ _ (@pv _ 0 _ _ (by rfl) (by first | exact .inl rfl | exact .inr (.inl rfl) | exact .inr (.inr rfl)) (by decide) (by decide)) rfl) (@Ya _ _ _ _ _ (@Yi _ _ _ _ _ _ _ _ YD (@pv _ 1 _ _ (by rfl) (by first | exact .inl rfl | exact .inr (.inl rfl) | exact .inr (.inr rfl)) (by decide) (by decide)) Yf) Yc (by rfl)) (by omega) (by rfl) (by rfl) (by rfl) (by rfl)) (@Ym _ _ _ _ (@Yn _ _ _ _ _ _ _ _ _ _ _ _ _ _ _ _ ZM Zw hr (@Yl _ _ _ _ _ (@pv _ 0 _ _ (by rfl) (by first | exact .inl rfl | exact .inr (.inl rfl) | exact .inr (.inr rfl)) (by decide) (by decide)) rfl) (@Ya _ _ _ _ _ (@Yi _ _ _ _ _ _ _ _ YD (@pv _ 1 _ _ (by rfl) (by first | exact .inl rfl | exact .inr (.inl rfl) | exact .inr (.inr rfl)) (by decide) (by decide)) Yf) Yc (by rfl)) (by omega) (by rfl) (by rfl) (by rfl) (by rfl)) (@Ym _ _ _ _ (@Yn _ _ _ _ _ _ _ _ _ _ _ _ _ _ _ _ ZV ZD hr (@Yl _ _ _ _ _ (@pv _ 0 _ _ (by rfl) (by first | exact .inl rfl | exact .inr (.inl rfl) | exact .inr (.inr rfl)) (by decide) (by decide)) rfl) (@Ya _ _ _ _ _ (@Yi _ _ _ _ _ _ _ _ YD (@pv _ 1 _ _ (by rfl) (by first | exact .inl rfl | exact .inr (.inl rfl) | exact .inr (.inr rfl)) (by decide) (by decide)) Yf) Yc (by rfl)) (by omega) (by rfl) (by rfl) (by rfl) (by rfl)) (@Ym _ _ _ _ (@Yn _ _ _ _ _ _ _ _ _ _ _ _ _ _ _ _ ZQ Zj hr (@Yl _ _ _ _ _ (@pv _ 0 _ _ (by rfl) (by first | exact .inl rfl | exact .inr (.inl rfl) | exact .inr (.inr rfl)) (by decide) (by decide)) rfl) (@Ya _ _ _ _ _ (@Yi _ _ _ _ _ _ _ _ YD (@pv _ 1 _ _ (by rfl) (by first | exact .inl rfl | exact .inr (.inl rfl) | exact .inr (.inr rfl)) (by decide) (by decide)) Yf) Yc (by rfl)) (by omega) (by rfl) (by rfl) (by rfl) (by rfl)) (@Ym _ _ _ _ (@Yn _ _ _ _ _ _ _ _ _ _ _ _ _ _ _ _ ZT Zu hr (@Yl _ _ _ _ _ (@pv _ 0 _ _ (by rfl) (by first | exact .inl rfl | exact .inr (.inl rfl) | exact .inr (.inr rfl)) (by decide) (by decide)) rfl) (@Ya _ _ _ _ _ (@Yi _ _ _ _ _ _ _ _ YD (@pv _ 1 _ _ (by rfl) (by first | exact .inl rfl | exact .inr (.inl rfl) | exact .inr (.inr rfl)) (by decide) (by decide)) Yf) Yc (by rfl)) (by omega) (by rfl) (by rfl) (by rfl) (by rfl)) (@Ym _ _ _ _ (@Yn _ _ _ _ _ _ _ _ _ _ _ _ _ _ _ _ ZW Zt hr (@Yl _ _ _ _ _ (@pv _ 0 _ _ (by rfl) (by first | exact .inl rfl | exact .inr (.inl rfl) | exact .inr (.inr rfl)) (by decide) (by decide)) rfl) (@Ya _ _ _ _ _ (@Yi _ _ _ _ _ _ _ _ YD (@pv _ 1 _ _ (by rfl) (by first | exact .inl rfl | exact .inr (.inl rfl) | exact .inr (.inr rfl)) (by decide) (by decide)) Yf) Yc (by rfl)) (by omega) (by rfl) (by rfl) (by rfl) (by rfl)) (@Ym _ _ _ _ (@Yn _ _ _ _ _ _ _ _ _ _ _ _ _ _ _ _ ZS Zb hr (@Yl _ _ _ _ _ (@pv _ 0 _ _ (by rfl) (by first | exact .inl rfl | exact .inr (.inl rfl) | exact .inr (.inr rfl)) (by decide) (by decide)) rfl) (@Ya _ _ _ _ _ (@Yi _ _ _ _ _ _ _ _ YD (@pv _ 1 _ _ (by rfl) (by first | exact .inl rfl | exact .inr (.inl rfl) | exact .inr (.inr rfl)) (by decide) (by decide)) Yf) Yc (by rfl)) (by omega) (by rfl) (by rfl) (by rfl) (by rfl)) (@Yn _ _ _ _ _ _ _ _ _ _ _ _ _ _ _ _ ZN Zf hr (@Yl _ _ _ _ _ (@pv _ 0 _ _ (by rfl) (by first | exact .inl rfl | exact .inr (.inl rfl) | exact .inr (.inr rfl)) (by decide) (by decide)) rfl) (@Ya _ _ _ _ _ (@Yi _ _ _ _ _ _ _ _ YD (@pv _ 1 _ _ (by rfl) (by first | exact .inl rfl | exact .inr (.inl rfl) | exact .inr (.inr rfl)) (by decide) (by decide)) Yf) Yc (by rfl)) (by omega) (by rfl) (by rfl) (by rfl) (by rfl)))))))))))),?_⟩
 cases sh with
 | use x =>
  obtain ⟨dx,c,fs,hU,hd,hsm,hns,hp,hDc,hc,hsub⟩:=W.at_ p _ hg
  obtain ⟨a,rfl,hga,hb0⟩:=hsub
  have hdr:dep (.use x)=0:=by simp [dep]
  rw [hdr] at hf hR
  walk_at "rd"
  refine XB (fun c=>?_) (fun c=>?_)
  ·have e:sz=0:=by omega
   subst e
   have:=q t H (.refl W _ _) hn (fun ps z=>by cases z)
   rw [QE] at this
   exact this
  ·obtain ⟨j,rfl⟩:∃ j,sz=j+1:=⟨sz - 1,by omega⟩
   obtain ⟨_,_,_,_,hda,_⟩:=W.at_ a _ hga
   have fm:fu w j (dep (w.bk x))+6≤fu w (j+1) 0:=WF hda (by omega)
   rw [show ((j+1:Nat):Int) - 1=(j:Int) by omega]
   refine or8 (fun h=>⟨_,_,_,hp,Zt,Zl,_,XS _ _,a,rfl,h⟩) (fun h=>⟨_,_,_,hp,Zt,Zl,_,XS _ _,a,rfl,h⟩) (fun h=>⟨_,_,_,hp,Zt,Zl,_,XS _ _,a,rfl,h⟩) (fun h=>⟨_,_,_,hp,Zt,Zl,_,XS _ _,a,rfl,h⟩) (fun h=>⟨_,_,_,hp,Zt,Zl,_,XS _ _,a,rfl,h⟩) (fun h=>⟨_,_,_,hp,Zt,Zl,_,XS _ _,a,rfl,h⟩) (fun h=>⟨_,_,_,hp,Zt,Zl,_,XS _ _,a,rfl,h⟩) (fun h=>⟨_,_,_,hp,Zt,Zl,_,XS _ _,a,rfl,h⟩) ?_
   refine X3 W hga (by omega) (by omega) (hR.mono (by omega)) fun t2 H2 T2 hn2=>?_
   have T3:Tr (Cs.mk Z2 Z6 Z7 Z9 Z5 Z4 Z8 Z3 Z0 Z1) w t H t2 H2 (j+1) 0:=T2.mono (by omega)
   have own:=T3.own hg (by omega) (by omega)
   have:=q t2 H2 (T3.mono (by omega)) (by omega) (fun ps z=>by cases z)
   rw [Yau] at this
   exact this
 | _=>simp [kind] at hk
theorem Z1T {k:Nat} {Z3 Z0 Z1 Za Z5 Z4 Z7 Z9 Z6 Z8 Z2:Addr} (R:g.RawM Z4 "blocks_at" "PickMaker.blocks_at" Z0V ["self","size"]) (ZR:g.Me k Z2 "count_at" ["self","size"] (Zs (Cs.mk Z2 Z6 Z7 Z9 Z5 Z4 Z8 Z3 Z0 Z1) 0 m)) (ZM:g.Me k Z6 "count_at" ["self","size"] (Zs (Cs.mk Z2 Z6 Z7 Z9 Z5 Z4 Z8 Z3 Z0 Z1) 1 m)) (ZV:g.Me k Z7 "count_at" ["self","size"] (Zs (Cs.mk Z2 Z6 Z7 Z9 Z5 Z4 Z8 Z3 Z0 Z1) 2 m)) (ZQ:g.Me k Z5 "count_at" ["self","size"] (Zs (Cs.mk Z2 Z6 Z7 Z9 Z5 Z4 Z8 Z3 Z0 Z1) 4 m)) (ZT:g.Me k Z4 "count_at" ["self","size"] (Zs (Cs.mk Z2 Z6 Z7 Z9 Z5 Z4 Z8 Z3 Z0 Z1) 3 m)) (ZW:g.Me k Z8 "count_at" ["self","size"] (Zs (Cs.mk Z2 Z6 Z7 Z9 Z5 Z4 Z8 Z3 Z0 Z1) 5 m)) (ZS:g.Me k Z3 "count_at" ["self","size"] (Zs (Cs.mk Z2 Z6 Z7 Z9 Z5 Z4 Z8 Z3 Z0 Z1) 6 m)) (ZN:g.Me k Z0 "count_at" ["self","size"] (Zs (Cs.mk Z2 Z6 Z7 Z9 Z5 Z4 Z8 Z3 Z0 Z1) 7 m)) (Zb:Cls g.K Z3) (Zk:Yb g.K Z3 "counts") (Zq:Yb g.K Z3 "part") (Ze:Yb g.K Z3 "times") (Zf:Cls g.K Z0) (Zc:Yb g.K Z0 "counts") (Zv:Yb g.K Z0 "part") (Zn:Yb g.K Z0 "table") (Zj:Cls g.K Z5) (Zi:Yb g.K Z5 "counts") (Zm:Yb g.K Z5 "part") (Zu:Cls g.K Z4) (Zh:Yb g.K Z4 "counts") (ZA:Yb g.K Z4 "marks") (Zz:Yb g.K Z4 "parts") (ZD:Cls g.K Z7) (Zo:Yb g.K Z7 "counts") (ZF:Yb g.K Z7 "parts") (ZC:Yb g.K Z7 "table") (Zw:Cls g.K Z6) (Zg:Yb g.K Z6 "counts") (Zy:Yb g.K Z6 "signs") (Zt:Cls g.K Z8) (Zp:Yb g.K Z8 "counts") (Zl:Yb g.K Z8 "named") (Zr:Cls g.K Z2) (Zd:Yb g.K Z2 "counts") (ZE:Yb g.K Z2 "low") (Zx:Yb g.K Z2 "span"):g.Me (k+1) Z4 "blocks_at" ["self","size"] (Z2V (Cs.mk Z2 Z6 Z7 Z9 Z5 Z4 Z8 Z3 Z0 Z1) (m+1)):=by
 refine R.me Z3q (fun vs H Q E h=>by obtain ⟨w,t,p,mk,ps,sz,rfl,W,hg,hs,hsn,hf,hR,q⟩:=h;rfl) fun f_ cdv A outer s H vs Q E hr h=>?_
 obtain ⟨w,t,p,mk,ps,sz,rfl,W,hg,hs,hsn,hf,hR,q⟩:=h
 refine ⟨_,(@Yg _ _ _ (@Yo _ _ _ _ (@Wj _ _ _ _ _ _ _ ([none,some 1]) ((["part","size"]:List Str)) _ (YL 0) _ _ (.own (.cap (i:=1) rfl rfl (by first | exact .inl rfl | exact .inr rfl) .nil)) rfl (@W4 _ _ _ _ (@Yl _ _ _ _ _ (@pv _ 0 _ _ (by rfl) (by first | exact .inl rfl | exact .inr (.inl rfl) | exact .inr (.inr rfl)) (by decide) (by decide)) rfl)) (fun cl C s₀ H₀ fp pn=>(@YF _ _ (0) _ (show List.Nodup (["part","size"]:List Str) by decide +kernel) rfl (.inl rfl) (.inr rfl))) (fun cl C s₀ H₀ fp pn=>Xs) (fun cl C s₀ H₀ fp pn=>(@Xg _ _ _ _ _ (@Ya _ _ _ _ _ (@Ym _ _ _ _ (@Yn _ _ _ _ _ _ _ _ _ _ _ _ _ _ _ _ ZR Zr hr (@pv _ 0 _ _ (by rfl) (by first | exact .inl rfl | exact .inr (.inl rfl) | exact .inr (.inr rfl)) (by decide) (by decide)) (@Ya _ _ _ _ _ (@pv _ 1 _ _ (by rfl) (by first | exact .inl rfl | exact .inr (.inl rfl) | exact .inr (.inr rfl)) (by decide) (by decide)) Yc (by rfl)) (by omega) (by rfl) (by rfl) (by rfl) (by rfl)) (@Ym _ _ _ _ (@Yn _ _ _ _ _ _ _ _ _ _ _ _ _ _ _ _ ZM Zw hr (@pv _ 0 _ _ (by rfl) (by first | exact .inl rfl | exact .inr (.inl rfl) | exact .inr (.inr rfl)) (by decide) (by decide)) (@Ya _ _ _ _ _ (@pv _ 1 _ _ (by rfl) (by first | exact .inl rfl | exact .inr (.inl rfl) | exact .inr (.inr rfl)) (by decide) (by decide)) Yc (by rfl)) (by omega) (by rfl) (by rfl) (by rfl) (by rfl)) (@Ym _ _ _ _ (@Yn _ _ _ _ _ _ _ _ _ _ _ _ _ _ _ _ ZV ZD hr (@pv _ 0 _ _ (by rfl) (by first | exact .inl rfl | exact .inr (.inl rfl) | exact .inr (.inr rfl)) (by decide) (by decide)) (@Ya _ _ _ _ _ (@pv _ 1 _ _ (by rfl) (by first | exact .inl rfl | exact .inr (.inl rfl) | exact .inr (.inr rfl)) (by decide) (by decide)) Yc (by rfl)) (by omega) (by rfl) (by rfl) (by rfl) (by rfl)) (@Ym _ _ _ _ (@Yn _ _ _ _ _ _ _ _ _ _ _ _ _ _ _ _ ZQ Zj hr (@pv _ 0 _ _ (by rfl) (by first | exact .inl rfl | exact .inr (.inl rfl) | exact .inr (.inr rfl)) (by decide) (by decide)) (@Ya _ _ _ _ _ (@pv _ 1 _ _ (by rfl) (by first | exact .inl rfl | exact .inr (.inl rfl) | exact .inr (.inr rfl)) (by decide) (by decide)) Yc (by rfl)) (by omega) (by rfl) (by rfl) (by rfl) (by rfl)) (@Ym _ _ _ _ (@Yn _ _ _ _ _ _ _ _ _ _ _ _ _ _ _ _ ZT Zu hr (@pv _ 0 _ _ (by rfl) (by first | exact .inl rfl | exact .inr (.inl rfl) | exact .inr (.inr rfl)) (by decide) (by decide)) (@Ya _ _ _ _ _ (@pv _ 1 _ _ (by rfl) (by first | exact .inl rfl | exact .inr (.inl rfl) | exact .inr (.inr rfl)) (by decide) (by decide)) Yc (by rfl)) (by omega) (by rfl) (by rfl) (by rfl) (by rfl)) (@Ym _ _ _ _ (@Yn _ _ _ _ _ _ _ _ _ _ _ _ _ _ _ _ ZW Zt hr (@pv _ 0 _ _ (by rfl) (by first | exact .inl rfl | exact .inr (.inl rfl) | exact .inr (.inr rfl)) (by decide) (by decide)) (@Ya _ _ _ _ _ (@pv _ 1 _ _ (by rfl) (by first | exact .inl rfl | exact .inr (.inl rfl) | exact .inr (.inr rfl)) (by decide) (by decide)) Yc (by rfl)) (by omega) (by rfl) (by rfl) (by rfl) (by rfl)) (@Ym _ _ _ _ (@Yn _ _ _ _ _ _ _ _ _ _ _ _ _ _ _ _ ZS Zb hr (@pv _ 0 _ _ (by rfl) (by first | exact .inl rfl | exact .inr (.inl rfl) | exact .inr (.inr rfl)) (by decide) (by decide)) (@Ya _ _ _ _ _ (@pv _ 1 _ _ (by rfl) (by first | exact .inl rfl | exact .inr (.inl rfl) | exact .inr (.inr rfl)) (by decide) (by decide)) Yc (by rfl)) (by omega) (by rfl) (by rfl) (by rfl) (by rfl)) (@Yn _ _ _ _ _ _ _ _ _ _ _ _ _ _ _ _ ZN Zf hr (@pv _ 0 _ _ (by rfl) (by first | exact .inl rfl | exact .inr (.inl rfl) | exact .inr (.inr rfl)) (by decide) (by decide)) (@Ya _ _ _ _ _ (@pv _ 1 _ _ (by rfl) (by first | exact .inl rfl | exact .inr (.inl rfl) | exact .inr (.inr rfl)) (by decide) (by decide)) Yc (by rfl)) (by omega) (by rfl) (by rfl) (by rfl) (by rfl))))))))) (@Ya _ _ _ _ _ Yf Yc (by rfl)) (by rfl)))) (by intro x hx;simp at hx;first | (subst hx;exact .inl rfl) | (rcases hx with rfl | rfl<;>exact .inl rfl) | (rcases hx with rfl | rfl | rfl<;>exact .inl rfl) | (rcases hx with rfl | rfl | rfl | rfl<;>exact .inl rfl) | (rcases hx with rfl | rfl | rfl | rfl | rfl<;>exact .inl rfl)) (by rfl) (by decide) (by decide +kernel) (by intro _;rfl)))),?_⟩
 walk_at "rd"
 obtain ⟨dx,c,fs,hU,hd,hsm,hns,hp,hDc,hc,hsub⟩:=W.at_ p _ hg
 obtain ⟨M,P,as,rfl,h2,h3,h4,h5,h6,h7⟩:=hsub
 have hdr:dep (.pick mk ps)=YQ ps+1:=by rw [dep]
 have hal:=h6.1
 refine Yb2 (K:=g.K) (b:=P) (xs:=as.map V.ref) (fun D i zs H'=>∃ t',Tr (Cs.mk Z2 Z6 Z7 Z9 Z5 Z4 Z8 Z3 Z0 Z1) w t H t' H' sz (YQ ps+1)∧zs.length=i∧H' D=some (.lst zs)∧¬ t'.U D∧∀ (j:Nat) x q,zs[j]?=some x→ps[j]?=some q→∃ T,x = .ref T∧w.D T=none∧¬ t'.U T∧T≠D∧H' T=some (.tup [.int (cnt w.bk q sz),.int 1])) (fun R r=>by walk_at "rd";exact ⟨_,_,_,hp,Zu,Zz,_,Yb6 _ _ _,r⟩) (SqL.of h5) (by rw [List.length_map];omega) ?_ ?_ ?_ ?_
 ·intro D hD
  exact ⟨t,(Tr.refl W _ _).put hD (W.new hD).2 _,rfl,Ye,(W.new hD).2,fun j x q hx=>by simp at hx⟩
 ·rintro D i zs H' hD ⟨t',T1,h1,h2',_⟩
  exact ⟨h1,h2',SqL.of (T1.fr _ _ h3.1 h5)⟩
 ·rintro D i x zs H' hD hx ⟨t',T1,hz,hd',hUD,hts⟩ R r
  rw [List.getElem?_map] at hx
  obtain ⟨a,ha,rfl⟩:=Option.map_eq_some_iff.mp hx
  have hi:=(List.getElem?_eq_some_iff.mp ha).1
  have hpi:ps[i]?=some (ps[i]'(by omega)):=List.getElem?_eq_getElem _
  generalize ps[i]'(by omega)=sh at hpi
  have hga:=h6.2 i a sh ha hpi
  have hds:dep sh≤YQ ps:=W8 (List.mem_of_getElem? hpi)
  have fm:fu w sz (dep sh)+6≤fu w sz (YQ ps+1):=WF (by omega) (by omega)
  have dD:w.D D=none:=(W.new hD).1
  walk_at "rd"
  refine X3 T1.wi hga (by omega) (by omega) ((T1.ready hR).mono (by omega)) fun t2 H2 T2 hn2=>⟨few (by decide),fun X gX=>?_⟩
  have T12:=T1.trans (T2.mono (by omega))
  have hd2:=T2.fr _ _ dD hd'
  have hUD2:=T2.ours hUD hd'
  have nXD:X≠D:=Ne.symm (Yk hd2 gX)
  have sX:=Yq.upd_new gX (.tup [.int (cnt w.bk sh sz),.int 1])
  refine r _ _ (sX _ _ hd2) ⟨t2,(T12.same sX).put hD hUD2 _,by rw [List.length_append,hz];rfl,Ye,hUD2,fun j x q hx hq=>?_⟩
  by_cases c:j<zs.length
  ·rw [List.getElem?_append_left c] at hx
   obtain ⟨Y,rfl,y1,y2,y3,y4⟩:=hts j x q hx hq
   exact ⟨Y,rfl,y1,T2.ours y2 y4,y3,by rw [Yd y3];exact sX _ _ (T2.fr _ _ y1 y4)⟩
  ·have hj:j=zs.length:=by
    have:=(List.getElem?_eq_some_iff.mp hx).1
    rw [List.length_append,List.length_singleton] at this
    omega
   subst hj
   rw [List.getElem?_append_right (Nat.le_refl _),Nat.sub_self] at hx
   have:V.ref X=x:=Option.some.inj hx
   subst this
   rw [hz,hpi] at hq
   have:=Option.some.inj hq
   subst this
   exact ⟨X,rfl,(T2.wi.new gX).1,(T2.wi.new gX).2,nXD,by rw [Yd nXD,Ye]⟩
 ·rintro D zs H' hD ⟨t',T1,hz,hd',hUD,hts⟩
  rw [List.length_map] at hz
  refine q D t' H' T1 hD hUD ⟨zs,hd',by rw [hz,List.length_map,hal],fun j x y hx hy=>?_⟩
  have hj:=(List.getElem?_eq_some_iff.mp hx).1
  rw [List.getElem?_map] at hy
  obtain ⟨q',hq',rfl⟩:=Option.map_eq_some_iff.mp hy
  obtain ⟨X,rfl,_,_,_,hX⟩:=hts j x q' hx hq'
  exact ⟨X,rfl,hX⟩
theorem Z2g {k:Nat} {Z3 Z0 Z1 Za Z5 Z4 Z7 Z9 Z6 Z8 Z2:Addr} (R:g.RawM Z4 "reckoned" "PickMaker.reckoned" Z1e ["self","size"]) (Z1D:g.Fn k "ways_of" ["blocks"] (Z2q g.K)) (Z3U:g.Me k Z4 "blocks_at" ["self","size"] (Z2V (Cs.mk Z2 Z6 Z7 Z9 Z5 Z4 Z8 Z3 Z0 Z1) m)) (Zu:Cls g.K Z4) (Zh:Yb g.K Z4 "counts") (ZA:Yb g.K Z4 "marks") (Zz:Yb g.K Z4 "parts"):g.Me (k+1) Z4 "reckoned" ["self","size"] (YM (Cs.mk Z2 Z6 Z7 Z9 Z5 Z4 Z8 Z3 Z0 Z1) 3 (m+1)):=by
 refine R.me Z3N (fun vs H Q E h=>by obtain ⟨w,t,p,sh,sz,rfl,hk,W,hg,hn,hs,hf,hR,q⟩:=h;rfl) fun f_ cdv A outer s H vs Q E hr h=>?_
 obtain ⟨w,t,p,sh,sz,rfl,hk,W,hg,hn,hs,hf,hR,q⟩:=h
 refine ⟨_,(@Yg _ _ _ (@Yo _ _ _ _ (@Yx _ _ _ _ _ _ _ _ _ _ _ _ Z1D hr (@Ya _ _ _ _ _ (@Yn _ _ _ _ _ _ _ _ _ _ _ _ _ _ _ _ Z3U Zu hr (@pv _ 0 _ _ (by rfl) (by first | exact .inl rfl | exact .inr (.inl rfl) | exact .inr (.inr rfl)) (by decide) (by decide)) (@Ya _ _ _ _ _ (@pv _ 1 _ _ (by rfl) (by first | exact .inl rfl | exact .inr (.inl rfl) | exact .inr (.inr rfl)) (by decide) (by decide)) Yc (by rfl)) (by omega) (by rfl) (by rfl) (by rfl) (by rfl)) Yc (by rfl)) (by omega) (by rfl) (by rfl) (by decide) (by rfl) (by rfl)))),?_⟩
 cases sh with
 | pick mk ps =>
  obtain ⟨dx,c,fs,hU,hd,hsm,hns,hp,hDc,hc,hsub⟩:=W.at_ p _ hg
  have hno:=fun {m:Str} (h:isF m=false)=>Xy (c:=c) h hsub
  obtain ⟨M,P,as,rfl,h2,h3,h4,h5,h6,h7⟩:=hsub
  have hdr:dep (.pick mk ps)=YQ ps+1:=by rw [dep]
  rw [hdr] at hf hR
  walk_at "rd"
  refine ⟨_,_,hp,hno (by decide +kernel),w,t,p,mk,ps,sz,rfl,W,hg,hs,by omega,by omega,hR.mono (by omega),fun D t' H' T1 gD hUD hB=>?_⟩
  refine ⟨D,_,rfl,hB,by rw [List.length_map];omega,fun x hx=>?_,fun H4 s4=>?_⟩
  ·obtain ⟨q',hq',rfl⟩:=List.mem_map.mp hx
   obtain ⟨i,hi,rfl⟩:=List.getElem_of_mem hq'
   have hai:as[i]?=some (as[i]'(by have:=h6.1;omega)):=List.getElem?_eq_getElem _
   have hga:=h6.2 i _ _ hai (List.getElem?_eq_getElem hi)
   obtain ⟨_,_,_,_,_,hsma,_⟩:=W.at_ _ _ hga
   exact ⟨hsma _ (by omega),1,by decide,(by decide:(1:Int).natAbs<2^1)⟩
  ·have own:=T1.own hg (by omega) (by omega)
   have:=q t' H4 (by rw [hdr];exact (T1.mono (by omega)).same s4) (by omega) (fun ps z=>by cases z)
   rw [QC] at this
   rw [List.map_map,show ((fun p=>p.1*p.2) ∘ fun sh=>(cnt w.bk sh sz,(1:Int)))=fun sh=>cnt w.bk sh sz by funext z;exact Int.mul_one _]
   exact this
 | _=>simp [kind] at hk
theorem XT (c a:Addr) (n:Nat):(mf c (fA a n)).lookup ("part":Str)=some (.ref a):=by
 unfold mf fA
 rw [List.lookup_cons,show (("part":Str)==("counts":Str))=false by decide +kernel,List.lookup_cons,show (("part":Str)==("part":Str))=true by decide +kernel]
theorem XC (c a:Addr) (n:Nat):(mf c (fA a n)).lookup ("times":Str)=some (.int n):=by
 unfold mf fA
 rw [List.lookup_cons,show (("times":Str)==("counts":Str))=false by decide +kernel,List.lookup_cons,show (("times":Str)==("part":Str))=false by decide +kernel,List.lookup_cons,show (("times":Str)==("times":Str))=true by decide +kernel]
theorem Yb7 (c a T:Addr):(mf c (fC a T)).lookup ("table":Str)=some (.ref T):=by
 unfold mf fC
 rw [List.lookup_cons,show (("table":Str)==("counts":Str))=false by decide +kernel,List.lookup_cons,show (("table":Str)==("part":Str))=false by decide +kernel,List.lookup_cons,show (("table":Str)==("table":Str))=true by decide +kernel]
theorem XU (a:Addr) (un:Bool) (R:Addr):(fCt a un R).lookup ("part":Str)=some (.ref a):=by
 unfold fCt
 rw [List.lookup_cons,show (("part":Str)==("part":Str))=true by decide +kernel]
theorem Ybg (a:Addr) (un:Bool) (R:Addr):(fCt a un R).lookup ("unlike":Str)=some (.bl un):=by
 unfold fCt
 rw [List.lookup_cons,show (("unlike":Str)==("part":Str))=false by decide +kernel,List.lookup_cons,show (("unlike":Str)==("unlike":Str))=true by decide +kernel]
theorem Wu (a:Addr) (un:Bool) (R:Addr):(fCt a un R).lookup ("rows":Str)=some (.ref R):=by
 unfold fCt
 rw [List.lookup_cons,show (("rows":Str)==("part":Str))=false by decide +kernel,List.lookup_cons,show (("rows":Str)==("unlike":Str))=false by decide +kernel,List.lookup_cons,show (("rows":Str)==("rows":Str))=true by decide +kernel]
theorem VD (a:Addr) (un:Bool) (R:Addr) {m:Str} (hm:isF m=false):(fCt a un R).lookup m=none:=by
 obtain ⟨a1,a2,a3,a4,a5,a6,a7,a8,a9,a10,a11,a12,a13⟩:=QH hm
 unfold fCt
 rw [List.lookup_cons,a9,List.lookup_cons,a12,List.lookup_cons,a13];rfl
theorem Sub.off {C:Cs} {w:Wo} {t:Sw} {H:Hp} {p q y:Addr} {k:Nat} {o:HO} (hD:w.D y=some (q,k)) (hq:p≠q):∀ {sh:Sh} {fs:List (Str×V)},Sub C w t H p sh fs→Sub C w t (upd H y o) p sh fs
 | .w lo span,fs,h=>h
 | .t sg,fs,h=>h
 | .row ps,fs,h=>by
  obtain ⟨P,T,dt,L,as,ws,h1,h2,h3,h4,h5,h6,h7,h8,h9,h10,h11,h12⟩:=h
  have ne:∀ {b:Addr},w.D b=none→b≠y:=fun e z=>by rw [z,hD] at e;cases e
  exact ⟨P,T,dt,L,as,ws,h1,h2,h3,h4,(Yd (ne h2.1)).trans h5,h6,h7,(Yd (ne h3.1)).trans h8,(Yd (ne h4.1)).trans h9,h10,fun i x hx=>⟨(h11 i x hx).1,(h11 i x hx).2.1,(h11 i x hx).2.2.1,(Yd fun z=>by have e:=(h11 i x hx).1;rw [z,hD] at e;injection e with e;injection e with e _;exact hq e.symm).trans (h11 i x hx).2.2.2⟩,h12⟩
 | .pick mk ps,fs,h=>by
  obtain ⟨M,P,as,h1,h2,h3,h4,h5,h6,h7⟩:=h
  have ne:∀ {b:Addr},w.D b=none→b≠y:=fun e z=>by rw [z,hD] at e;cases e
  exact ⟨M,P,as,h1,h2,h3,(Yd (ne h2.1)).trans h4,(Yd (ne h3.1)).trans h5,h6,h7⟩
 | .many q,fs,h=>h
 | .alike _ _,fs,h=>h
 | .use x,fs,h=>h
 | .cho un q',fs,h=>by
  obtain ⟨a,T,dt,R,rs,h1,h2,h3,h4,h5,h6,h7,h8,h9,h10,h11⟩:=h
  have ne:∀ {b:Addr},w.D b=none→b≠y:=fun e z=>by rw [z,hD] at e;cases e
  have nR:R≠y:=fun z=>by rw [z,hD] at h5;injection h5 with h5;injection h5 with h5 _;exact hq h5.symm
  exact ⟨a,T,dt,R,rs,h1,h2,h3,(Yd (ne h3.1)).trans h4,h5,(Yd nR).trans h6,h7,h8,h9,fun j r hr hj=>⟨(h10 j r hr hj).1,(Yd (ne (h10 j r hr hj).1.1)).trans (h10 j r hr hj).2⟩,h11⟩
theorem Sub.mu {C:Cs} {w:Wo} {t t':Sw} {H:Hp} {p:Addr} (hn:t'.ns p=t.ns p) (hm:t'.ms p=t.ms p) (hr:t'.rs p=t.rs p) (hu:∀ b,t.U b→t'.U b):∀ {sh:Sh} {fs:List (Str×V)},Sub C w t H p sh fs→Sub C w t' H p sh fs
 | .w lo span,fs,h=>h
 | .t sg,fs,h=>h
 | .row ps,fs,h=>by
  obtain ⟨P,T,dt,L,as,ws,h1,h2,h3,h4,h5,h6,h7,h8,h9,h10,h11,h12⟩:=h
  exact ⟨P,T,dt,L,as,ws,h1,⟨h2.1,hu _ h2.2⟩,⟨h3.1,hu _ h3.2⟩,⟨h4.1,hu _ h4.2⟩,h5,h6,h7,h8,h9,h10,fun i x hx=>by rw [hn,hm];exact h11 i x hx,h12⟩
 | .pick mk ps,fs,h=>by
  obtain ⟨M,P,as,h1,h2,h3,h4,h5,h6,h7⟩:=h
  exact ⟨M,P,as,h1,⟨h2.1,hu _ h2.2⟩,⟨h3.1,hu _ h3.2⟩,h4,h5,h6,h7⟩
 | .many q,fs,h=>h
 | .alike _ _,fs,h=>h
 | .use x,fs,h=>h
 | .cho un q',fs,h=>by
  obtain ⟨a,T,dt,R,rs,h1,h2,h3,h4,h5,h6,h7,h8,h9,h10,h11⟩:=h
  exact ⟨a,T,dt,R,rs,h1,h2,⟨h3.1,hu _ h3.2⟩,h4,h5,h6,by rw [hm];exact h7,by rw [hm];exact h8,by rw [hm];exact h9,fun j r hr hj=>by rw [hm] at hj;exact ⟨⟨(h10 j r hr hj).1.1,hu _ (h10 j r hr hj).1.2⟩,(h10 j r hr hj).2⟩,h11.1,h11.2.1,by rw [hr];exact h11.2.2⟩
def CTb (C:Cs) (H:Hp) (p T:Addr):Prop:=∃ dx c a,H p=some (.ins C.cho dx (mf c (fC a T)))
theorem WA {C:Cs} {w:Wo} {t:Sw} {H:Hp} {p T:Addr} {un:Bool} {q:Sh} (W:WI C w t H) (hg:w.reg p=some (.cho un q)) (hT:CTb C H p T):∃ (a dt R:Addr),w.reg a=some q∧w.D T=none∧H T=some (.ins C.ctab dt (fCt a un R))∧w.D R=some (p,1)∧H R=some (.lst ((t.rs p).map V.ref))∧(t.rs p).length=t.ms p 0∧t.ms p 0≤60∧t.ms p 1≤t.ms p 0 ∧
  (∀ (j:Nat) r,(t.rs p)[j]?=some r→j<t.ms p 1→Un w t r∧H r=some (.lst (VC un (cnt w.bk q) j)))∧(∀ l s,s≤45→sm (wy un (cnt w.bk q) l s))∧(∀ s,s≤45→sB (cnt w.bk q s))∧dep (.cho un q)≤w.M∧w.D p=none:=by
 obtain ⟨dx,c,fs,hU,hd,hsm,hns,hp,hDc,hc,hsub⟩:=W.at_ p _ hg
 obtain ⟨a,T',dt,R,rs,rfl,h2,h3,h4,h5,h6,h7,h8,h9,h10,h11,h12,rfl⟩:=hsub
 obtain ⟨dx',c',a',hp'⟩:=hT
 rw [hp] at hp'
 have e:=Option.some.inj hp'
 injection e with e1 e2 e3
 unfold mf fC at e3
 injection e3 with e4 e5
 injection e5 with e6 e7
 injection e7 with e8 e9
 injection e8 with _ e8
 have:=V.ref.inj e8
 subst this
 exact ⟨a,dt,R,h2,h3.1,h4,h5,h6,h7,h8,h9,h10,h11,h12,hd,hU.1⟩
theorem Tr.ctb {C:Cs} {w:Wo} {t t':Sw} {H H':Hp} {s d:Nat} (T:Tr C w t H t' H' s d) {p x:Addr} (hD:w.D p=none) (h:CTb C H p x):CTb C H' p x:=by
 obtain ⟨dx,c,a,h⟩:=h
 exact ⟨dx,c,a,T.fr _ _ hD h⟩
theorem TrB.ctb {C:Cs} {w:Wo} {t t':Sw} {H H':Hp} {s d:Nat} {p':Addr} (T:TrB C w t H t' H' s d p') {p x:Addr} (hD:w.D p=none) (h:CTb C H p x):CTb C H' p x:=by
 obtain ⟨dx,c,a,h⟩:=h
 exact ⟨dx,c,a,T.fr _ _ hD h⟩
def Sw.setz (t:Sw) (p r:Addr) (n:Nat):Sw:={ t with ms:=fun q i=>if q=p∧i=0 then n else t.ms q i,rs:=fun q=>if q=p then t.rs p++[r] else t.rs q }
def Sw.fin (t:Sw) (p r:Addr) (n:Nat):Sw:={ t with ms:=fun q i=>if q=p then n else t.ms q i,U:=fun b=>t.U b∨b=r }
theorem WI.rowA {C:Cs} {w:Wo} {t:Sw} {H:Hp} (W:WI C w t H) {p R r:Addr} {un:Bool} {q:Sh} (hg:w.reg p=some (.cho un q)) (hR:w.D R=some (p,1)) (hm:t.ms p 0<60):WI C w (t.setz p r (t.ms p 0+1)) (upd H R (.lst ((t.rs p++[r]).map V.ref))):=by
 have ne:∀ {b:Addr},w.D b=none→b≠R:=fun e z=>by rw [z,hR] at e;cases e
 refine ⟨fun q' sh hr=>?_,fun b hb=>?_,W.ow,W.inj⟩
 ·obtain ⟨dx,c,fs,h1,h2,h3,h4,h5,h6,h7,h8⟩:=W.at_ q' sh hr
  have n2:c≠R:=fun z=>by rw [z,hR] at h6;injection h6 with h6;injection h6 with _ h6;omega
  refine ⟨dx,c,fs,h1,h2,h3,h4,(Yd (ne h1.1)).trans h5,h6,(Yd n2).trans h7,?_⟩
  by_cases e:q'=p
  ·subst e
   rw [hg] at hr
   have:=Option.some.inj hr
   subst this
   obtain ⟨a,T,dt,R',rs',k1,k2,k3,k4,k5,k6,k7,k8,k9,k10,k11,k12,rfl⟩:=h8
   have:=W.inj _ _ _ k5 hR
   subst this
   have e0:(t.setz q' r (t.ms q' 0+1)).ms q' 0=t.ms q' 0+1:=if_pos ⟨rfl,rfl⟩
   have e1:(t.setz q' r (t.ms q' 0+1)).ms q' 1=t.ms q' 1:=if_neg fun z=>by omega
   refine ⟨a,T,dt,R',t.rs q'++[r],k1,k2,k3,(Yd (ne k3.1)).trans k4,k5,Ye,by rw [e0,List.length_append,k7];rfl,by rw [e0];omega,by rw [e0,e1];omega,fun j r' hr' hj=>?_,k11,k12,(if_pos rfl).symm⟩
   rw [e1] at hj
   rw [List.getElem?_append_left (by omega)] at hr'
   obtain ⟨u1,u2⟩:=k10 j r' hr' hj
   exact ⟨u1,(Yd (ne u1.1)).trans u2⟩
  ·exact Sub.mu (t:=t) (t':=t.setz p r (t.ms p 0+1)) rfl (funext fun i=>if_neg fun z=>e z.1) (if_neg e) (fun _ h=>h) (h8.off hR e)
 ·by_cases e:b=R
  ·rw [e,Ye];intro z;cases z
  ·rw [Yd e];exact W.al b hb
theorem WI.rowB {C:Cs} {w:Wo} {t:Sw} {H:Hp} (W:WI C w t H) {p r:Addr} {un:Bool} {q:Sh} {j:Nat} (hg:w.reg p=some (.cho un q)) (hr:(t.rs p)[j]?=some r) (h0:t.ms p 0=j+1) (h1:t.ms p 1=j) (hDr:w.D r=none) (hHr:H r=some (.lst (VC un (cnt w.bk q) j))):WI C w (t.fin p r (j+1)) H:=by
 refine ⟨fun q' sh hr'=>?_,fun b hb=>?_,fun b x h => .inl (W.ow b x h),W.inj⟩
 ·obtain ⟨dx,c,fs,k1,k2,k3,k4,k5,k6,k7,k8⟩:=W.at_ q' sh hr'
  refine ⟨dx,c,fs,⟨k1.1,.inl k1.2⟩,k2,k3,k4,k5,k6,k7,?_⟩
  by_cases e:q'=p
  ·subst e
   rw [hg] at hr'
   have:=Option.some.inj hr'
   subst this
   obtain ⟨a,T,dt,R',rs',m1,m2,m3,m4,m5,m6,m7,m8,m9,m10,m11,m12,rfl⟩:=k8
   have e0:∀ i,(t.fin q' r (j+1)).ms q' i=j+1:=fun i=>if_pos rfl
   refine ⟨a,T,dt,R',t.rs q',m1,m2,⟨m3.1,.inl m3.2⟩,m4,m5,m6,by rw [e0,m7,h0],by rw [e0];omega,by rw [e0,e0];exact Nat.le_refl _,fun i r' hr' hi=>?_,m11,m12,rfl⟩
   rw [e0] at hi
   by_cases e:i=j
   ·subst e
    rw [hr] at hr'
    have:=Option.some.inj hr'
    subst this
    exact ⟨⟨hDr,.inr rfl⟩,hHr⟩
   ·obtain ⟨u1,u2⟩:=m10 i r' hr' (by omega)
    exact ⟨⟨u1.1,.inl u1.2⟩,u2⟩
  ·exact Sub.mu (t:=t) (t':=t.fin p r (j+1)) rfl (funext fun i=>if_neg e) rfl (fun _ h=>.inl h) k8
 ·rcases hb with hb | rfl
  ·exact W.al b hb
  ·rw [hHr];intro z;cases z
theorem TrB.put {C:Cs} {w:Wo} {t t1:Sw} {H H1:Hp} {s d:Nat} {p:Addr} (a:TrB C w t H t1 H1 s d p) {x:Addr} (h:H x=none) (n:¬ t1.U x) (o:HO):TrB C w t H t1 (upd H1 x o) s d p:=⟨a.wi.loc n o,fun c u e z=>by rw [Yd (Yk z h)];exact a.fr c u e z,a.gr,a.own,a.u1,a.u2⟩
theorem TrB.rowA {C:Cs} {w:Wo} {t t1:Sw} {H H1:Hp} {s d:Nat} {p R:Addr} (r:Addr) {un:Bool} {q:Sh} (a:TrB C w t H t1 H1 s d p) (hg:w.reg p=some (.cho un q)) (hR:w.D R=some (p,1)) (hm:t1.ms p 0<60):TrB C w t H (t1.setz p r (t1.ms p 0+1)) (upd H1 R (.lst ((t1.rs p++[r]).map V.ref))) s d p:=by
 refine ⟨a.wi.rowA hg hR hm,fun b o e h=>?_,fun q' sh hq n=>?_,a.own,a.u1,a.u2⟩
 ·rw [Yd fun z=>by rw [z,hR] at e;cases e]
  exact a.fr b o e h
 ·have g:=a.gr q' sh hq n
  have e:(t1.setz p r (t1.ms p 0+1)).ms q'=t1.ms q':=funext fun j=>if_neg fun z=>n z.1
  exact ⟨g.up,g.le,fun h=>by rw [e];exact g.no h,fun h j=>by rw [e];exact g.un h j,fun h=>(if_neg n).trans (g.nr h)⟩
theorem TrB.rowB {C:Cs} {w:Wo} {t t1:Sw} {H H1:Hp} {s d:Nat} {p r:Addr} {un:Bool} {q:Sh} {j:Nat} (a:TrB C w t H t1 H1 s d p) (hg:w.reg p=some (.cho un q)) (hr:(t1.rs p)[j]?=some r) (h0:t1.ms p 0=j+1) (h1:t1.ms p 1=j) (hDr:w.D r=none) (hn:H r=none) (hHr:H1 r=some (.lst (VC un (cnt w.bk q) j))):TrB C w t H (t1.fin p r (j+1)) H1 s d p:=by
 refine ⟨a.wi.rowB hg hr h0 h1 hDr hHr,a.fr,fun q' sh hq n=>?_,a.own,fun b h => .inl (a.u1 b h),fun b h=>?_⟩
 ·have g:=a.gr q' sh hq n
  have e:(t1.fin p r (j+1)).ms q'=t1.ms q':=funext fun j=>if_neg n
  exact ⟨g.up,g.le,fun h=>by rw [e];exact g.no h,fun h j=>by rw [e];exact g.un h j,g.nr⟩
 ·rcases h with h | rfl
  ·exact a.u2 b h
  ·exact .inr hn
theorem Z1U {k:Nat} {Z3 Z0 Z1 Za Z5 Z4 Z7 Z9 Z6 Z8 Z2:Addr} (R:g.RawM Z3 "reckoned" "AlikeMaker.reckoned" Z0X ["self","size"]) (ZR:g.Me k Z2 "count_at" ["self","size"] (Zs (Cs.mk Z2 Z6 Z7 Z9 Z5 Z4 Z8 Z3 Z0 Z1) 0 m)) (ZM:g.Me k Z6 "count_at" ["self","size"] (Zs (Cs.mk Z2 Z6 Z7 Z9 Z5 Z4 Z8 Z3 Z0 Z1) 1 m)) (ZV:g.Me k Z7 "count_at" ["self","size"] (Zs (Cs.mk Z2 Z6 Z7 Z9 Z5 Z4 Z8 Z3 Z0 Z1) 2 m)) (ZQ:g.Me k Z5 "count_at" ["self","size"] (Zs (Cs.mk Z2 Z6 Z7 Z9 Z5 Z4 Z8 Z3 Z0 Z1) 4 m)) (ZT:g.Me k Z4 "count_at" ["self","size"] (Zs (Cs.mk Z2 Z6 Z7 Z9 Z5 Z4 Z8 Z3 Z0 Z1) 3 m)) (ZW:g.Me k Z8 "count_at" ["self","size"] (Zs (Cs.mk Z2 Z6 Z7 Z9 Z5 Z4 Z8 Z3 Z0 Z1) 5 m)) (ZS:g.Me k Z3 "count_at" ["self","size"] (Zs (Cs.mk Z2 Z6 Z7 Z9 Z5 Z4 Z8 Z3 Z0 Z1) 6 m)) (ZN:g.Me k Z0 "count_at" ["self","size"] (Zs (Cs.mk Z2 Z6 Z7 Z9 Z5 Z4 Z8 Z3 Z0 Z1) 7 m)) (Zb:Cls g.K Z3) (Zk:Yb g.K Z3 "counts") (Zq:Yb g.K Z3 "part") (Ze:Yb g.K Z3 "times") (Zf:Cls g.K Z0) (Zc:Yb g.K Z0 "counts") (Zv:Yb g.K Z0 "part") (Zn:Yb g.K Z0 "table") (Zj:Cls g.K Z5) (Zi:Yb g.K Z5 "counts") (Zm:Yb g.K Z5 "part") (Zu:Cls g.K Z4) (Zh:Yb g.K Z4 "counts") (ZA:Yb g.K Z4 "marks") (Zz:Yb g.K Z4 "parts") (ZD:Cls g.K Z7) (Zo:Yb g.K Z7 "counts") (ZF:Yb g.K Z7 "parts") (ZC:Yb g.K Z7 "table") (Zw:Cls g.K Z6) (Zg:Yb g.K Z6 "counts") (Zy:Yb g.K Z6 "signs") (Zt:Cls g.K Z8) (Zp:Yb g.K Z8 "counts") (Zl:Yb g.K Z8 "named") (Zr:Cls g.K Z2) (Zd:Yb g.K Z2 "counts") (ZE:Yb g.K Z2 "low") (Zx:Yb g.K Z2 "span"):g.Me (k+1) Z3 "reckoned" ["self","size"] (YM (Cs.mk Z2 Z6 Z7 Z9 Z5 Z4 Z8 Z3 Z0 Z1) 6 (m+1)):=by
 refine R.me Z3s (fun vs H Q E h=>by obtain ⟨w,t,p,sh,sz,rfl,hk,W,hg,hn,hs,hf,hR,q⟩:=h;rfl) fun f_ cdv A outer s H vs Q E hr h=>?_
 obtain ⟨w,t,p,sh,sz,rfl,hk,W,hg,hn,hs,hf,hR,q⟩:=h
 refine ⟨_,(@Yh _ _ _ _ _ (@YO _ _ _ _ _ _ _ _ (@VX _ _ _ _ _ _ _ (@Yt _ _ _ _ _ _ _ _ op_lt (@pv _ 1 _ _ (by rfl) (by first | exact .inl rfl | exact .inr (.inl rfl) | exact .inr (.inr rfl)) (by decide) (by decide)) (@Yl _ _ _ _ _ (@pv _ 0 _ _ (by rfl) (by first | exact .inl rfl | exact .inr (.inl rfl) | exact .inr (.inr rfl)) (by decide) (by decide)) rfl) (Yw _)) (@Vt _ _ _ _ (@Yt _ _ _ _ _ _ _ _ UY (@Yi _ _ _ _ _ _ _ _ Y7 (@pv _ 1 _ _ (by rfl) (by first | exact .inl rfl | exact .inr (.inl rfl) | exact .inr (.inr rfl)) (by decide) (by decide)) (@Yl _ _ _ _ _ (@pv _ 0 _ _ (by rfl) (by first | exact .inl rfl | exact .inr (.inl rfl) | exact .inr (.inr rfl)) (by decide) (by decide)) rfl)) Yf (Yw _)))).pt (@Yg _ _ _ (@Yo _ _ _ _ Yf)) YC) (@Yg _ _ _ (@Yo _ _ _ _ (@Ym _ _ _ _ (@Yn _ _ _ _ _ _ _ _ _ _ _ _ _ _ _ _ ZR Zr hr (@Yl _ _ _ _ _ (@pv _ 0 _ _ (by rfl) (by first | exact .inl rfl | exact .inr (.inl rfl) | exact .inr (.inr rfl)) (by decide) (by decide)) rfl) (@Ya _ _ _ _ _ (@Yi _ _ _ _ _ _ _ _ YD (@Yi _ _ _ _ _ _ _ _ YH (@pv _ 1 _ _ (by rfl) (by first | exact .inl rfl | exact .inr (.inl rfl) | exact .inr (.inr rfl)) (by decide) (by decide)) (@Yl _ _ _ _ _ (@pv _ 0 _ _ (by rfl) (by first | exact .inl rfl | exact .inr (.inl rfl) | exact .inr (.inr rfl)) (by decide) (by decide)) rfl)) Yf) Yc (by rfl)) (by omega) (by rfl) (by rfl) (by rfl) (by rfl)) (@Ym _ _ _ _ (@Yn _ _ _ _ _ _ _ _ _ _ _ _ _ _ _ _ ZM Zw hr (@Yl _ _ _ _ _ (@pv _ 0 _ _ (by rfl) (by first | exact .inl rfl | exact .inr (.inl rfl) | exact .inr (.inr rfl)) (by decide) (by decide)) rfl) (@Ya _ _ _ _ _ (@Yi _ _ _ _ _ _ _ _ YD (@Yi _ _ _ _ _ _ _ _ YH (@pv _ 1 _ _ (by rfl) (by first | exact .inl rfl | exact .inr (.inl rfl) | exact .inr (.inr rfl)) (by decide) (by decide)) (@Yl _ _ _ _ _ (@pv _ 0 _ _ (by rfl) (by first | exact .inl rfl | exact .inr (.inl rfl) | exact .inr (.inr rfl)) (by decide) (by decide)) rfl)) Yf) Yc (by rfl)) (by omega) (by rfl) (by rfl) (by rfl) (by rfl)) (@Ym _ _ _ _ (@Yn _ _ _ _ _ _ _ _ _ _ _ _ _ _ _ _ ZV ZD hr (@Yl _ _ _ _ _ (@pv _ 0 _ _ (by rfl) (by first | exact .inl rfl | exact .inr (.inl rfl) | exact .inr (.inr rfl)) (by decide) (by decide)) rfl) (@Ya _ _ _ _ _ (@Yi _ _ _ _ _ _ _ _ YD (@Yi _ _ _ _ _ _ _ _ YH (@pv _ 1 _ _ (by rfl) (by first | exact .inl rfl | exact .inr (.inl rfl) | exact .inr (.inr rfl)) (by decide) (by decide)) (@Yl _ _ _ _ _ (@pv _ 0 _ _ (by rfl) (by first | exact .inl rfl | exact .inr (.inl rfl) | exact .inr (.inr rfl)) (by decide) (by decide)) rfl)) Yf) Yc (by rfl)) (by omega) (by rfl) (by rfl) (by rfl) (by rfl)) (@Ym _ _ _ _ (@Yn _ _ _ _ _ _ _ _ _ _ _ _ _ _ _ _ ZQ Zj hr (@Yl _ _ _ _ _ (@pv _ 0 _ _ (by rfl) (by first | exact .inl rfl | exact .inr (.inl rfl) | exact .inr (.inr rfl)) (by decide) (by decide)) rfl) (@Ya _ _ _ _ _ (@Yi _ _ _ _ _ _ _ _ YD (@Yi _ _ _ _ _ _ _ _ YH (@pv _ 1 _ _ (by rfl) (by first | exact .inl rfl | exact .inr (.inl rfl) | exact .inr (.inr rfl)) (by decide) (by decide)) (@Yl _ _ _ _ _ (@pv _ 0 _ _ (by rfl) (by first | exact .inl rfl | exact .inr (.inl rfl) | exact .inr (.inr rfl)) (by decide) (by decide)) rfl)) Yf) Yc (by rfl)) (by omega) (by rfl) (by rfl) (by rfl) (by rfl)) (@Ym _ _ _ _ (@Yn _ _ _ _ _ _ _ _ _ _ _ _ _ _ _ _ ZT Zu hr (@Yl _ _ _ _ _ (@pv _ 0 _ _ (by rfl) (by first | exact .inl rfl | exact .inr (.inl rfl) | exact .inr (.inr rfl)) (by decide) (by decide)) rfl) (@Ya _ _ _ _ _ (@Yi _ _ _ _ _ _ _ _ YD (@Yi _ _ _ _ _ _ _ _ YH (@pv _ 1 _ _ (by rfl) (by first | exact .inl rfl | exact .inr (.inl rfl) | exact .inr (.inr rfl)) (by decide) (by decide)) (@Yl _ _ _ _ _ (@pv _ 0 _ _ (by rfl) (by first | exact .inl rfl | exact .inr (.inl rfl) | exact .inr (.inr rfl)) (by decide) (by decide)) rfl)) Yf) Yc (by rfl)) (by omega) (by rfl) (by rfl) (by rfl) (by rfl)) (@Ym _ _ _ _ (@Yn _ _ _ _ _ _ _ _ _ _ _ _ _ _ _ _ ZW Zt hr (@Yl _ _ _ _ _ (@pv _ 0 _ _ (by rfl) (by first | exact .inl rfl | exact .inr (.inl rfl) | exact .inr (.inr rfl)) (by decide) (by decide)) rfl) (@Ya _ _ _ _ _ (@Yi _ _ _ _ _ _ _ _ YD (@Yi _ _ _ _ _ _ _ _ YH (@pv _ 1 _ _ (by rfl) (by first | exact .inl rfl | exact .inr (.inl rfl) | exact .inr (.inr rfl)) (by decide) (by decide)) (@Yl _ _ _ _ _ (@pv _ 0 _ _ (by rfl) (by first | exact .inl rfl | exact .inr (.inl rfl) | exact .inr (.inr rfl)) (by decide) (by decide)) rfl)) Yf) Yc (by rfl)) (by omega) (by rfl) (by rfl) (by rfl) (by rfl)) (@Ym _ _ _ _ (@Yn _ _ _ _ _ _ _ _ _ _ _ _ _ _ _ _ ZS Zb hr (@Yl _ _ _ _ _ (@pv _ 0 _ _ (by rfl) (by first | exact .inl rfl | exact .inr (.inl rfl) | exact .inr (.inr rfl)) (by decide) (by decide)) rfl) (@Ya _ _ _ _ _ (@Yi _ _ _ _ _ _ _ _ YD (@Yi _ _ _ _ _ _ _ _ YH (@pv _ 1 _ _ (by rfl) (by first | exact .inl rfl | exact .inr (.inl rfl) | exact .inr (.inr rfl)) (by decide) (by decide)) (@Yl _ _ _ _ _ (@pv _ 0 _ _ (by rfl) (by first | exact .inl rfl | exact .inr (.inl rfl) | exact .inr (.inr rfl)) (by decide) (by decide)) rfl)) Yf) Yc (by rfl)) (by omega) (by rfl) (by rfl) (by rfl) (by rfl)) (@Yn _ _ _ _ _ _ _ _ _ _ _ _ _ _ _ _ ZN Zf hr (@Yl _ _ _ _ _ (@pv _ 0 _ _ (by rfl) (by first | exact .inl rfl | exact .inr (.inl rfl) | exact .inr (.inr rfl)) (by decide) (by decide)) rfl) (@Ya _ _ _ _ _ (@Yi _ _ _ _ _ _ _ _ YD (@Yi _ _ _ _ _ _ _ _ YH (@pv _ 1 _ _ (by rfl) (by first | exact .inl rfl | exact .inr (.inl rfl) | exact .inr (.inr rfl)) (by decide) (by decide)) (@Yl _ _ _ _ _ (@pv _ 0 _ _ (by rfl) (by first | exact .inl rfl | exact .inr (.inl rfl) | exact .inr (.inr rfl)) (by decide) (by decide)) rfl)) Yf) Yc (by rfl)) (by omega) (by rfl) (by rfl) (by rfl) (by rfl)))))))))))),?_⟩
 cases sh with
 | alike sh n =>
  obtain ⟨dx,c,fs,hU,hd,hsm,hns,hp,hDc,hc,hsub⟩:=W.at_ p _ hg
  obtain ⟨a,rfl,hn0,hga⟩:=hsub
  have hdr:dep (.alike sh n)=dep sh+1:=by rw [dep]
  rw [hdr] at hf hR
  have q:=fun t' H' T e=>q t' H' T e (fun ps z=>by cases z)
  simp only [VB] at q
  walk_at "rd"
  refine ⟨_,_,_,hp,Zb,Ze,_,XC _ _ _,_,rfl,XB (fun c1=>?_) (fun c1=>⟨_,_,_,hp,Zb,Ze,_,XC _ _ _,_,rfl,by omega,XB (fun c2=>?_) (fun c2=>?_)⟩)⟩
  ·have:=q t H (.refl W _ _) hn
   rw [if_pos (.inl (by omega))] at this
   exact this
  ·have:=q t H (.refl W _ _) hn
   rw [if_pos (.inr (.inr fun z=>c2 (by exact_mod_cast z)))] at this
   exact this
  ·have e2:sz%n=0:=by
    have:=Classical.not_not.mp c2
    exact_mod_cast this
   have h1:1≤sz / n:=(Nat.one_le_div_iff hn0).mpr (by omega)
   have h2:sz / n≤sz:=Nat.div_le_self _ _
   have ev:(sz:Int) / (n:Int) - 1=((sz / n - 1:Nat):Int):=by
    rw [← Int.natCast_ediv]
    omega
   have cd:Ya3 (sz:Int) (n:Int):=YX (by omega) (by omega)
   have fm:fu w (sz / n - 1) (dep sh)+6≤fu w sz (dep sh+1):=WF (by omega) (by omega)
   have key:=X3 (Q:=Q) (l:=m) (sz:=sz / n - 1) W hga (by omega) (by omega) (hR.mono (by omega)) fun t2 H2 T2 hn2=>by
    have own:=T2.own hg (by omega) (by omega)
    have:=q t2 H2 (T2.mono (by omega)) (by omega)
    rw [if_neg (by omega)] at this
    exact this
   exact or8 (fun ⟨x1,x2,h1,h2,h3⟩=>⟨_,_,_,hp,Zb,Zq,_,XT _ _ _,a,rfl,x1,x2,h1,h2,_,_,_,hp,Zb,Ze,_,XC _ _ _,_,rfl,cd,by rw [ev];exact h3⟩) (fun ⟨x1,x2,h1,h2,h3⟩=>⟨_,_,_,hp,Zb,Zq,_,XT _ _ _,a,rfl,x1,x2,h1,h2,_,_,_,hp,Zb,Ze,_,XC _ _ _,_,rfl,cd,by rw [ev];exact h3⟩) (fun ⟨x1,x2,h1,h2,h3⟩=>⟨_,_,_,hp,Zb,Zq,_,XT _ _ _,a,rfl,x1,x2,h1,h2,_,_,_,hp,Zb,Ze,_,XC _ _ _,_,rfl,cd,by rw [ev];exact h3⟩) (fun ⟨x1,x2,h1,h2,h3⟩=>⟨_,_,_,hp,Zb,Zq,_,XT _ _ _,a,rfl,x1,x2,h1,h2,_,_,_,hp,Zb,Ze,_,XC _ _ _,_,rfl,cd,by rw [ev];exact h3⟩) (fun ⟨x1,x2,h1,h2,h3⟩=>⟨_,_,_,hp,Zb,Zq,_,XT _ _ _,a,rfl,x1,x2,h1,h2,_,_,_,hp,Zb,Ze,_,XC _ _ _,_,rfl,cd,by rw [ev];exact h3⟩) (fun ⟨x1,x2,h1,h2,h3⟩=>⟨_,_,_,hp,Zb,Zq,_,XT _ _ _,a,rfl,x1,x2,h1,h2,_,_,_,hp,Zb,Ze,_,XC _ _ _,_,rfl,cd,by rw [ev];exact h3⟩) (fun ⟨x1,x2,h1,h2,h3⟩=>⟨_,_,_,hp,Zb,Zq,_,XT _ _ _,a,rfl,x1,x2,h1,h2,_,_,_,hp,Zb,Ze,_,XC _ _ _,_,rfl,cd,by rw [ev];exact h3⟩) (fun ⟨x1,x2,h1,h2,h3⟩=>⟨_,_,_,hp,Zb,Zq,_,XT _ _ _,a,rfl,x1,x2,h1,h2,_,_,_,hp,Zb,Ze,_,XC _ _ _,_,rfl,cd,by rw [ev];exact h3⟩) key
 | _=>simp [kind] at hk
def Z2W (C:Cs) (l:Nat):Sp:=fun vs H Q _=>∃ (w:Wo) (t:Sw) (p T:Addr) (un:Bool) (sh:Sh) (s k:Nat),vs=[.ref T,.int s,.int k]∧WI C w t H∧w.reg p=some (.cho un sh)∧CTb C H p T∧s≤40∧k≤64∧1≤l∧fu w s (dep sh+1)≤l∧YZ w t s (dep sh+1) ∧
 ∀ t' H',Tr C w t H t' H' s (dep sh+1)→Q (.int (chI un (cnt w.bk sh s) k)) H'
theorem Ybh {C:Cs} {vs:List V} {H:Hp} {Q:VK} {E:XK} (h:Z2W C 0 vs H Q E):False:=by
 obtain ⟨w,t,p,T,un,sh,s,k,_,_,_,_,_,_,h,_⟩:=h
 omega
theorem Z1V {k:Nat} {Z3 Z0 Z1 Za Z5 Z4 Z7 Z9 Z6 Z8 Z2:Addr} (R:g.RawM Z1 "choices" "ChoiceTable.choices" Z0Y ["self","size","many"]) (Z32:g.Fn k "sets_among" ["n","m"] (Z2N)) (F_bags_among:g.Fn k "bags_among" ["n","m"] (Z4G)) (ZR:g.Me k Z2 "count_at" ["self","size"] (Zs (Cs.mk Z2 Z6 Z7 Z9 Z5 Z4 Z8 Z3 Z0 Z1) 0 m)) (ZM:g.Me k Z6 "count_at" ["self","size"] (Zs (Cs.mk Z2 Z6 Z7 Z9 Z5 Z4 Z8 Z3 Z0 Z1) 1 m)) (ZV:g.Me k Z7 "count_at" ["self","size"] (Zs (Cs.mk Z2 Z6 Z7 Z9 Z5 Z4 Z8 Z3 Z0 Z1) 2 m)) (ZQ:g.Me k Z5 "count_at" ["self","size"] (Zs (Cs.mk Z2 Z6 Z7 Z9 Z5 Z4 Z8 Z3 Z0 Z1) 4 m)) (ZT:g.Me k Z4 "count_at" ["self","size"] (Zs (Cs.mk Z2 Z6 Z7 Z9 Z5 Z4 Z8 Z3 Z0 Z1) 3 m)) (ZW:g.Me k Z8 "count_at" ["self","size"] (Zs (Cs.mk Z2 Z6 Z7 Z9 Z5 Z4 Z8 Z3 Z0 Z1) 5 m)) (ZS:g.Me k Z3 "count_at" ["self","size"] (Zs (Cs.mk Z2 Z6 Z7 Z9 Z5 Z4 Z8 Z3 Z0 Z1) 6 m)) (ZN:g.Me k Z0 "count_at" ["self","size"] (Zs (Cs.mk Z2 Z6 Z7 Z9 Z5 Z4 Z8 Z3 Z0 Z1) 7 m)) (Zb:Cls g.K Z3) (Zk:Yb g.K Z3 "counts") (Zq:Yb g.K Z3 "part") (Ze:Yb g.K Z3 "times") (Zf:Cls g.K Z0) (Zc:Yb g.K Z0 "counts") (Zv:Yb g.K Z0 "part") (Zn:Yb g.K Z0 "table") (ZB:Cls g.K Z1) (ZG:Yb g.K Z1 "part") (ZI:Yb g.K Z1 "unlike") (ZH:Yb g.K Z1 "rows") (Zj:Cls g.K Z5) (Zi:Yb g.K Z5 "counts") (Zm:Yb g.K Z5 "part") (Zu:Cls g.K Z4) (Zh:Yb g.K Z4 "counts") (ZA:Yb g.K Z4 "marks") (Zz:Yb g.K Z4 "parts") (ZD:Cls g.K Z7) (Zo:Yb g.K Z7 "counts") (ZF:Yb g.K Z7 "parts") (ZC:Yb g.K Z7 "table") (Zw:Cls g.K Z6) (Zg:Yb g.K Z6 "counts") (Zy:Yb g.K Z6 "signs") (Zt:Cls g.K Z8) (Zp:Yb g.K Z8 "counts") (Zl:Yb g.K Z8 "named") (Zr:Cls g.K Z2) (Zd:Yb g.K Z2 "counts") (ZE:Yb g.K Z2 "low") (Zx:Yb g.K Z2 "span"):g.Me (k+1) Z1 "choices" ["self","size","many"] (Z2W (Cs.mk Z2 Z6 Z7 Z9 Z5 Z4 Z8 Z3 Z0 Z1) (m+1)):=by
 refine R.me Z1O (fun vs H Q E h=>by obtain ⟨w,t,p,T,un,sh,sz,k,rfl,W,hg,hT,hs,hk,hm1,hf,hR,q⟩:=h;rfl) fun f_ cdv A outer s H vs Q E hr h=>?_
 obtain ⟨w,t,p,T,un,sh,sz,k,rfl,W,hg,hT,hs,hk,hm1,hf,hR,q⟩:=h
 refine ⟨_,(@Yh _ _ _ _ _ (@YA _ _ (3) _ _ _ _ Z1O.nd rfl (.inl rfl) (@Ym _ _ _ _ (@Yn _ _ _ _ _ _ _ _ _ _ _ _ _ _ _ _ ZR Zr hr (@Yl _ _ _ _ _ (@pv _ 0 _ _ (by rfl) (by first | exact .inl rfl | exact .inr (.inl rfl) | exact .inr (.inr rfl)) (by decide) (by decide)) rfl) (@Ya _ _ _ _ _ (@pv _ 1 _ _ (by rfl) (by first | exact .inl rfl | exact .inr (.inl rfl) | exact .inr (.inr rfl)) (by decide) (by decide)) Yc (by rfl)) (by omega) (by rfl) (by rfl) (by rfl) (by rfl)) (@Ym _ _ _ _ (@Yn _ _ _ _ _ _ _ _ _ _ _ _ _ _ _ _ ZM Zw hr (@Yl _ _ _ _ _ (@pv _ 0 _ _ (by rfl) (by first | exact .inl rfl | exact .inr (.inl rfl) | exact .inr (.inr rfl)) (by decide) (by decide)) rfl) (@Ya _ _ _ _ _ (@pv _ 1 _ _ (by rfl) (by first | exact .inl rfl | exact .inr (.inl rfl) | exact .inr (.inr rfl)) (by decide) (by decide)) Yc (by rfl)) (by omega) (by rfl) (by rfl) (by rfl) (by rfl)) (@Ym _ _ _ _ (@Yn _ _ _ _ _ _ _ _ _ _ _ _ _ _ _ _ ZV ZD hr (@Yl _ _ _ _ _ (@pv _ 0 _ _ (by rfl) (by first | exact .inl rfl | exact .inr (.inl rfl) | exact .inr (.inr rfl)) (by decide) (by decide)) rfl) (@Ya _ _ _ _ _ (@pv _ 1 _ _ (by rfl) (by first | exact .inl rfl | exact .inr (.inl rfl) | exact .inr (.inr rfl)) (by decide) (by decide)) Yc (by rfl)) (by omega) (by rfl) (by rfl) (by rfl) (by rfl)) (@Ym _ _ _ _ (@Yn _ _ _ _ _ _ _ _ _ _ _ _ _ _ _ _ ZQ Zj hr (@Yl _ _ _ _ _ (@pv _ 0 _ _ (by rfl) (by first | exact .inl rfl | exact .inr (.inl rfl) | exact .inr (.inr rfl)) (by decide) (by decide)) rfl) (@Ya _ _ _ _ _ (@pv _ 1 _ _ (by rfl) (by first | exact .inl rfl | exact .inr (.inl rfl) | exact .inr (.inr rfl)) (by decide) (by decide)) Yc (by rfl)) (by omega) (by rfl) (by rfl) (by rfl) (by rfl)) (@Ym _ _ _ _ (@Yn _ _ _ _ _ _ _ _ _ _ _ _ _ _ _ _ ZT Zu hr (@Yl _ _ _ _ _ (@pv _ 0 _ _ (by rfl) (by first | exact .inl rfl | exact .inr (.inl rfl) | exact .inr (.inr rfl)) (by decide) (by decide)) rfl) (@Ya _ _ _ _ _ (@pv _ 1 _ _ (by rfl) (by first | exact .inl rfl | exact .inr (.inl rfl) | exact .inr (.inr rfl)) (by decide) (by decide)) Yc (by rfl)) (by omega) (by rfl) (by rfl) (by rfl) (by rfl)) (@Ym _ _ _ _ (@Yn _ _ _ _ _ _ _ _ _ _ _ _ _ _ _ _ ZW Zt hr (@Yl _ _ _ _ _ (@pv _ 0 _ _ (by rfl) (by first | exact .inl rfl | exact .inr (.inl rfl) | exact .inr (.inr rfl)) (by decide) (by decide)) rfl) (@Ya _ _ _ _ _ (@pv _ 1 _ _ (by rfl) (by first | exact .inl rfl | exact .inr (.inl rfl) | exact .inr (.inr rfl)) (by decide) (by decide)) Yc (by rfl)) (by omega) (by rfl) (by rfl) (by rfl) (by rfl)) (@Ym _ _ _ _ (@Yn _ _ _ _ _ _ _ _ _ _ _ _ _ _ _ _ ZS Zb hr (@Yl _ _ _ _ _ (@pv _ 0 _ _ (by rfl) (by first | exact .inl rfl | exact .inr (.inl rfl) | exact .inr (.inr rfl)) (by decide) (by decide)) rfl) (@Ya _ _ _ _ _ (@pv _ 1 _ _ (by rfl) (by first | exact .inl rfl | exact .inr (.inl rfl) | exact .inr (.inr rfl)) (by decide) (by decide)) Yc (by rfl)) (by omega) (by rfl) (by rfl) (by rfl) (by rfl)) (@Yn _ _ _ _ _ _ _ _ _ _ _ _ _ _ _ _ ZN Zf hr (@Yl _ _ _ _ _ (@pv _ 0 _ _ (by rfl) (by first | exact .inl rfl | exact .inr (.inl rfl) | exact .inr (.inr rfl)) (by decide) (by decide)) rfl) (@Ya _ _ _ _ _ (@pv _ 1 _ _ (by rfl) (by first | exact .inl rfl | exact .inr (.inl rfl) | exact .inr (.inr rfl)) (by decide) (by decide)) Yc (by rfl)) (by omega) (by rfl) (by rfl) (by rfl) (by rfl))))))))) (by rfl) (by first | exact .inl rfl | exact .inr rfl | assumption)) (@Yg _ _ _ (@Yo _ _ _ _ (@WJ _ _ _ _ _ _ _ _ (@Wg _ _ _ (@Yl _ _ _ _ _ (@pv _ 0 _ _ (by rfl) (by first | exact .inl rfl | exact .inr (.inl rfl) | exact .inr (.inr rfl)) (by decide) (by decide)) rfl) (by intro _;rfl)) (@Yx _ _ _ _ _ _ _ _ _ _ _ _ Z32 hr (@Ya _ _ _ _ _ (@pv _ 3 _ _ (by rfl) (by first | exact .inl rfl | exact .inr (.inl rfl) | exact .inr (.inr rfl)) (by decide) (by decide)) (@Ya _ _ _ _ _ (@pv _ 2 _ _ (by rfl) (by first | exact .inl rfl | exact .inr (.inl rfl) | exact .inr (.inr rfl)) (by decide) (by decide)) Yc (by rfl)) (by rfl)) (by omega) (by rfl) (by rfl) (by decide) (by rfl) (by rfl)) (@Yx _ _ _ _ _ _ _ _ _ _ _ _ F_bags_among hr (@Ya _ _ _ _ _ (@pv _ 3 _ _ (by rfl) (by first | exact .inl rfl | exact .inr (.inl rfl) | exact .inr (.inr rfl)) (by decide) (by decide)) (@Ya _ _ _ _ _ (@pv _ 2 _ _ (by rfl) (by first | exact .inl rfl | exact .inr (.inl rfl) | exact .inr (.inr rfl)) (by decide) (by decide)) Yc (by rfl)) (by rfl)) (by omega) (by rfl) (by rfl) (by decide) (by rfl) (by rfl)))))),?_⟩
 obtain ⟨a,dt,R,hga,hDT,hTT,hDR,hRR,hrl,hr60,hm10,hrows,hsm,hsB,hdp,hDp⟩:=WA W hg hT
 have hdr:dep (.cho un sh)=dep sh+1:=by rw [dep]
 walk_at "rd"
 have fm:fu w sz (dep sh)+6≤fu w sz (dep sh+1):=WF (by omega) (by omega)
 refine or8 (fun h=>⟨_,_,_,hTT,ZB,ZG,_,XU _ _ _,a,rfl,h⟩) (fun h=>⟨_,_,_,hTT,ZB,ZG,_,XU _ _ _,a,rfl,h⟩) (fun h=>⟨_,_,_,hTT,ZB,ZG,_,XU _ _ _,a,rfl,h⟩) (fun h=>⟨_,_,_,hTT,ZB,ZG,_,XU _ _ _,a,rfl,h⟩) (fun h=>⟨_,_,_,hTT,ZB,ZG,_,XU _ _ _,a,rfl,h⟩) (fun h=>⟨_,_,_,hTT,ZB,ZG,_,XU _ _ _,a,rfl,h⟩) (fun h=>⟨_,_,_,hTT,ZB,ZG,_,XU _ _ _,a,rfl,h⟩) (fun h=>⟨_,_,_,hTT,ZB,ZG,_,XU _ _ _,a,rfl,h⟩) ?_
 refine X3 W hga (by omega) (by omega) hR fun t2 H2 T2 hn2=>?_
 obtain ⟨hc0,b,hb,hcb⟩:=hsB sz (by omega)
 have qq:=q t2 H2 T2
 obtain ⟨x,hx⟩:∃ x:Nat,cnt w.bk sh sz=(x:Int):=⟨(cnt w.bk sh sz).toNat,by omega⟩
 rw [hx] at qq hcb ⊢
 rw [Int.toNat_natCast] at hcb
 unfold chI at qq
 rw [Int.toNat_natCast] at qq
 refine ⟨_,_,_,T2.fr _ _ hDT hTT,ZB,ZI,_,Ybg _ _ _,un,rfl,?_⟩
 cases un with
 | true =>
  rw [if_pos rfl] at qq ⊢
  exact ⟨x,k,b,rfl,hk,by omega,hcb,qq⟩
 | false =>
  rw [if_neg (by decide)] at qq ⊢
  exact ⟨x,k,b,rfl,hk,hb,hcb,qq⟩
def Rd (un:Bool) (c:Nat→Int) (H:Hp) (T:Addr) (l t:Nat):Prop:=∃ (cx dt a:Addr) (u:Bool) (R r:Addr) (rs:List Addr) (xs:List V),H T=some (.ins cx dt (fCt a u R))∧H R=some (.lst (rs.map V.ref))∧rs[t]?=some r∧H r=some (.lst xs)∧xs[l]?=some (.int (wy un c l t))
def Z33 (C:Cs) (l:Nat):Sp:=fun vs H Q _=>∃ (w:Wo) (t:Sw) (p T:Addr) (un:Bool) (sh:Sh) (ls left:Nat),vs=[.ref T,.int ls,.int left]∧WI C w t H∧w.reg p=some (.cho un sh)∧CTb C H p T∧left≤40∧1≤l ∧
 (((left=0∨left≤ls∨Rd un (cnt w.bk sh) H T ls left)∧Q (.int (wy un (cnt w.bk sh) ls left)) H) ∨
 (Uni t p∧t.ns p=left∧0<left∧ls<left∧t.ms p 0≤left∧fu w left (dep sh+1)+3≤l∧YZ w t left (dep sh+1)∧∀ t' H',Tr C w t H t' H' left (dep sh+2)→t'.ns p=t.ns p→Uni t' p→Q (.int (wy un (cnt w.bk sh) ls left)) H'))
def Z2X (C:Cs) (l:Nat):Sp:=fun vs H Q _=>∃ (w:Wo) (t:Sw) (p T r:Addr) (un:Bool) (sh:Sh) (ls left:Nat) (xs:List V),vs=[.ref T,.int ls,.int left]∧WI C w t H∧w.reg p=some (.cho un sh)∧CTb C H p T∧ls<left∧left≤40∧left≤t.ns p∧t.ms p 1=left∧(t.rs p)[left]?=some r∧w.D r=none∧H r=some (.lst xs)∧(∀ i,ls<i→i<left→xs[i]?=some (.int (wy un (cnt w.bk sh) i left)))∧fu w left (dep sh+1)+1≤l∧YZ w t left (dep sh+1) ∧
 ∀ D t' H',Tr C w t H t' H' left (dep sh+1)→H D=none→¬ t'.U D→Blk H' D ((List.range (left / (ls+1)+1)).map fun k=>(chI un (cnt w.bk sh ls) k,wy un (cnt w.bk sh) (ls+1) (left - k*(ls+1))))→Q (.ref D) H'
def VN (C:Cs) (l:Nat):Sp:=fun vs H Q _=>∃ (w:Wo) (t:Sw) (p T:Addr) (un:Bool) (sh:Sh) (j:Nat),vs=[.ref T,.int j]∧WI C w t H∧w.reg p=some (.cho un sh)∧CTb C H p T∧(∀ i,t.ms p i=j)∧j≤t.ns p∧t.ns p≤40∧fu w (t.ns p) (dep sh+1)+2≤l∧YZ w t (t.ns p) (dep sh+1) ∧
 ∀ t' H',TrB C w t H t' H' (t.ns p) (dep sh+2) p→(∀ i,t'.ms p i=j+1)→Q .non H'
theorem QI {C:Cs} {vs:List V} {H:Hp} {Q:VK} {E:XK} (h:Z33 C 0 vs H Q E):False:=by
 obtain ⟨w,t,p,T,un,sh,ls,left,_,_,_,_,_,h,_⟩:=h
 omega
theorem Ybi {C:Cs} {vs:List V} {H:Hp} {Q:VK} {E:XK} (h:Z2X C 0 vs H Q E):False:=by
 obtain ⟨w,t,p,T,r,un,sh,ls,left,xs,_,_,_,_,_,_,_,_,_,_,_,_,h,_⟩:=h
 omega
theorem YdB {C:Cs} {vs:List V} {H:Hp} {Q:VK} {E:XK} (h:VN C 0 vs H Q E):False:=by
 obtain ⟨w,t,p,T,un,sh,j,_,_,_,_,_,_,_,h,_⟩:=h
 omega
theorem VO (un:Bool) (c:Nat→Int) {l j:Nat} (h:l<j):(VC un c j)[l]?=some (V.int (wy un c l j)):=by
 unfold VC
 rw [List.getElem?_map,List.getElem?_range h];rfl
theorem Z1E {k:Nat} {Z3 Z0 Z1 Za Z5 Z4 Z7 Z9 Z6 Z8 Z2:Addr} (R:g.RawM Z1 "blocks_at" "ChoiceTable.blocks_at" Z0I ["self","least","left"]) (Z3V:g.Me k Z1 "choices" ["self","size","many"] (Z2W (Cs.mk Z2 Z6 Z7 Z9 Z5 Z4 Z8 Z3 Z0 Z1) m)) (Z13:g.Me k Z1 "ways_at" ["self","least","left"] (Z33 (Cs.mk Z2 Z6 Z7 Z9 Z5 Z4 Z8 Z3 Z0 Z1) m)) (ZP:g.mg "range"=none) (ZB:Cls g.K Z1) (ZG:Yb g.K Z1 "part") (ZI:Yb g.K Z1 "unlike") (ZH:Yb g.K Z1 "rows"):g.Me (k+1) Z1 "blocks_at" ["self","least","left"] (Z2X (Cs.mk Z2 Z6 Z7 Z9 Z5 Z4 Z8 Z3 Z0 Z1) (m+1)):=by
 refine R.me Z1B (fun vs H Q E h=>by obtain ⟨w,t,p,T,r,un,sh,ls,left,xs,rfl,W,hg,hT,hls,hl,hln,hm1,hrr,hDr,hrx,hxs,hf,hR,q⟩:=h;rfl) fun f_ cdv A outer s H vs Q E hr h=>?_
 obtain ⟨w,t,p,T,r,un,sh,ls,left,xs,rfl,W,hg,hT,hls,hl,hln,hm1,hrr,hDr,hrx,hxs,hf,hR,q⟩:=h
 refine ⟨_,(@Yh _ _ _ _ _ (@YA _ _ (3) _ _ _ _ Z1B.nd rfl (.inr rfl) (@Yi _ _ _ _ _ _ _ _ YI (@pv _ 1 _ _ (by rfl) (by first | exact .inl rfl | exact .inr (.inl rfl) | exact .inr (.inr rfl)) (by decide) (by decide)) Yf) (by rfl) (by first | exact .inl rfl | exact .inr rfl | assumption)) (@Yg _ _ _ (@Yo _ _ _ _ (@Wj _ _ _ _ _ _ _ ([none,some 1,some 0,some 2,some 3]) ((["many","least","self","left","taken"]:List Str)) _ (YL 0) _ _ (.own (.cap (i:=1) rfl rfl (by first | exact .inl rfl | exact .inr rfl) (.cap (i:=0) rfl rfl (by first | exact .inl rfl | exact .inr rfl) (.cap (i:=2) rfl rfl (by first | exact .inl rfl | exact .inr rfl) (.cap (i:=3) rfl rfl (by first | exact .inl rfl | exact .inr rfl) .nil))))) rfl (@Xd _ _ _ _ _ _ rfl ZP (@Ya _ _ _ _ _ (@Yi _ _ _ _ _ _ _ _ YI (@Yi _ _ _ _ _ _ _ _ YH (@pv _ 2 _ _ (by rfl) (by first | exact .inl rfl | exact .inr (.inl rfl) | exact .inr (.inr rfl)) (by decide) (by decide)) (@pv _ 3 _ _ (by rfl) (by first | exact .inl rfl | exact .inr (.inl rfl) | exact .inr (.inr rfl)) (by decide) (by decide))) Yf) Yc (by rfl)) (by rfl)) (fun cl C s₀ H₀ fp pn=>(@YF _ _ (0) _ (show List.Nodup (["many","least","self","left","taken"]:List Str) by decide +kernel) rfl (.inl rfl) (.inr rfl))) (fun cl C s₀ H₀ fp pn=>Xs) (fun cl C s₀ H₀ fp pn=>(@Xg _ _ _ _ _ (@Ya _ _ _ _ _ (@Yn _ _ _ _ _ _ _ _ _ _ _ _ _ _ _ _ Z3V ZB hr (@pv _ 2 _ _ (by rfl) (by first | exact .inl rfl | exact .inr (.inl rfl) | exact .inr (.inr rfl)) (by decide) (by decide)) (@Ya _ _ _ _ _ (@pv _ 1 _ _ (by rfl) (by first | exact .inl rfl | exact .inr (.inl rfl) | exact .inr (.inr rfl)) (by decide) (by decide)) (@Ya _ _ _ _ _ (@pv _ 0 _ _ (by rfl) (by first | exact .inl rfl | exact .inr (.inl rfl) | exact .inr (.inr rfl)) (by decide) (by decide)) Yc (by rfl)) (by rfl)) (by omega) (by rfl) (by rfl) (by rfl) (by rfl)) (@Ya _ _ _ _ _ (@Yn _ _ _ _ _ _ _ _ _ _ _ _ _ _ _ _ Z13 ZB hr (@pv _ 2 _ _ (by rfl) (by first | exact .inl rfl | exact .inr (.inl rfl) | exact .inr (.inr rfl)) (by decide) (by decide)) (@Ya _ _ _ _ _ (@Yi _ _ _ _ _ _ _ _ YI (@pv _ 1 _ _ (by rfl) (by first | exact .inl rfl | exact .inr (.inl rfl) | exact .inr (.inr rfl)) (by decide) (by decide)) Yf) (@Ya _ _ _ _ _ (@Yi _ _ _ _ _ _ _ _ YD (@pv _ 3 _ _ (by rfl) (by first | exact .inl rfl | exact .inr (.inl rfl) | exact .inr (.inr rfl)) (by decide) (by decide)) (@Yi _ _ _ _ _ _ _ _ Xt (@pv _ 0 _ _ (by rfl) (by first | exact .inl rfl | exact .inr (.inl rfl) | exact .inr (.inr rfl)) (by decide) (by decide)) (@pv _ 4 _ _ (by rfl) (by first | exact .inl rfl | exact .inr (.inl rfl) | exact .inr (.inr rfl)) (by decide) (by decide)))) Yc (by rfl)) (by rfl)) (by omega) (by rfl) (by rfl) (by rfl) (by rfl)) Yc (by rfl)) (by rfl)))) (by intro x hx;simp at hx;first | (subst hx;exact .inl rfl) | (rcases hx with rfl | rfl<;>exact .inl rfl) | (rcases hx with rfl | rfl | rfl<;>exact .inl rfl) | (rcases hx with rfl | rfl | rfl | rfl<;>exact .inl rfl) | (rcases hx with rfl | rfl | rfl | rfl | rfl<;>exact .inl rfl)) (by rfl) (by decide) (by decide +kernel) (by intro _;rfl))))),?_⟩
 obtain ⟨a,dt,R,hga,hDT,hTT,hDR,hRR,hrl,hr60,hm10,hrows,hsm,hsB,hdp,hDp⟩:=WA W hg hT
 have hdr:dep (.cho un sh)=dep sh+1:=by rw [dep]
 have hdl:left / (ls+1)≤left:=Nat.div_le_self _ _
 have hfl:=Wm (w:=w) (d:=dep sh+1) (Nat.le_of_lt hls)
 have hfp:1≤fu w left (dep sh+1):=by unfold fu;omega
 walk_at "rd"
 refine XI (n:=left / (ls+1)+1) (fun D i zs H'=>∃ t',Tr (Cs.mk Z2 Z6 Z7 Z9 Z5 Z4 Z8 Z3 Z0 Z1) w t H t' H' left (dep sh+1)∧zs.length=i∧H' D=some (.lst zs)∧¬ t'.U D∧∀ (j:Nat) x,zs[j]?=some x→∃ T,x = .ref T∧w.D T=none∧¬ t'.U T∧T≠D∧H' T=some (.tup [.int (chI un (cnt w.bk sh ls) j),.int (wy un (cnt w.bk sh) (ls+1) (left - j*(ls+1)))])) (fun R r=>by
  walk_at "rd"
  refine ⟨YX (by omega) (by omega),?_⟩
  have e:(left:Int) / ((ls:Int)+1)+1=((left / (ls+1)+1:Nat):Int):=by rw [Int.natCast_add,Int.natCast_ediv];rfl
  rw [e]
  exact r) (by omega) ?_ ?_ ?_ ?_
 ·intro D hD
  exact ⟨t,(Tr.refl W _ _).put hD (W.new hD).2 _,rfl,Ye,(W.new hD).2,fun j x hx=>by simp at hx⟩
 ·rintro D i zs H' ⟨t',_,h1,h2,_⟩
  exact ⟨h1,h2⟩
 ·rintro D i zs H' hD hi ⟨t',T1,hz,hd,hUD,hts⟩ R r'
  have dD:w.D D=none:=(W.new hD).1
  have him:i*(ls+1)≤left:=by
   have:=Nat.mul_le_mul_right (ls+1) (show i≤left / (ls+1) by omega)
   have:=Nat.div_mul_le_self left (ls+1)
   omega
  walk_at "rd"
  refine ⟨_,_,T1.fr _ _ hDT hTT,VD _ _ _ (by decide +kernel),w,t',p,T,un,sh,ls,i,rfl,T1.wi,hg,T1.ctb hDp hT,by omega,by omega,by omega,by omega,(T1.ready hR).mono (by omega),fun t2 H2 T2=>?_⟩
  have T12:=T1.trans (T2.mono (by omega))
  have own:=T12.own hg (by omega) hln
  have ownr:=T12.ownr hg (by omega) hln
  have hd2:=T2.fr _ _ dD hd
  have hUD2:=T2.ours hUD hd
  obtain ⟨a2,dt2,R2,_,_,hTT2,_,hRR2,hrl2,_,hm12,hrows2,_⟩:=WA T2.wi hg (T12.ctb hDp hT)
  have h20:t2.ms p 0=t.ms p 0:=by rw [own.2]
  have h21:t2.ms p 1=left:=by rw [own.2];exact hm1
  have rd:left - i*(ls+1)=0∨left - i*(ls+1)≤ls+1∨Rd un (cnt w.bk sh) H2 T (ls+1) (left - i*(ls+1)):=by
   by_cases c0:left - i*(ls+1)≤ls+1
   ·exact .inr (.inl c0)
   ·refine .inr (.inr ?_)
    by_cases i0:i=0
    ·subst i0
     rw [Nat.zero_mul,Nat.sub_zero] at c0 ⊢
     exact ⟨_,dt2,a2,un,R2,r,t2.rs p,xs,hTT2,hRR2,by rw [ownr];exact hrr,T12.fr _ _ hDr hrx,hxs (ls+1) (by omega) (by omega)⟩
    ·have hlt:left - i*(ls+1)<left:=by
      have:=Nat.mul_le_mul (show 1≤i by omega) (show 1≤ls+1 by omega)
      omega
     have hg2:(t2.rs p)[left - i*(ls+1)]?=some ((t2.rs p)[left - i*(ls+1)]'(by omega)):=List.getElem?_eq_getElem _
     exact ⟨_,dt2,a2,un,R2,_,t2.rs p,_,hTT2,hRR2,hg2,(hrows2 _ _ hg2 (by omega)).2,VO _ _ (by omega)⟩
  refine ⟨_,_,T12.fr _ _ hDT hTT,VD _ _ _ (by decide +kernel),.inl (cm (m:=7) (n:=7) (by omega) (by omega) (by decide)),w,t2,p,T,un,sh,ls+1,left - i*(ls+1),?_,T2.wi,hg,T12.ctb hDp hT,by omega,by omega,.inl ⟨rd,few (by decide),fun X gX=>?_⟩⟩
  ·rw [show (left:Int) - (i:Int)*((ls:Int)+1)=((left - i*(ls+1):Nat):Int) by rw [Int.natCast_sub him,Int.natCast_mul];rfl]
   rfl
  ·have nXD:X≠D:=Ne.symm (Yk hd2 gX)
   have sX:=Yq.upd_new gX (.tup [.int (chI un (cnt w.bk sh ls) i),.int (wy un (cnt w.bk sh) (ls+1) (left - i*(ls+1)))])
   refine r' _ _ (sX _ _ hd2) ⟨t2,(T12.same sX).put hD hUD2 _,by rw [List.length_append,hz];rfl,Ye,hUD2,fun j x hx=>?_⟩
   by_cases c:j<zs.length
   ·rw [List.getElem?_append_left c] at hx
    obtain ⟨Y,rfl,y1,y2,y3,y4⟩:=hts j x hx
    exact ⟨Y,rfl,y1,T2.ours y2 y4,y3,by rw [Yd y3];exact sX _ _ (T2.fr _ _ y1 y4)⟩
   ·have hj:j=zs.length:=by
     have:=(List.getElem?_eq_some_iff.mp hx).1
     rw [List.length_append,List.length_singleton] at this
     omega
    subst hj
    rw [List.getElem?_append_right (Nat.le_refl _),Nat.sub_self] at hx
    have:V.ref X=x:=Option.some.inj hx
    subst this
    exact ⟨X,rfl,(T2.wi.new gX).1,(T2.wi.new gX).2,nXD,by rw [Yd nXD,Ye,hz]⟩
 ·rintro D zs H' hD ⟨t',T1,hz,hd,hUD,hts⟩
  refine q D t' H' T1 hD hUD ⟨zs,hd,by rw [hz,List.length_map,List.length_range],fun j x y hx hy=>?_⟩
  obtain ⟨X,rfl,_,_,_,hX⟩:=hts j x hx
  have hj:=(List.getElem?_eq_some_iff.mp hx).1
  rw [List.getElem?_map,List.getElem?_range (by omega)] at hy
  have:=Option.some.inj hy
  subst this
  exact ⟨X,rfl,hX⟩
theorem Yaw {n j:Nat} (h:j<n):ixN n (j:Int)=some j:=by
 unfold ixN
 simp [h]
theorem Yax {n b k:Nat} (h:n<2^b) (hb:b≤90008) (hk:k≤64):sm (ch n k:Nat):=by
 refine ⟨b*k+1,?_,by rw [Int.natAbs_natCast];exact Yar k h⟩
 have:=Nat.mul_le_mul hb hk
 omega
theorem QJ {un:Bool} {x:Int} {k:Nat} (h:sB x) (hk:k≤64):sm (chI un x k):=by
 obtain ⟨h0,b,hb,hx⟩:=h
 unfold chI
 generalize x.toNat=n at hx
 cases un with
 | true=>rw [if_pos rfl];exact Yax hx (by omega) hk
 | false =>
  rw [if_neg (by decide)]
  cases n with
  | zero =>
   cases k with
   | zero=>rw [WE];exact ⟨1,by decide,by decide⟩
   | succ k=>rw [Wt];exact ⟨1,by decide,by decide⟩
  | succ n =>
   rw [WW]
   have:=VM hx
   exact Yax (b:=b+8) (by omega) (by omega) hk
theorem Z1W {k:Nat} {Z3 Z0 Z1 Za Z5 Z4 Z7 Z9 Z6 Z8 Z2:Addr} (R:g.RawM Z1 "add_row" "ChoiceTable.add_row" Z10 ["self","left"]) (Z1D:g.Fn k "ways_of" ["blocks"] (Z2q g.K)) (Z3f:g.Me k Z1 "blocks_at" ["self","least","left"] (Z2X (Cs.mk Z2 Z6 Z7 Z9 Z5 Z4 Z8 Z3 Z0 Z1) m)) (ZP:g.mg "range"=none) (ZB:Cls g.K Z1) (ZG:Yb g.K Z1 "part") (ZI:Yb g.K Z1 "unlike") (ZH:Yb g.K Z1 "rows"):g.Me (k+1) Z1 "add_row" ["self","left"] (VN (Cs.mk Z2 Z6 Z7 Z9 Z5 Z4 Z8 Z3 Z0 Z1) (m+1)):=by
 refine R.me Z0N (fun vs H Q E h=>by obtain ⟨w,t,p,T,un,sh,j,rfl,W,hg,hT,hms,hjn,hn,hf,hR,q⟩:=h;rfl) fun f_ cdv A outer s H vs Q E hr h=>?_
 obtain ⟨w,t,p,T,un,sh,j,rfl,W,hg,hT,hms,hjn,hn,hf,hR,q⟩:=h
 refine ⟨_,(@Yh _ _ _ _ _ (@YA _ _ (2) _ _ _ _ Z0N.nd rfl (.inl rfl) (@Yi _ _ _ _ _ _ _ _ Qr (@Xv _ _ _ _ (@Ya _ _ _ _ _ Yf Yc (by rfl))) (@pv _ 1 _ _ (by rfl) (by first | exact .inl rfl | exact .inr (.inl rfl) | exact .inr (.inr rfl)) (by decide) (by decide))) (by rfl) (by first | exact .inl rfl | exact .inr rfl | assumption)) (@Yh _ _ _ _ _ (@YS _ _ _ _ (@XN _ _ _ _ _ _ _ _ _ _ _ _ PySem.F.plainAttrs_list PySem.F.slot_list_append PySem.F.type_list_append Y5 (@Yl _ _ _ _ _ (@pv _ 0 _ _ (by rfl) (by first | exact .inl rfl | exact .inr (.inl rfl) | exact .inr (.inr rfl)) (by decide) (by decide)) rfl) (@Ya _ _ _ _ _ (@pv _ 2 _ _ (by rfl) (by first | exact .inl rfl | exact .inr (.inl rfl) | exact .inr (.inr rfl)) (by decide) (by decide)) Yc (by rfl)) (by rfl) (by rfl) (by rfl) (by rfl) (by rfl)) (by rfl)) (@Yg _ _ _ (@XR _ _ _ _ _ _ _ _ PassesOwn.never rfl (@UJ _ _ _ _ _ _ _ _ rfl ZP (@Ya _ _ _ _ _ (@Yi _ _ _ _ _ _ _ _ YD (@pv _ 1 _ _ (by rfl) (by first | exact .inl rfl | exact .inr (.inl rfl) | exact .inr (.inr rfl)) (by decide) (by decide)) Yf) (@Ya _ _ _ _ _ (@WC _ _ _ _ _ _ Wi Yf) (@Ya _ _ _ _ _ (@WC _ _ _ _ _ _ Wi Yf) Yc (by rfl)) (by rfl)) (by rfl)) (by rfl) (by rfl)) (@YF _ _ (3) _ Z0N.nd rfl (.inl rfl) (by first | exact .inl rfl | exact .inr rfl | assumption)) (@Yg _ _ _ (@YbD _ _ _ _ _ _ (@Yx _ _ _ _ _ _ _ _ _ _ _ _ Z1D hr (@Ya _ _ _ _ _ (@Yn _ _ _ _ _ _ _ _ _ _ _ _ _ _ _ _ Z3f ZB hr (@pv _ 0 _ _ (by rfl) (by first | exact .inl rfl | exact .inr (.inl rfl) | exact .inr (.inr rfl)) (by decide) (by decide)) (@Ya _ _ _ _ _ (@pv _ 3 _ _ (by rfl) (by first | exact .inl rfl | exact .inr (.inl rfl) | exact .inr (.inr rfl)) (by decide) (by decide)) (@Ya _ _ _ _ _ (@pv _ 1 _ _ (by rfl) (by first | exact .inl rfl | exact .inr (.inl rfl) | exact .inr (.inr rfl)) (by decide) (by decide)) Yc (by rfl)) (by rfl)) (by omega) (by rfl) (by rfl) (by rfl) (by rfl)) Yc (by rfl)) (by omega) (by rfl) (by rfl) (by decide) (by rfl) (by rfl)) (@YbC _ _ _ _ _ _ _ (@pv _ 2 _ _ (by rfl) (by first | exact .inl rfl | exact .inr (.inl rfl) | exact .inr (.inr rfl)) (by decide) (by decide)) (@pv _ 3 _ _ (by rfl) (by first | exact .inl rfl | exact .inr (.inl rfl) | exact .inr (.inr rfl)) (by decide) (by decide)) Qn (by intro _;rfl)) (by rfl) (by rfl) (by rfl))) (by intro _;rfl))))),?_⟩
 obtain ⟨a,dt,R,hga,hDT,hTT,hDR,hRR,hrl,hr60,hm10,hrows,hsm,hsB,hdp,hDp⟩:=WA W hg hT
 have hdr:dep (.cho un sh)=dep sh+1:=by rw [dep]
 have hbr:bnd (t.ns p) (dep sh+1) (.cho un sh)≤t.ns p:=by rw [bnd,if_neg (by omega)];exact Nat.le_refl _
 walk_at "rd"
 refine ⟨few (by decide),fun b gb=>⟨b,(j:Int),_,rfl,rfl,Ye,by omega,by omega,by rw [List.length_singleton,Int.toNat_natCast,Nat.one_mul];exact few (by omega),fun r gr=>?_⟩⟩
 have nrb:r≠b:=fun z=>by rw [z,Ye] at gr;cases gr
 have gr0:H r=none:=by rw [Yd nrb] at gr;exact gr
 have hDr:w.D r=none:=(W.new gr0).1
 have hrj:(t.rs p).length=j:=hrl.trans (hms 0)
 have hrr:(t.rs p++[r])[j]?=some r:=by rw [List.getElem?_append_right (by omega),hrj,Nat.sub_self];rfl
 generalize hz:(List.replicate (j:Int).toNat [V.int 0]).flatten=zs
 have hzl:zs.length=j:=by rw [← hz,Yal,Int.toNat_natCast,List.length_singleton,Nat.mul_one]
 have T0:TrB (Cs.mk Z2 Z6 Z7 Z9 Z5 Z4 Z8 Z3 Z0 Z1) w t H t H (t.ns p) (dep sh+2) p:=(Tr.refl W _ _).b rfl
 have T1:=(T0.put gb (W.new gb).2 (.lst [V.int 0])).put gr0 (W.new gr0).2 (.lst zs)
 have nRr:R≠r:=Yk hRR gr0
 have nRb:R≠b:=Yk hRR gb
 have hR1:(upd (upd H b (.lst [V.int 0])) r (.lst zs)) R=some (.lst ((t.rs p).map V.ref)):=(Yd nRr).trans ((Yd nRb).trans hRR)
 have T2:=T1.rowA r hg hDR (by rw [hms];omega)
 rw [List.map_append] at T2
 refine ⟨_,_,_,T1.fr _ _ hDT hTT,ZB,ZH,_,Wu _ _ _,.inl ⟨rfl,_,SqL.of hR1⟩,R,rfl,_,hR1,by rw [List.length_map,hrl,hms];exact few (by omega),?_⟩
 refine Ud (n:=j) (fun i σ H'=>∃ (t':Sw) (o:Option V) (xs:List V),σ=[some (.ref T),some (.int j),some (.ref r),o]∧TrB (Cs.mk Z2 Z6 Z7 Z9 Z5 Z4 Z8 Z3 Z0 Z1) w t H t' H' (t.ns p) (dep sh+2) p∧t'.ms p 0=j+1∧t'.ms p 1=j∧t'.rs p=t.rs p++[r]∧¬ t'.U r∧H' r=some (.lst xs)∧xs.length=j∧∀ l,j - i≤l→l<j→xs[l]?=some (.int (wy un (cnt w.bk sh) l j))) (fun R r=>by walk_at "rd";exact r) (by omega) ⟨_,none,zs,rfl,T2,(if_pos ⟨rfl,rfl⟩).trans (by rw [hms]),(if_neg (by omega)).trans (hms 1),if_pos rfl,(W.new gr0).2,(Yd (Ne.symm nRr)).trans Ye,hzl,fun l h1 h2=>by omega⟩ ?_ ?_
 ·rintro i σ H' hi ⟨t',o,xs,rfl,T3,h0,h1,hrs,hUr,hxr,hxl,hxs⟩
  obtain ⟨l,hl⟩:∃ l,l=j - 1 - i:=⟨_,rfl⟩
  rw [← hl]
  walk_at "rd"
  have hfj:=Wm (w:=w) (d:=dep sh+1) hjn
  refine ⟨_,_,T3.fr _ _ hDT hTT,VD _ _ _ (by decide +kernel),w,t',p,T,r,un,sh,l,j,xs,rfl,T3.wi,hg,T3.ctb hDp hT,by omega,by omega,by rw [T3.own];exact hjn,h1,by rw [hrs];exact hrr,hDr,hxr,fun k k1 k2=>hxs k (by omega) k2,by omega,(T3.ready hg hbr hR).mono (by omega),fun D t4 H4 T4 gD hUD hB=>?_⟩
  have hjn':j≤t'.ns p:=by rw [T3.own];exact hjn
  have own:=T4.own hg (by omega) hjn'
  have ownr:=T4.ownr hg (by omega) hjn'
  have hdl:j / (l+1)≤j:=Nat.div_le_self _ _
  have hlen:((List.range (j / (l+1)+1)).map fun k=>(chI un (cnt w.bk sh l) k,wy un (cnt w.bk sh) (l+1) (j - k*(l+1)))).length=j / (l+1)+1:=by simp
  refine ⟨D,_,rfl,hB,by rw [hlen];omega,fun x hx=>?_,fun H5 s5=>?_⟩
  ·obtain ⟨k,hk,rfl⟩:=List.mem_map.mp hx
   have hk:=List.mem_range.mp hk
   exact ⟨QJ (hsB l (by omega)) (by omega),hsm _ _ (by omega)⟩
  have T5:=(T3.trans ((T4.mono (by omega)).b own.1)).same s5
  have hUr4:=T4.ours hUr hxr
  have hx5:=s5 _ _ (T4.fr _ _ hDr hxr)
  have ev:(((List.range (j / (l+1)+1)).map fun k=>(chI un (cnt w.bk sh l) k,wy un (cnt w.bk sh) (l+1) (j - k*(l+1)))).map fun p=>p.1*p.2).sum=wy un (cnt w.bk sh) l j:=by
   rw [W9 (by omega),List.map_map]
   rfl
  rw [ev]
  refine ⟨xs,hx5,l,Yaw (by omega),t4,T5.put gr0 hUr4 _,by rw [own.2];exact h0,by rw [own.2];exact h1,by rw [ownr];exact hrs,hUr4,_,Ye,by rw [List.length_set];exact hxl,fun k k1 k2=>?_⟩
  by_cases e:k=l
  ·rw [e,List.getElem?_set_self (by omega)]
  ·rw [List.getElem?_set_ne (by omega)]
   exact hxs k (by omega) k2
 ·rintro σ H' ⟨t',o,xs,rfl,T3,h0,h1,hrs,hUr,hxr,hxl,hxs⟩
  walk_at "rd"
  have ex:xs=VC un (cnt w.bk sh) j:=by
   refine List.ext_getElem? fun l=>?_
   by_cases c:l<j
   ·rw [hxs l (by omega) c,VO _ _ c]
   ·rw [List.getElem?_eq_none (by omega),List.getElem?_eq_none (by unfold VC;rw [List.length_map,List.length_range];omega)]
  rw [ex] at hxr
  exact q _ H' (T3.rowB hg (j:=j) (by rw [hrs];exact hrr) h0 h1 hDr gr0 hxr) (fun i=>if_pos rfl)
theorem Z1X {k:Nat} {Z3 Z0 Z1 Za Z5 Z4 Z7 Z9 Z6 Z8 Z2:Addr} (R:g.RawM Z1 "ways_at" "ChoiceTable.ways_at" Z0Z ["self","least","left"]) (Z3W:g.Me k Z1 "add_row" ["self","left"] (VN (Cs.mk Z2 Z6 Z7 Z9 Z5 Z4 Z8 Z3 Z0 Z1) m)) (b_len:g.mg "len"=none) (ZB:Cls g.K Z1) (ZG:Yb g.K Z1 "part") (ZI:Yb g.K Z1 "unlike") (ZH:Yb g.K Z1 "rows"):g.Me (k+1) Z1 "ways_at" ["self","least","left"] (Z33 (Cs.mk Z2 Z6 Z7 Z9 Z5 Z4 Z8 Z3 Z0 Z1) (m+1)):=by
 refine R.me Z3t (fun vs H Q E h=>by obtain ⟨w,t,p,T,un,sh,ls,left,rfl,W,hg,hT,hl,hm1,hq⟩:=h;rfl) fun f_ cdv A outer s H vs Q E hr h=>?_
 obtain ⟨w,t,p,T,un,sh,ls,left,rfl,W,hg,hT,hl,hm1,hq⟩:=h
 refine ⟨_,(@Yh _ _ _ _ _ (@YO _ _ _ _ _ _ _ _ (@Yt _ _ _ _ _ _ _ _ Y4 (@pv _ 2 _ _ (by rfl) (by first | exact .inl rfl | exact .inr (.inl rfl) | exact .inr (.inr rfl)) (by decide) (by decide)) Yf (Yw _)) (@Yg _ _ _ (@Yo _ _ _ _ Yf)) YC) (@Yh _ _ _ _ _ (@YO _ _ _ _ _ _ _ _ (@Yt _ _ _ _ _ _ _ _ op_ge (@pv _ 1 _ _ (by rfl) (by first | exact .inl rfl | exact .inr (.inl rfl) | exact .inr (.inr rfl)) (by decide) (by decide)) (@pv _ 2 _ _ (by rfl) (by first | exact .inl rfl | exact .inr (.inl rfl) | exact .inr (.inr rfl)) (by decide) (by decide)) (Yw _)) (@Yg _ _ _ (@Yo _ _ _ _ Yf)) YC) (@Yh _ _ _ _ _ (@XA _ _ _ _ _ _ PassesOwn.never (@Yt _ _ _ _ _ _ _ _ Wx (@YT _ _ _ _ _ _ _ _ _ _ b_len Yu (@Ya _ _ _ _ _ (@Yl _ _ _ _ _ (@pv _ 0 _ _ (by rfl) (by first | exact .inl rfl | exact .inr (.inl rfl) | exact .inr (.inr rfl)) (by decide) (by decide)) rfl) Yc (by rfl)) (by decide +kernel) (by rfl) (by rfl) (by decide) (by decide) (by rfl) (by rfl)) (@pv _ 2 _ _ (by rfl) (by first | exact .inl rfl | exact .inr (.inl rfl) | exact .inr (.inr rfl)) (by decide) (by decide)) (Yw _)) (@Yg _ _ _ (@YS _ _ _ _ (@Yn _ _ _ _ _ _ _ _ _ _ _ _ _ _ _ _ Z3W ZB hr (@pv _ 0 _ _ (by rfl) (by first | exact .inl rfl | exact .inr (.inl rfl) | exact .inr (.inr rfl)) (by decide) (by decide)) (@Ya _ _ _ _ _ (@YT _ _ _ _ _ _ _ _ _ _ b_len Yu (@Ya _ _ _ _ _ (@Yl _ _ _ _ _ (@pv _ 0 _ _ (by rfl) (by first | exact .inl rfl | exact .inr (.inl rfl) | exact .inr (.inr rfl)) (by decide) (by decide)) rfl) Yc (by rfl)) (by decide +kernel) (by rfl) (by rfl) (by decide) (by decide) (by rfl) (by rfl)) Yc (by rfl)) (by omega) (by rfl) (by rfl) (by rfl) (by rfl)) (by rfl)))) (@Yg _ _ _ (@Yo _ _ _ _ (@YE _ _ _ _ _ _ _ YJ (@YE _ _ _ _ _ _ _ YJ (@Yl _ _ _ _ _ (@pv _ 0 _ _ (by rfl) (by first | exact .inl rfl | exact .inr (.inl rfl) | exact .inr (.inr rfl)) (by decide) (by decide)) rfl) (@pv _ 2 _ _ (by rfl) (by first | exact .inl rfl | exact .inr (.inl rfl) | exact .inr (.inr rfl)) (by decide) (by decide)) (fun _ _=>rfl)) (@pv _ 1 _ _ (by rfl) (by first | exact .inl rfl | exact .inr (.inl rfl) | exact .inr (.inr rfl)) (by decide) (by decide)) (fun _ _=>rfl))))))),?_⟩
 obtain ⟨a,dt,R,hga,hDT,hTT,hDR,hRR,hrl,hr60,hm10,hrows,hsm,hsB,hdp,hDp⟩:=WA W hg hT
 have hdr:dep (.cho un sh)=dep sh+1:=by rw [dep]
 walk_at "rd"
 refine XB (fun c=>?_) (fun c=>XB (fun c2=>?_) (fun c2=>?_))
 ·have e:left=0:=by omega
  rcases hq with ⟨_,hq⟩ | ⟨_,_,h,_⟩
  ·rw [e,XX] at hq
   exact hq
  ·omega
 ·rcases hq with ⟨_,hq⟩ | ⟨_,_,_,h,_⟩
  ·rw [X8 (by omega) (by omega)] at hq
   exact hq
  ·omega
 ·rcases hq with ⟨hr,hq⟩ | ⟨hU,hnl,h0,hll,hml,hf,hR,q⟩
  ·have hr:=(hr.resolve_left (by omega)).resolve_left (by omega)
   obtain ⟨cx,dt',a',u,R',r,rs,xs,r1,r2,r3,r4,r5⟩:=hr
   have e:=Option.some.inj (hTT.symm.trans r1)
   injection e with _ _ e3
   unfold fCt at e3
   injection e3 with _ e4
   injection e4 with _ e5
   injection e5 with e6 _
   injection e6 with _ e6
   have:=V.ref.inj e6
   subst this
   have hlt:=(List.getElem?_eq_some_iff.mp r3).1
   refine YV (α:=Unit) (fun x σ H'=>σ=[some (.ref T),some (.int ls),some (.int left)]∧H=H') (fun x=>false) (fun x=>0) () ⟨rfl,rfl⟩ ?_ ?_ ?_
   ·rintro x σ H' ⟨rfl,rfl⟩ Q' r'
    walk_at "rd"
    refine ⟨_,_,_,hTT,ZB,ZH,_,Wu _ _ _,R,rfl,_,.inl (SqL.of r2),?_⟩
    rw [List.length_map,dle,decide_eq_false (by omega)]
    exact r' H ⟨rfl,rfl⟩
   ·rintro x σ H' ⟨rfl,rfl⟩ hd
    cases hd
   ·rintro x σ H' ⟨rfl,rfl⟩ hd
    walk_at "rd"
    exact ⟨_,_,_,hTT,ZB,ZH,_,Wu _ _ _,R,rfl,_,SqL.of r2,.ref r,Yy (by rw [List.getElem?_map,r3];rfl),r,rfl,_,SqL.of r4,_,Yy r5,hq⟩
  ·have hbr:bnd left (dep sh+1) (.cho un sh)≤t.ns p:=by rw [bnd,if_neg (by omega)];omega
   refine YV (α:=Sw) (fun x σ H'=>σ=[some (.ref T),some (.int ls),some (.int left)]∧TrB (Cs.mk Z2 Z6 Z7 Z9 Z5 Z4 Z8 Z3 Z0 Z1) w t H x H' left (dep sh+2) p∧(∀ i,x.ms p i=x.ms p 0)∧x.ms p 0≤left+1) (fun x=>decide (x.ms p 0≤left)) (fun x=>left+1 - x.ms p 0) t ⟨rfl,(Tr.refl W _ _).b rfl,hU,by omega⟩ ?_ ?_ ?_
   ·rintro x σ H' ⟨rfl,T1,hxU,hxl⟩ Q' r'
    obtain ⟨a2,dt2,R2,_,_,hTT2,hDR2,hRR2,hrl2,_⟩:=WA T1.wi hg (T1.ctb hDp hT)
    walk_at "rd"
    refine ⟨_,_,_,hTT2,ZB,ZH,_,Wu _ _ _,R2,rfl,_,.inl (SqL.of hRR2),?_⟩
    rw [List.length_map,hrl2,dle]
    exact r' H' ⟨rfl,T1,hxU,hxl⟩
   ·rintro x σ H' ⟨rfl,T1,hxU,hxl⟩ hd
    have hd:x.ms p 0≤left:=of_decide_eq_true hd
    obtain ⟨a2,dt2,R2,_,_,hTT2,hDR2,hRR2,hrl2,_⟩:=WA T1.wi hg (T1.ctb hDp hT)
    have hxn:x.ns p=left:=T1.own.trans hnl
    walk_at "rd"
    refine ⟨_,_,hTT2,VD _ _ _ (by decide +kernel),_,_,_,hTT2,ZB,ZH,_,Wu _ _ _,R2,rfl,_,.inl (SqL.of hRR2),?_⟩
    rw [List.length_map,hrl2]
    refine ⟨w,x,p,T,un,sh,x.ms p 0,rfl,T1.wi,hg,T1.ctb hDp hT,hxU,by omega,by omega,by rw [hxn];omega,by rw [hxn];exact T1.ready hg hbr hR,fun t' H2 T2 e2=>?_⟩
    rw [hxn] at T2
    exact ⟨t',T1.trans T2,fun i=>by rw [e2,e2],by rw [e2];omega,by rw [e2];omega⟩
   ·rintro x σ H' ⟨rfl,T1,hxU,hxl⟩ hd
    have hd:¬ x.ms p 0≤left:=of_decide_eq_false hd
    obtain ⟨a2,dt2,R2,_,_,hTT2,hDR2,hRR2,hrl2,_,_,hrows2,_⟩:=WA T1.wi hg (T1.ctb hDp hT)
    have hg2:(x.rs p)[left]?=some ((x.rs p)[left]'(by omega)):=List.getElem?_eq_getElem _
    have hu1:=hxU 1
    have hrow:=(hrows2 _ _ hg2 (by omega)).2
    walk_at "rd"
    exact ⟨_,_,_,hTT2,ZB,ZH,_,Wu _ _ _,R2,rfl,_,SqL.of hRR2,_,Yy (by rw [List.getElem?_map,hg2];rfl),_,rfl,_,SqL.of hrow,_,Yy (VO _ _ hll),q x H' (T1.to hg (by omega) (by omega) hxU) T1.own hxU⟩
theorem Z1H {k:Nat} {Z3 Z0 Z1 Za Z5 Z4 Z7 Z9 Z6 Z8 Z2:Addr} (R:g.RawM Z0 "reckoned" "ChoiceMaker.reckoned" Z0L ["self","size"]) (Z13:g.Me k Z1 "ways_at" ["self","least","left"] (Z33 (Cs.mk Z2 Z6 Z7 Z9 Z5 Z4 Z8 Z3 Z0 Z1) m)) (Zf:Cls g.K Z0) (Zc:Yb g.K Z0 "counts") (Zv:Yb g.K Z0 "part") (Zn:Yb g.K Z0 "table") (ZB:Cls g.K Z1) (ZG:Yb g.K Z1 "part") (ZI:Yb g.K Z1 "unlike") (ZH:Yb g.K Z1 "rows"):g.Me (k+1) Z0 "reckoned" ["self","size"] (YM (Cs.mk Z2 Z6 Z7 Z9 Z5 Z4 Z8 Z3 Z0 Z1) 7 (m+1)):=by
 refine R.me Z3c (fun vs H Q E h=>by obtain ⟨w,t,p,sh,sz,rfl,hk,W,hg,hn,hs,hf,hR,q⟩:=h;rfl) fun f_ cdv A outer s H vs Q E hr h=>?_
 obtain ⟨w,t,p,sh,sz,rfl,hk,W,hg,hn,hs,hf,hR,q⟩:=h
 refine ⟨_,(@Yg _ _ _ (@Yo _ _ _ _ (@Yn _ _ _ _ _ _ _ _ _ _ _ _ _ _ _ _ Z13 ZB hr (@Yl _ _ _ _ _ (@pv _ 0 _ _ (by rfl) (by first | exact .inl rfl | exact .inr (.inl rfl) | exact .inr (.inr rfl)) (by decide) (by decide)) rfl) (@Ya _ _ _ _ _ Yf (@Ya _ _ _ _ _ (@pv _ 1 _ _ (by rfl) (by first | exact .inl rfl | exact .inr (.inl rfl) | exact .inr (.inr rfl)) (by decide) (by decide)) Yc (by rfl)) (by rfl)) (by omega) (by rfl) (by rfl) (by rfl) (by rfl)))),?_⟩
 cases sh with
 | cho un sh =>
  obtain ⟨dx,c,fs,hU,hd,hsm,hns,hp,hDc,hc,hsub⟩:=W.at_ p _ hg
  obtain ⟨a,T,dt,R,rs,rfl,h2,h3,h4,h5,h6,h7,h8,h9,h10,h11,h12,rfl⟩:=hsub
  have hT:CTb (Cs.mk Z2 Z6 Z7 Z9 Z5 Z4 Z8 Z3 Z0 Z1) H p T:=⟨dx,c,a,hp⟩
  have hdr:dep (.cho un sh)=dep sh+1:=by rw [dep]
  rw [hdr] at hf hR
  have hUni:Uni t p:=hR p _ hg (by rw [hn,bnd,if_pos (by omega)];omega)
  have q:=fun t' H' T e=>q t' H' T e (fun ps z=>by cases z)
  simp only [Ut] at q
  walk_at "rd"
  refine ⟨_,_,_,hp,Zf,Zn,_,Yb7 _ _ _,T,rfl,_,_,h4,VD _ _ _ (by decide +kernel),w,t,p,T,un,sh,0,sz,rfl,W,hg,hT,hs,by omega,?_⟩
  by_cases c0:sz=0
  ·exact .inl ⟨.inl c0,q t H (.refl W _ _) hn⟩
  by_cases c:sz<t.ms p 0
  ·have hg2:(t.rs p)[sz]?=some ((t.rs p)[sz]'(by omega)):=List.getElem?_eq_getElem _
   exact .inl ⟨.inr (.inr ⟨_,dt,a,un,R,_,t.rs p,_,h4,h6,hg2,(h10 _ _ hg2 (by rw [hUni 1];exact c)).2,VO _ _ (by omega)⟩),q t H (.refl W _ _) hn⟩
  ·exact .inr ⟨hUni,hn,by omega,by omega,by omega,by omega,hR.mono (by omega),fun t' H' T1 e1 _=>q t' H' (by rw [hdr];exact T1) (by omega)⟩
 | _=>simp [kind] at hk
abbrev Prs:=List (List Nat×Sh)
def bkO (prs:Prs) (x:List Nat):Sh:=((prs.find? fun q=>decide (q.1=x)).map (·.2)).getD (.row [])
def VU:Sh→Prop
 | .w _ _=>True
 | .t sg=>sg.length≤62
 | _=>False
mutual
def okS (prs:Prs):Sh→Prop
 | .w _ _=>True
 | .t sg=>sg.length≤62
 | .row ps=>ps.length≤100∧Xm prs ps
 | .pick mk ps=>mk.length=ps.length∧ps.length≤100∧Xm prs ps
 | .many p=>okS prs p
 | .alike p n=>0<n∧okS prs p
 | .cho _ p=>dep p≤4∧okS prs p
 | .use x=>∃ q,(prs.find? fun q=>decide (q.1=x))=some q∧VU q.2
def Xm (prs:Prs):List Sh→Prop
 | []=>True
 | p::ps=>okS prs p∧Xm prs ps
end
theorem Uv {prs:Prs} {p:Sh}:∀ {ps:List Sh},Xm prs ps→p∈ps→okS prs p
 | q::ps,h,hm=>by
  rw [Xm] at h
  rcases List.mem_cons.mp hm with rfl | hm
  ·exact h.1
  ·exact Uv h.2 hm
theorem QK {prs:Prs}:∀ {ps:List Sh} (i:Nat),Xm prs ps→Xm prs (ps.drop i)
 | _,0,h=>h
 | [],i+1,h=>h
 | q::ps,i+1,h=>by
  rw [Xm] at h
  exact QK i h.2
theorem Wb {prs:Prs} {q:Sh} (h:VU q):okS prs q:=by
 cases q with
 | w lo span=>rw [okS];trivial
 | t sg=>rw [okS];exact h
 | _=>cases h
theorem XV {q:Sh} (h:VU q):dep q=0:=by
 cases q with
 | w lo span=>simp [dep]
 | t sg=>simp [dep]
 | _=>cases h
mutual
def wt:Sh→Nat
 | .row ps=>wts ps+1
 | .pick _ ps=>wts ps+1
 | .many p=>wt p+1
 | .alike p _=>wt p+1
 | .cho _ p=>wt p+1
 | _=>1
def wts:List Sh→Nat
 | []=>0
 | p::ps=>wt p+wts ps
end
theorem XZ (sh:Sh):1≤wt sh:=by cases sh<;>simp [wt]
theorem Wc {q:Sh} (h:VU q):wt q=1:=by
 cases q with
 | w lo span=>simp [wt]
 | t sg=>simp [wt]
 | _=>cases h
theorem QL:∀ (ps:List Sh) (i:Nat),wts (ps.drop i)≤wts ps
 | _,0=>Nat.le_refl _
 | [],i+1=>Nat.le_refl _
 | q::ps,i+1=>by
  have:=QL ps i
  rw [List.drop_succ_cons,wts]
  omega
theorem V5 {a b:List Nat} (h:S a=S b):a=b:=by
 unfold S at h
 injection h with h
 have:=congrArg Array.toList h
 simpa using this
def kdm:PyData→Str
 | .tuple (.str x::_)=>x
 | _=>""
mutual
theorem WO {prs:Prs}:∀ {a b:Sh},okS prs a→okS prs b→kd a=kd b→a=b
 | .w lo span,.w lo' span',_,_,h=>by
  simp only [kd,PyData.tuple.injEq,List.cons.injEq,PyData.int.injEq,and_true,true_and] at h
  obtain ⟨rfl,h⟩:=h
  have:span=span':=by omega
  rw [this]
 | .t sg,.t sg',_,_,h=>by
  simp only [kd,PyData.tuple.injEq,List.cons.injEq,PyData.str.injEq,and_true,true_and] at h
  rw [V5 h]
 | .row ps,.row ps',h1,h2,h=>by
  simp only [kd,PyData.tuple.injEq,List.cons.injEq,and_true,true_and] at h
  rw [okS] at h1 h2
  rw [Yay h1.2 h2.2 h]
 | .pick mk ps,.pick mk' ps',h1,h2,h=>by
  simp only [kd,PyData.tuple.injEq,List.cons.injEq,and_true,true_and] at h
  rw [okS] at h1 h2
  obtain ⟨e1,e2⟩:=Yaz h1.1 h2.1 h1.2.2 h2.2.2 h
  rw [e1,e2]
 | .many p,.many p',h1,h2,h=>by
  simp only [kd,PyData.tuple.injEq,List.cons.injEq,and_true,true_and] at h
  rw [okS] at h1 h2
  rw [WO h1 h2 h]
 | .use x,.use x',_,_,h=>by
  simp only [kd,PyData.tuple.injEq,List.cons.injEq,PyData.str.injEq,and_true,true_and] at h
  rw [V5 h]
 | .alike p n,.alike p' n',h1,h2,h=>by
  simp only [kd,PyData.tuple.injEq,List.cons.injEq,PyData.int.injEq,and_true,true_and] at h
  rw [okS] at h1 h2
  have:n=n':=by omega
  rw [WO h1.2 h2.2 h.1,this]
 | .cho un p,.cho un' p',h1,h2,h=>by
  have e:un=un':=by
   have:=congrArg kdm h
   simp only [kd,kdm] at this
   cases un<;>cases un'<;>first | rfl | (revert this;decide +kernel)
  subst e
  simp only [kd,PyData.tuple.injEq,List.cons.injEq,and_true,true_and] at h
  rw [okS] at h1 h2
  rw [WO h1.2 h2.2 h]
 | .w _ _,.t _,_,_,h=>absurd (congrArg kdm h) (by simp only [kd,kdm];decide +kernel)
 | .w _ _,.row _,_,_,h=>absurd (congrArg kdm h) (by simp only [kd,kdm];decide +kernel)
 | .w _ _,.pick _ _,_,_,h=>absurd (congrArg kdm h) (by simp only [kd,kdm];decide +kernel)
 | .w _ _,.many _,_,_,h=>absurd (congrArg kdm h) (by simp only [kd,kdm];decide +kernel)
 | .w _ _,.use _,_,_,h=>absurd (congrArg kdm h) (by simp only [kd,kdm];decide +kernel)
 | .w _ _,.alike _ _,_,_,h=>absurd (congrArg kdm h) (by simp only [kd,kdm];decide +kernel)
 | .w _ _,.cho u _,_,_,h=>absurd (congrArg kdm h) (by cases u<;>simp only [kd,kdm]<;>decide +kernel)
 | .t _,.w _ _,_,_,h=>absurd (congrArg kdm h) (by simp only [kd,kdm];decide +kernel)
 | .t _,.row _,_,_,h=>absurd (congrArg kdm h) (by simp only [kd,kdm];decide +kernel)
 | .t _,.pick _ _,_,_,h=>absurd (congrArg kdm h) (by simp only [kd,kdm];decide +kernel)
 | .t _,.many _,_,_,h=>absurd (congrArg kdm h) (by simp only [kd,kdm];decide +kernel)
 | .t _,.use _,_,_,h=>absurd (congrArg kdm h) (by simp only [kd,kdm];decide +kernel)
 | .t _,.alike _ _,_,_,h=>absurd (congrArg kdm h) (by simp only [kd,kdm];decide +kernel)
 | .t _,.cho u _,_,_,h=>absurd (congrArg kdm h) (by cases u<;>simp only [kd,kdm]<;>decide +kernel)
 | .row _,.w _ _,_,_,h=>absurd (congrArg kdm h) (by simp only [kd,kdm];decide +kernel)
 | .row _,.t _,_,_,h=>absurd (congrArg kdm h) (by simp only [kd,kdm];decide +kernel)
 | .row _,.pick _ _,_,_,h=>absurd (congrArg kdm h) (by simp only [kd,kdm];decide +kernel)
 | .row _,.many _,_,_,h=>absurd (congrArg kdm h) (by simp only [kd,kdm];decide +kernel)
 | .row _,.use _,_,_,h=>absurd (congrArg kdm h) (by simp only [kd,kdm];decide +kernel)
 | .row _,.alike _ _,_,_,h=>absurd (congrArg kdm h) (by simp only [kd,kdm];decide +kernel)
 | .row _,.cho u _,_,_,h=>absurd (congrArg kdm h) (by cases u<;>simp only [kd,kdm]<;>decide +kernel)
 | .pick _ _,.w _ _,_,_,h=>absurd (congrArg kdm h) (by simp only [kd,kdm];decide +kernel)
 | .pick _ _,.t _,_,_,h=>absurd (congrArg kdm h) (by simp only [kd,kdm];decide +kernel)
 | .pick _ _,.row _,_,_,h=>absurd (congrArg kdm h) (by simp only [kd,kdm];decide +kernel)
 | .pick _ _,.many _,_,_,h=>absurd (congrArg kdm h) (by simp only [kd,kdm];decide +kernel)
 | .pick _ _,.use _,_,_,h=>absurd (congrArg kdm h) (by simp only [kd,kdm];decide +kernel)
 | .pick _ _,.alike _ _,_,_,h=>absurd (congrArg kdm h) (by simp only [kd,kdm];decide +kernel)
 | .pick _ _,.cho u _,_,_,h=>absurd (congrArg kdm h) (by cases u<;>simp only [kd,kdm]<;>decide +kernel)
 | .many _,.w _ _,_,_,h=>absurd (congrArg kdm h) (by simp only [kd,kdm];decide +kernel)
 | .many _,.t _,_,_,h=>absurd (congrArg kdm h) (by simp only [kd,kdm];decide +kernel)
 | .many _,.row _,_,_,h=>absurd (congrArg kdm h) (by simp only [kd,kdm];decide +kernel)
 | .many _,.pick _ _,_,_,h=>absurd (congrArg kdm h) (by simp only [kd,kdm];decide +kernel)
 | .many _,.use _,_,_,h=>absurd (congrArg kdm h) (by simp only [kd,kdm];decide +kernel)
 | .many _,.alike _ _,_,_,h=>absurd (congrArg kdm h) (by simp only [kd,kdm];decide +kernel)
 | .many _,.cho u _,_,_,h=>absurd (congrArg kdm h) (by cases u<;>simp only [kd,kdm]<;>decide +kernel)
 | .use _,.w _ _,_,_,h=>absurd (congrArg kdm h) (by simp only [kd,kdm];decide +kernel)
 | .use _,.t _,_,_,h=>absurd (congrArg kdm h) (by simp only [kd,kdm];decide +kernel)
 | .use _,.row _,_,_,h=>absurd (congrArg kdm h) (by simp only [kd,kdm];decide +kernel)
 | .use _,.pick _ _,_,_,h=>absurd (congrArg kdm h) (by simp only [kd,kdm];decide +kernel)
 | .use _,.many _,_,_,h=>absurd (congrArg kdm h) (by simp only [kd,kdm];decide +kernel)
 | .use _,.alike _ _,_,_,h=>absurd (congrArg kdm h) (by simp only [kd,kdm];decide +kernel)
 | .use _,.cho u _,_,_,h=>absurd (congrArg kdm h) (by cases u<;>simp only [kd,kdm]<;>decide +kernel)
 | .alike _ _,.w _ _,_,_,h=>absurd (congrArg kdm h) (by simp only [kd,kdm];decide +kernel)
 | .alike _ _,.t _,_,_,h=>absurd (congrArg kdm h) (by simp only [kd,kdm];decide +kernel)
 | .alike _ _,.row _,_,_,h=>absurd (congrArg kdm h) (by simp only [kd,kdm];decide +kernel)
 | .alike _ _,.pick _ _,_,_,h=>absurd (congrArg kdm h) (by simp only [kd,kdm];decide +kernel)
 | .alike _ _,.many _,_,_,h=>absurd (congrArg kdm h) (by simp only [kd,kdm];decide +kernel)
 | .alike _ _,.use _,_,_,h=>absurd (congrArg kdm h) (by simp only [kd,kdm];decide +kernel)
 | .alike _ _,.cho u _,_,_,h=>absurd (congrArg kdm h) (by cases u<;>simp only [kd,kdm]<;>decide +kernel)
 | .cho u _,.w _ _,_,_,h=>absurd (congrArg kdm h) (by cases u<;>simp only [kd,kdm]<;>decide +kernel)
 | .cho u _,.t _,_,_,h=>absurd (congrArg kdm h) (by cases u<;>simp only [kd,kdm]<;>decide +kernel)
 | .cho u _,.row _,_,_,h=>absurd (congrArg kdm h) (by cases u<;>simp only [kd,kdm]<;>decide +kernel)
 | .cho u _,.pick _ _,_,_,h=>absurd (congrArg kdm h) (by cases u<;>simp only [kd,kdm]<;>decide +kernel)
 | .cho u _,.many _,_,_,h=>absurd (congrArg kdm h) (by cases u<;>simp only [kd,kdm]<;>decide +kernel)
 | .cho u _,.use _,_,_,h=>absurd (congrArg kdm h) (by cases u<;>simp only [kd,kdm]<;>decide +kernel)
 | .cho u _,.alike _ _,_,_,h=>absurd (congrArg kdm h) (by cases u<;>simp only [kd,kdm]<;>decide +kernel)
theorem Yay {prs:Prs}:∀ {a b:List Sh},Xm prs a→Xm prs b→kds a=kds b→a=b
 | [],[],_,_,_=>rfl
 | p::ps,q::qs,h1,h2,h=>by
  rw [kds,kds] at h
  rw [Xm] at h1 h2
  injection h with e1 e2
  rw [WO h1.1 h2.1 e1,Yay h1.2 h2.2 e2]
 | [],_::_,_,_,h=>by simp [kds] at h
 | _::_,[],_,_,h=>by simp [kds] at h
theorem Yaz {prs:Prs}:∀ {mk mk':List (List Nat)} {a b:List Sh},mk.length=a.length→mk'.length=b.length→Xm prs a→Xm prs b→kdp mk a=kdp mk' b→mk=mk'∧a=b
 | [],[],[],[],_,_,_,_,_=>⟨rfl,rfl⟩
 | m::mk,m'::mk',p::ps,q::qs,l1,l2,h1,h2,h=>by
  rw [kdp,kdp] at h
  rw [Xm] at h1 h2
  injection h with e1 e2
  simp only [PyData.tuple.injEq,List.cons.injEq,PyData.str.injEq,and_true] at e1
  obtain ⟨r1,r2⟩:=Yaz (by simpa using l1) (by simpa using l2) h1.2 h2.2 e2
  rw [V5 e1.1,WO h1.1 h2.1 e1.2,r1,r2]
  exact ⟨rfl,rfl⟩
 | [],_,_::_,_,l,_,_,_,_=>by simp at l
 | _::_,_,[],_,l,_,_,_,_=>by simp at l
 | _,[],_,_::_,_,l,_,_,_=>by simp at l
 | _,_::_,_,[],_,l,_,_,_=>by simp at l
 | [],_::_,[],_::_,_,_,_,_,h=>by simp [kdp] at h
 | _::_,[],_::_,[],_,_,_,_,h=>by simp [kdp] at h
end
theorem Ue {B:Int}:∀ {l:List Int},(∀ x∈l,0≤x∧x≤B)→0≤l.sum∧l.sum≤l.length*B
 | [],_=>by simp
 | a::l,h=>by
  obtain ⟨h1,h2⟩:=h a (.head _)
  obtain ⟨h3,h4⟩:=Ue (l:=l) fun x hx=>h x (.tail _ hx)
  rw [List.sum_cons,List.length_cons,Int.natCast_succ,Int.add_mul]
  omega
theorem QM {a b:Int} {x y:Nat} (h1:0≤a) (h2:a≤2^x) (h3:0≤b) (h4:b≤2^y):0≤a*b∧a*b≤2^(x+y):=by
 refine ⟨Int.mul_nonneg h1 h3,?_⟩
 rw [Int.pow_add]
 exact Int.mul_le_mul h2 h4 h3 (Int.le_of_lt (Int.pow_pos (by decide)))
theorem Xr {a b:Nat} (h:a≤b):(2:Int)^a≤2^b:=by
 have:(2:Nat)^a≤2^b:=Nat.pow_le_pow_right (by decide) h
 exact_mod_cast this
theorem QN {n x:Nat} (h:n≤64):(n:Int)*2^x≤2^(6+x):=by
 rw [Int.pow_add]
 exact Int.mul_le_mul_of_nonneg_right (by omega) (Int.le_of_lt (Int.pow_pos (by decide)))
theorem YcE (span:Nat) (s:Nat):0≤wc span s∧wc span s≤2^s:=by
 have p:(0:Int)<2^s:=Int.pow_pos (by decide)
 unfold wc
 split
 ·split<;>omega
 ·omega
theorem Yd9 {un:Bool} {x:Int} {e m:Nat} (h0:0≤x) (hx:x≤2^e) (hm:m≤64):0≤chI un x m∧chI un x m≤2^((e+8)*m):=by
 have hn:x.toNat≤2^e:=by
  have:((x.toNat:Nat):Int)≤((2^e:Nat):Int):=by
   rw [Int.toNat_of_nonneg h0];exact_mod_cast hx
  exact_mod_cast this
 unfold chI
 generalize x.toNat=n at hn
 have key:∀ k:Nat,k≤2^(e+8)→ch k m≤2^((e+8)*m):=fun k hk=>by
  have h1:=WV k m
  have h2:=Nat.pow_le_pow_left hk m
  rw [← Nat.pow_mul] at h2
  omega
 have up:2^(e+8)=2^e*256:=by rw [Nat.pow_add]
 have pe:1≤2^e:=Nat.one_le_two_pow
 have pp:1≤2^((e+8)*m):=Nat.one_le_two_pow
 cases un with
 | true =>
  rw [if_pos rfl]
  have:=key n (by omega)
  exact ⟨by omega,by exact_mod_cast this⟩
 | false =>
  rw [if_neg (by decide)]
  cases n with
  | zero =>
   cases m with
   | zero=>rw [WE];exact ⟨by decide,by exact_mod_cast pp⟩
   | succ m=>rw [Wt];exact ⟨by decide,by exact_mod_cast Nat.zero_le _⟩
  | succ n =>
   rw [WW]
   have:=key (n+m) (by omega)
   exact ⟨by omega,by exact_mod_cast this⟩
theorem QO (x:Nat):(1:Int)≤2^x:=by
 have:1≤(2:Nat)^x:=Nat.one_le_two_pow
 exact_mod_cast this
theorem Ybj {un:Bool} {c:Nat→Int} {K B s:Nat} (h:∀ f,f<s→0≤c f∧c f≤2^(K*f+B)) (hs:s≤45):∀ (k l t:Nat),t - l≤k→t≤s→0≤wy un c l t∧wy un c l t≤2^((K+B+8)*t+6*(t - l))
 | k,l,t,hk,ht=>by
  by_cases h0:t=0
  ·rw [h0,XX]
   exact ⟨by decide,QO _⟩
  ·by_cases h1:t≤l
   ·rw [X8 (by omega) h1]
    exact ⟨by decide,Int.le_trans (by decide) (QO _)⟩
   ·obtain ⟨k,rfl⟩:∃ j,k=j+1:=⟨k - 1,by omega⟩
    have hdl:t / (l+1)≤t:=Nat.div_le_self _ _
    rw [W9 (by omega)]
    obtain ⟨h2,h3⟩:=Ue (B:=2^((K+B+8)*t+6*(t - l - 1))) (l:=(List.range (t / (l+1)+1)).map fun m=>chI un (c l) m*wy un c (l+1) (t - m*(l+1))) (fun x hx=>by
     obtain ⟨m,hm,rfl⟩:=List.mem_map.mp hx
     have hm:=List.mem_range.mp hm
     have hmt:m*(l+1)≤t:=by
      have:=Nat.mul_le_mul_right (l+1) (show m≤t / (l+1) by omega)
      have:=Nat.div_mul_le_self t (l+1)
      omega
     obtain ⟨c1,c2⟩:=h l (by omega)
     obtain ⟨a1,a2⟩:=Yd9 (un:=un) c1 c2 (show m≤64 by omega)
     obtain ⟨b1,b2⟩:=Ybj h hs k (l+1) (t - m*(l+1)) (by omega) (by omega)
     obtain ⟨d1,d2⟩:=QM a1 a2 b1 b2
     refine ⟨d1,Int.le_trans d2 (Xr ?_)⟩
     have e1:K*l+B+8≤(K+B+8)*(l+1):=by
      have:=Nat.mul_le_mul_right l (show K≤K+B+8 by omega)
      rw [Nat.mul_succ]
      omega
     have e2:=Nat.mul_le_mul_right m e1
     have e3:(K+B+8)*(l+1)*m=(K+B+8)*(m*(l+1)):=by rw [Nat.mul_assoc,Nat.mul_comm (l+1) m]
     have e4:(K+B+8)*(m*(l+1))+(K+B+8)*(t - m*(l+1))=(K+B+8)*t:=by
      rw [← Nat.mul_add]
      congr 1
      omega
     omega)
    refine ⟨h2,Int.le_trans h3 ?_⟩
    rw [List.length_map,List.length_range]
    exact Int.le_trans (QN (by omega)) (Xr (by omega))
theorem Kmul {K f s:Nat} (h:f≤s):K*f+K*(s - f)=K*s:=by
 rw [← Nat.mul_add]
 congr 1
 omega
mutual
theorem X0 (prs:Prs):∀ (sh:Sh) (s K:Nat),s≤45→okS prs sh→wt sh≤20→340*(dep sh+1)≤K→0≤cnt (bkO prs) sh s∧cnt (bkO prs) sh s≤2^(K*s+(12*wt sh - 6))
 | .w lo span,s,K,hs,h,hw,hK=>by
  have wp:=XZ (.w lo span)
  rw [Yc2]
  obtain ⟨h1,h2⟩:=YcE span s
  have:=Nat.mul_le_mul_right s (show 1≤K by omega)
  exact ⟨h1,Int.le_trans h2 (Xr (by omega))⟩
 | .t sg,s,K,hs,h,hw,hK=>by
  have wp:=XZ (.t sg)
  rw [Ub]
  rw [okS] at h
  have e:((sg.length:Int))^s≤(2^6)^s:=by
   have:sg.length^s≤(2^6)^s:=Nat.pow_le_pow_left (by omega) s
   exact_mod_cast this
  rw [← Int.pow_mul] at e
  have:=Nat.mul_le_mul_right s (show 6≤K by omega)
  exact ⟨Int.pow_nonneg (by omega),Int.le_trans e (Xr (by omega))⟩
 | .row ps,s,K,hs,h,hw,hK=>by
  rw [okS] at h
  rw [wt] at hw ⊢
  rw [dep] at hK
  rw [Us]
  obtain ⟨h1,h2⟩:=Uw prs ps s K hs h.2 (by omega) (by omega)
  exact ⟨h1,Int.le_trans h2 (Xr (by omega))⟩
 | .pick mk ps,s,K,hs,h,hw,hK=>by
  rw [okS] at h
  rw [wt] at hw ⊢
  rw [dep] at hK
  rw [QC]
  obtain ⟨h1,h2⟩:=YaA prs ps s K hs h.2.2 (by omega) (by omega)
  exact ⟨h1,Int.le_trans h2 (Xr (by omega))⟩
 | .many p,0,K,hs,h,hw,hK=>by
  rw [UL]
  exact ⟨by decide,Int.le_trans (by decide:(1:Int)≤2^0) (Xr (Nat.zero_le _))⟩
 | .many p,s+1,K,hs,h,hw,hK=>by
  rw [okS] at h
  have ew:wt (.many p)=wt p+1:=by rw [wt]
  have hKm:=hK
  rw [dep] at hK
  rw [QD]
  have wp:=XZ p
  obtain ⟨h1,h2⟩:=Ue (B:=2^(K*s+(12*wt p - 6)+(12*wt (.many p) - 6))) (l:=(List.range (s+1)).map fun f=>cnt (bkO prs) p f*cnt (bkO prs) (.many p) (s+1 - 1 - f)) (fun x hx=>by
   obtain ⟨f,hf,rfl⟩:=List.mem_map.mp hx
   have hf:=List.mem_range.mp hf
   obtain ⟨a1,a2⟩:=X0 prs p f K (by omega) h (by omega) (by omega)
   obtain ⟨b1,b2⟩:=X0 prs (.many p) (s - f) K (by omega) (by rw [okS];exact h) hw hKm
   have ek:=Kmul (K:=K) (show f≤s by omega)
   obtain ⟨c1,c2⟩:=QM a1 a2 b1 b2
   refine ⟨c1,Int.le_trans c2 (Xr ?_)⟩
   omega)
  refine ⟨h1,Int.le_trans h2 ?_⟩
  rw [List.length_map,List.length_range]
  have es:K*(s+1)=K*s+K:=Nat.mul_succ K s
  exact Int.le_trans (QN (by omega)) (Xr (by omega))
 | .alike p n,s,K,hs,h,hw,hK=>by
  rw [okS] at h
  have ew:wt (.alike p n)=wt p+1:=by rw [wt]
  rw [dep] at hK
  rw [VB]
  split
  ·exact ⟨by decide,Int.le_trans (by decide) (QO _)⟩
  ·rename_i c
   have hlt:s / n - 1<s:=by
    have:=Nat.div_le_self s n
    omega
   obtain ⟨h1,h2⟩:=X0 prs p (s / n - 1) K (by omega) h.2 (by omega) (by omega)
   have:=Nat.mul_le_mul_left K (show s / n - 1≤s by omega)
   exact ⟨h1,Int.le_trans h2 (Xr (by omega))⟩
 | .cho un p,s,K,hs,h,hw,hK=>by
  rw [okS] at h
  have ew:wt (.cho un p)=wt p+1:=by rw [wt]
  rw [dep] at hK
  rw [Ut]
  obtain ⟨K,rfl⟩:∃ k,K=k+340:=⟨K - 340,by omega⟩
  obtain ⟨h1,h2⟩:=Ybj (un:=un) (s:=s) (K:=K) (B:=12*wt p - 6) (fun f hf=>X0 prs p f K (by omega) h.2 (by omega) (by omega)) hs s 0 s (by omega) (Nat.le_refl _)
  have e1:=Nat.mul_le_mul_right s (show K+(12*wt p - 6)+8+6≤K+340 by omega)
  rw [Nat.add_mul _ 6] at e1
  exact ⟨h1,Int.le_trans h2 (Xr (by omega))⟩
 | .use x,0,K,hs,h,hw,hK=>by
  rw [QE]
  exact ⟨Int.le_refl _,Int.le_of_lt (Int.pow_pos (by decide))⟩
 | .use x,s+1,K,hs,h,hw,hK=>by
  rw [okS] at h
  obtain ⟨q,hq,hl⟩:=h
  have eb:bkO prs x=q.2:=by rw [bkO,hq];rfl
  have w1:wt q.2=1:=Wc hl
  rw [Yau,eb]
  have d1:dep q.2=0:=XV hl
  obtain ⟨h1,h2⟩:=X0 prs q.2 s K (by omega) (Wb hl) (by omega) (by omega)
  have es:K*(s+1)=K*s+K:=Nat.mul_succ K s
  exact ⟨h1,Int.le_trans h2 (Xr (by omega))⟩
termination_by sh s _=>(s,sizeOf sh)
decreasing_by
 all_goals simp only [Prod.lex_def]
 all_goals first | (right;exact ⟨trivial,by simp;omega⟩) | (right;exact ⟨rfl,by simp;omega⟩) | (right;exact ⟨trivial,by simp⟩) | (left;omega) | (by_cases c:f<s;(left;exact c);(right;exact ⟨by omega,by simp;omega⟩)) | (by_cases c:s - f<s;(left;exact c);(right;exact ⟨by omega,by simp;omega⟩)) | (right;simp) | (right;simp;omega)
theorem Uw (prs:Prs):∀ (ps:List Sh) (s K:Nat),s≤45→Xm prs ps→wts ps≤20→340*(YQ ps+1)≤K→0≤Y9 (bkO prs) ps s∧Y9 (bkO prs) ps s≤2^(K*s+12*wts ps)
 | [],s,K,hs,h,hw,hK=>by
  rw [QF]
  split
  ·exact ⟨by decide,Int.le_trans (by decide:(1:Int)≤2^0) (Xr (Nat.zero_le _))⟩
  ·exact ⟨Int.le_refl _,Int.le_of_lt (Int.pow_pos (by decide))⟩
 | p::ps,s,K,hs,h,hw,hK=>by
  rw [Xm] at h
  have ew:wts (p::ps)=wt p+wts ps:=by rw [wts]
  have wp:=XZ p
  rw [YQ] at hK
  rw [UM]
  obtain ⟨h1,h2⟩:=Ue (B:=2^(K*s+(12*wt p - 6)+12*wts ps)) (l:=(List.range (s+1)).map fun f=>cnt (bkO prs) p f*Y9 (bkO prs) ps (s - f)) (fun x hx=>by
   obtain ⟨f,hf,rfl⟩:=List.mem_map.mp hx
   have hf:=List.mem_range.mp hf
   obtain ⟨a1,a2⟩:=X0 prs p f K (by omega) h.1 (by omega) (by omega)
   obtain ⟨b1,b2⟩:=Uw prs ps (s - f) K (by omega) h.2 (by omega) (by omega)
   have ek:=Kmul (K:=K) (show f≤s by omega)
   obtain ⟨c1,c2⟩:=QM a1 a2 b1 b2
   refine ⟨c1,Int.le_trans c2 (Xr ?_)⟩
   omega)
  refine ⟨h1,Int.le_trans h2 ?_⟩
  rw [List.length_map,List.length_range]
  exact Int.le_trans (QN (by omega)) (Xr (by omega))
termination_by ps s _=>(s,sizeOf ps)
decreasing_by
 all_goals simp only [Prod.lex_def]
 all_goals first | (right;exact ⟨trivial,by simp;omega⟩) | (right;exact ⟨rfl,by simp;omega⟩) | (right;exact ⟨trivial,by simp⟩) | (left;omega) | (by_cases c:f<s;(left;exact c);(right;exact ⟨by omega,by simp;omega⟩)) | (by_cases c:s - f<s;(left;exact c);(right;exact ⟨by omega,by simp;omega⟩)) | (right;simp) | (right;simp;omega)
theorem YaA (prs:Prs):∀ (ps:List Sh) (s K:Nat),s≤45→Xm prs ps→wts ps≤20→340*(YQ ps+1)≤K→0≤(ps.map fun p=>cnt (bkO prs) p s).sum∧(ps.map fun p=>cnt (bkO prs) p s).sum≤2^(K*s+12*wts ps)
 | [],s,K,hs,h,hw,hK=>⟨Int.le_refl _,Int.le_of_lt (Int.pow_pos (by decide))⟩
 | p::ps,s,K,hs,h,hw,hK=>by
  rw [Xm] at h
  have ew:wts (p::ps)=wt p+wts ps:=by rw [wts]
  have wp:=XZ p
  rw [YQ] at hK
  obtain ⟨a1,a2⟩:=X0 prs p s K hs h.1 (by omega) (by omega)
  obtain ⟨b1,b2⟩:=YaA prs ps s K hs h.2 (by omega) (by omega)
  rw [List.map_cons,List.sum_cons]
  have c1:=Int.le_trans a2 (Xr (show K*s+(12*wt p - 6)≤K*s+12*wts (p::ps) - 1 by omega))
  have c2:=Int.le_trans b2 (Xr (show K*s+12*wts ps≤K*s+12*wts (p::ps) - 1 by omega))
  obtain ⟨n,hn⟩:∃ n,K*s+12*wts (p::ps)=n+1:=⟨K*s+12*wts (p::ps) - 1,by omega⟩
  rw [hn,Nat.add_sub_cancel] at c1 c2
  rw [hn,Int.pow_succ]
  omega
termination_by ps s _=>(s,sizeOf ps)
decreasing_by
 all_goals simp only [Prod.lex_def]
 all_goals first | (right;exact ⟨trivial,by simp;omega⟩) | (right;exact ⟨rfl,by simp;omega⟩) | (right;exact ⟨trivial,by simp⟩) | (left;omega) | (by_cases c:f<s;(left;exact c);(right;exact ⟨by omega,by simp;omega⟩)) | (by_cases c:s - f<s;(left;exact c);(right;exact ⟨by omega,by simp;omega⟩)) | (right;simp) | (right;simp;omega)
end
mutual
theorem XO:∀ sh:Sh,KO (kd sh)
 | .w _ _=>by rw [kd];exact .tup (.cons (.str _) (.cons (.int _) (.cons (.int _) .nil)))
 | .t _=>by rw [kd];exact .tup (.cons (.str _) (.cons (.str _) .nil))
 | .row ps=>by rw [kd];exact .tup (.cons (.str _) (.cons (.tup (Yb8 ps)) .nil))
 | .pick mk ps=>by rw [kd];exact .tup (.cons (.str _) (.cons (.tup (Yb9 mk ps)) .nil))
 | .many p=>by rw [kd];exact .tup (.cons (.str _) (.cons (XO p) .nil))
 | .alike p _=>by rw [kd];exact .tup (.cons (.str _) (.cons (XO p) (.cons (.int _) .nil)))
 | .use _=>by rw [kd];exact .tup (.cons (.str _) (.cons (.str _) .nil))
 | .cho _ p=>by rw [kd];exact .tup (.cons (.str _) (.cons (XO p) .nil))
theorem Yb8:∀ ps:List Sh,KOs (kds ps)
 | []=>by rw [kds];exact .nil
 | p::ps=>by rw [kds];exact .cons (XO p) (Yb8 ps)
theorem Yb9:∀ (mk:List (List Nat)) (ps:List Sh),KOs (kdp mk ps)
 | m::mk,p::ps=>by rw [kdp];exact .cons (.tup (.cons (.str _) (.cons (XO p) .nil))) (Yb9 mk ps)
 | [],_=>by simp only [kdp];exact .nil
 | _::_,[]=>by simp only [kdp];exact .nil
end
theorem Xl {K:PySem.W.Frag} {H:Hp} {v:V} {ds:List PyData} (h:Den K H v (.tuple ds)):∃ b vs,v = .ref b∧SqT K H b vs∧Dens K H vs ds:=by
 cases h with
 | tup h1 h2=>exact ⟨_,_,rfl,h1,h2⟩
theorem Wd {K:PySem.W.Frag} {H:Hp} {v:V} {x:Str} (h:Den K H v (.str x)):v = .str x:=by cases h;rfl
theorem Ux {K:PySem.W.Frag} {H:Hp} {v:V} {x:Int} (h:Den K H v (.int x)):v = .int x:=by cases h;rfl
theorem Xa {K:PySem.W.Frag} {H:Hp} {vs:List V} {d:PyData} {ds:List PyData} (h:Dens K H vs (d::ds)):∃ v r,vs=v::r∧Den K H v d∧Dens K H r ds:=by
 cases h with
 | cons h1 h2=>exact ⟨_,_,rfl,h1,h2⟩
theorem Wv {K:PySem.W.Frag} {H:Hp} {vs:List V} (h:Dens K H vs []):vs=[]:=by cases h;rfl
theorem Vc (sh:Sh):∃ ds,kd sh = .tuple ds:=by cases sh<;>exact ⟨_,by rw [kd]⟩
theorem QP {K:PySem.W.Frag} {H:Hp}:∀ {ps:List Sh} {vs:List V},Dens K H vs (kds ps)→∃ bs:List Addr,vs=bs.map V.ref∧bs.length=ps.length∧∀ (i:Nat) b q,bs[i]?=some b→ps[i]?=some q→Den K H (.ref b) (kd q)
 | [],vs,h=>by
  rw [kds] at h
  exact ⟨[],Wv h,rfl,fun i b q h=>by simp at h⟩
 | p::ps,vs,h=>by
  rw [kds] at h
  obtain ⟨v,r,rfl,h1,h2⟩:=Xa h
  obtain ⟨bs,rfl,hl,hb⟩:=QP h2
  obtain ⟨ds,hd⟩:=Vc p
  obtain ⟨b,_,rfl,_,_⟩:=Xl (by rw [hd] at h1;exact h1)
  refine ⟨b::bs,rfl,by simp [hl],fun i b' q e1 e2=>?_⟩
  cases i with
  | zero =>
   have z1:b=b':=Option.some.inj e1
   have z2:p=q:=Option.some.inj e2
   subst z1 z2
   exact h1
  | succ i=>exact hb i b' q (by simpa using e1) (by simpa using e2)
theorem VV {K:PySem.W.Frag} {H:Hp}:∀ {mk:List (List Nat)} {ps:List Sh} {vs:List V},mk.length=ps.length→Dens K H vs (kdp mk ps)→∃ ts bs:List Addr,vs=ts.map V.ref∧ts.length=ps.length∧bs.length=ps.length∧(∀ (i:Nat) T m b,ts[i]?=some T→mk[i]?=some m→bs[i]?=some b→SqT K H T [.str (S m),.ref b])∧∀ (i:Nat) b q,bs[i]?=some b→ps[i]?=some q→Den K H (.ref b) (kd q)
 | [],[],vs,_,h=>by
  rw [show kdp [] []=[] by simp [kdp]] at h
  exact ⟨[],[],Wv h,rfl,rfl,fun i T m b h=>by simp at h,fun i b q h=>by simp at h⟩
 | m::mk,p::ps,vs,hl,h=>by
  rw [kdp] at h
  obtain ⟨v,r,rfl,h1,h2⟩:=Xa h
  obtain ⟨ts,bs,rfl,l1,l2,hT,hb⟩:=VV (by simpa using hl) h2
  obtain ⟨T,us,rfl,h3,h4⟩:=Xl h1
  obtain ⟨u1,r1,rfl,h5,h6⟩:=Xa h4
  obtain ⟨u2,r2,rfl,h7,h8⟩:=Xa h6
  have:=Wv h8
  subst this
  have:=Wd h5
  subst this
  obtain ⟨ds,hd⟩:=Vc p
  obtain ⟨b,_,rfl,_,_⟩:=Xl (by rw [hd] at h7;exact h7)
  refine ⟨T::ts,b::bs,rfl,by simp [l1],by simp [l2],fun i T' m' b' e1 e2 e3=>?_,fun i b' q e1 e2=>?_⟩
  ·cases i with
   | zero =>
    have z1:T=T':=Option.some.inj e1
    have z2:m=m':=Option.some.inj e2
    have z3:b=b':=Option.some.inj e3
    subst z1 z2 z3
    exact h3
   | succ i=>exact hT i T' m' b' (by simpa using e1) (by simpa using e2) (by simpa using e3)
  ·cases i with
   | zero =>
    have z1:b=b':=Option.some.inj e1
    have z2:p=q:=Option.some.inj e2
    subst z1 z2
    exact h7
   | succ i=>exact hb i b' q (by simpa using e1) (by simpa using e2)
 | [],_::_,_,hl,_=>by simp at hl
 | _::_,[],_,hl,_=>by simp at hl
theorem UN {q:Sh}:∀ {ps:List Sh},q∈ps→(kd q).depth≤PyData.depthAll (kds ps)
 | p::ps,h=>by
  rw [kds]
  simp only [PyData.depthAll]
  rcases List.mem_cons.mp h with rfl | h
  ·omega
  ·have:=UN h
   omega
theorem UO {q:Sh}:∀ {mk:List (List Nat)} {ps:List Sh},mk.length=ps.length→q∈ps→(kd q).depth≤PyData.depthAll (kdp mk ps)
 | m::mk,p::ps,hl,h=>by
  rw [kdp]
  simp only [PyData.depthAll,PyData.depth]
  rcases List.mem_cons.mp h with rfl | h
  ·omega
  ·have:=UO (mk:=mk) (by simpa using hl) h
   omega
 | [],_::_,hl,_=>by simp at hl
def Xc:Sh→List Sh
 | .row ps=>ps
 | .pick _ ps=>ps
 | .many p=>[p]
 | .alike p _=>[p]
 | .cho _ p=>[p]
 | _=>[]
section
variable {src:List (Option Nat)} {te:TE} {σ:St} {H:Hp} {Q:VK}
theorem Uf {K:PySem.W.Frag} {tl:TE} {b:Addr} {xs:List V} (ps:List (V×V)) (ys:List V) (ha:∀ R:V→Hp→Prop,R (.ref b) H→tl σ H R) (hS:SqT K H b xs) (hp:∀ (i:Nat) x p,xs[i]?=some x→ps[i]?=some p→∃ T,x = .ref T∧SqT K H T [p.1,p.2]) (hl:ps.length=xs.length) (hl2:ys.length=xs.length) (hlen:xs.length≤100000)
  (step:∀ (i:Nat) p y H',ps[i]?=some p→ys[i]?=some y→Yq H H'→∀ R:VK,(∀ H'',Yq H' H''→R y H'')→te (some p.1::some p.2::Y6 src σ) H' R)
  (fin:∀ D H',H D=none→Yq H H'→H' D=some (.lst ys)→Q (.ref D) H'):tLC (none::none::src) (iTup K tl) (WZ K 2 (Xq (YL 0) (Xq (YL 1) WY))) Vk te σ H Q:=by
 refine ha _ ⟨b,rfl,⟨xs,hS⟩,fun D hD=>?_⟩
 have h6:100000<sizeLine:=by decide
 refine V4 (YbV.imp fun H' (e:Yq H H')=>e.tup hS) (fun i zs σ' H'=>zs=ys.take i∧(∃ o o',σ'=o::o'::Y6 src σ)∧Yq H H'∧H' D=some (.lst zs)) ⟨by simp,⟨none,none,rfl⟩,.upd_new hD _,Ye⟩ (fun i zs σ' H' p=>⟨p.2.2.1,p.2.2.2⟩) (VR K 0 1) ?_ ?_
 ·rintro i zs σ' H' x hx ⟨rfl,⟨o,o',rfl⟩,sm,hd⟩
  have hi:=(List.getElem?_eq_some_iff.mp hx).1
  have hy:ys[i]?=some (ys[i]'(by omega)):=List.getElem?_eq_getElem _
  have hpi:ps[i]?=some (ps[i]'(by omega)):=List.getElem?_eq_getElem _
  obtain ⟨T,rfl,hT⟩:=hp i x _ hx hpi
  refine ⟨T,_,rfl,sm.tup hT,rfl,_,_,rfl,_,_,rfl,rfl,?_⟩
  refine step i _ _ H' hpi hy sm _ fun H'' s2=>⟨s2 _ _ hd,?_,(WT hy).symm,⟨_,_,rfl⟩,.upd_over hD (sm.trans s2) _,Ye⟩
  rw [List.length_take];omega
 ·rintro zs σ' H' ⟨rfl,_,sm,hd⟩
  rw [← hl2,List.take_length] at hd
  exact fin D H' hD sm hd
theorem Ybk {K:PySem.W.Frag} {tl:TE} (G:Addr→List V→Hp→Prop) (ha:∀ R:V→Hp→Prop,(∀ b xs H1,G b xs H1→R (.ref b) H1)→tl σ H R)
  (hb:∀ b xs H1,G b xs H1→SqL K H1 b xs∧xs.length≤100000∧∃ I:Addr→Nat→List V→Hp→Prop,(∀ D,H1 D=none→I D 0 [] (upd H1 D (.lst [])))∧(∀ D i zs H',H1 D=none→I D i zs H'→zs.length=i∧H' D=some (.lst zs)∧SqL K H' b xs) ∧
   (∀ D (i:Nat) x zs H',H1 D=none→xs[i]?=some x→I D i zs H'→∀ R:VK,(∀ y H'',H'' D=some (.lst zs)→I D (i+1) (zs++[y]) (upd H'' D (.lst (zs++[y])))→R y H'')→te (some x::Y6 src σ) H' R) ∧
   (∀ D zs H',H1 D=none→I D xs.length zs H'→Q (.ref D) H')):tLC (none::src) (Vj K tl) (YL 0) Vk te σ H Q:=by
 refine ha _ fun b xs H1 hG=>?_
 obtain ⟨hS,hlen,I,i0,dl,step,fin⟩:=hb b xs H1 hG
 refine ⟨b,rfl,⟨xs,hS⟩,fun D hD=>?_⟩
 have h6:100000<sizeLine:=by decide
 refine V4 Vl (fun i zs σ' H'=>(∃ o,σ'=o::Y6 src σ)∧i≤xs.length∧I D i zs H') ⟨⟨none,rfl⟩,Nat.zero_le _,i0 D hD⟩ (fun i zs σ' H' q=>⟨(dl _ _ _ _ hD q.2.2).2.2,(dl _ _ _ _ hD q.2.2).2.1⟩) (Vm 0) ?_ ?_
 ·rintro i zs σ' H' x hx ⟨⟨o,rfl⟩,_,hI⟩
  have hi:i<xs.length:=(List.getElem?_eq_some_iff.mp hx).1
  have hl:=(dl _ _ _ _ hD hI).1
  show te (some x::Y6 src σ) H' _
  exact step D i x zs H' hD hx hI _ fun y H'' hd hI'=>⟨hd,by omega,⟨_,rfl⟩,hi,hI'⟩
 ·rintro zs σ' H' ⟨_,_,hI⟩
  exact fin D zs H' hD hI
end
theorem VW {K:PySem.W.Frag} {H:Hp} {a:Addr} {x:Str} {d:PyData} (h:Den K H (.ref a) (.tuple [.str x,d])):∃ v,SqT K H a [.str x,v]∧Den K H v d:=by
 obtain ⟨b,vs,e,h1,h2⟩:=Xl h
 have:=V.ref.inj e
 subst this
 obtain ⟨u1,r1,rfl,h5,h6⟩:=Xa h2
 obtain ⟨u2,r2,rfl,h7,h8⟩:=Xa h6
 have:=Wv h8
 subst this
 have:=Wd h5
 subst this
 exact ⟨u2,h1,h7⟩
theorem den3 {K:PySem.W.Frag} {H:Hp} {a:Addr} {x:Str} {d:PyData} {n:Int} (h:Den K H (.ref a) (.tuple [.str x,d,.int n])):∃ v,SqT K H a [.str x,v,.int n]∧Den K H v d:=by
 obtain ⟨b,vs,e,h1,h2⟩:=Xl h
 have:=V.ref.inj e
 subst this
 obtain ⟨u1,r1,rfl,h5,h6⟩:=Xa h2
 obtain ⟨u2,r2,rfl,h7,h8⟩:=Xa h6
 obtain ⟨u3,r3,rfl,h9,h10⟩:=Xa h8
 have:=Wv h10
 subst this
 have:=Wd h5
 subst this
 have:=Ux h9
 subst this
 exact ⟨u2,h1,h7⟩
theorem YcF {q:Sh} {prs:Prs} {sh:Sh} (hok:okS prs sh) (h:q∈Xc sh):(kd q).depth≤(kd sh).depth:=by
 cases sh with
 | row ps =>
  have:=UN (ps:=ps) h
  rw [show kd (.row ps) = .tuple [.str "row",.tuple (kds ps)] by rw [kd]]
  simp only [PyData.depth,PyData.depthAll]
  omega
 | pick mk ps =>
  rw [okS] at hok
  have:=UO (ps:=ps) hok.1 h
  rw [show kd (.pick mk ps) = .tuple [.str "pick",.tuple (kdp mk ps)] by rw [kd]]
  simp only [PyData.depth,PyData.depthAll]
  omega
 | many p =>
  have:q=p:=by simpa [Xc] using h
  subst this
  rw [show kd (.many q) = .tuple [.str "many",kd q] by rw [kd]]
  simp only [PyData.depth,PyData.depthAll]
  omega
 | alike p n =>
  have:q=p:=by simpa [Xc] using h
  subst this
  rw [show kd (.alike q n) = .tuple [.str "alike",kd q,.int n] by rw [kd]]
  simp only [PyData.depth,PyData.depthAll]
  omega
 | cho un p =>
  have:q=p:=by simpa [Xc] using h
  subst this
  rw [show kd (.cho un q) = .tuple [.str (if un then "unlike" else "rising"),kd q] by rw [kd]]
  simp only [PyData.depth,PyData.depthAll]
  omega
 | _=>cases h
theorem Vd {K:PySem.W.Frag} {H:Hp} {a b:Addr} {prs:Prs} {sh q:Sh} (hk:DK K H a (kd sh)) (hok:okS prs sh) (h:q∈Xc sh) (hb:Den K H (.ref b) (kd q)):DK K H b (kd q):=⟨hb,XO q,Nat.le_trans (YcF hok h) hk.dp⟩
def Z3x (K:PySem.W.Frag):Sp:=fun vs H Q _=>∃ (prs:Prs) (a:Addr) (sh:Sh),vs=[.ref a]∧DK K H a (kd sh)∧okS prs sh∧(kind sh=2∨kind sh=3∨kind sh=4∨kind sh=6∨kind sh=7) ∧
 ∀ D (bs:List Addr) H',Yq H H'→H D=none→H' D=some (.lst (bs.map V.ref))→bs.length=(Xc sh).length→(∀ (i:Nat) b q,bs[i]?=some b→(Xc sh)[i]?=some q→DK K H b (kd q))→Q (.ref D) H'
theorem Q4 {Z3 Z0 Z1 Za Z5 Z4 Z7 Z9 Z6 Z8 Z2:Addr} (R:g.Raw "parts_of" "parts_of" Z48 ["shape"]) (b_list:g.mg "list"=none) (Z4I:g.ConT "OF_ONE_PART" ([.str "many",.str "rising",.str "unlike"])):g.Fn (1) "parts_of" ["shape"] (Z3x g.K):=by
 refine R.fn Z5o (fun vs H Q E h=>by obtain ⟨prs,a,sh,rfl,hk,hok,hki,q⟩:=h;rfl) fun f_ cdv A outer s H vs Q E hr h=>?_
 obtain ⟨prs,a,sh,rfl,hk,hok,hki,q⟩:=h
 refine ⟨_,(@Yh _ _ _ _ _ (@YA _ _ (1) _ _ _ _ Z5o.nd rfl (.inl rfl) (@YE _ _ _ _ _ _ _ Xx (@pv _ 0 _ _ (by rfl) (by first | exact .inl rfl | exact .inr (.inl rfl) | exact .inr (.inr rfl)) (by decide) (by decide)) Yf (fun _ _=>rfl)) (by rfl) (by first | exact .inl rfl | exact .inr rfl | assumption)) (@Yh _ _ _ _ _ (@YO _ _ _ _ _ _ _ _ (@Yt _ _ _ _ _ _ _ _ Y4 (@pv _ 1 _ _ (by rfl) (by first | exact .inl rfl | exact .inr (.inl rfl) | exact .inr (.inr rfl)) (by decide) (by decide)) Y1 (Yw _)) (@Yg _ _ _ (@Yo _ _ _ _ (@pe_bt _ _ _ _ _ _ _ _ _ _ b_list Qq (@Ya _ _ _ _ _ (@YE _ _ _ _ _ _ _ Xx (@pv _ 0 _ _ (by rfl) (by first | exact .inl rfl | exact .inr (.inl rfl) | exact .inr (.inr rfl)) (by decide) (by decide)) Yf (fun _ _=>rfl)) Yc (by rfl)) (by decide +kernel) (by rfl) (by rfl) (by decide) (by decide) (by rfl) (by rfl)))) YC) (@Yh _ _ _ _ _ (@YO _ _ _ _ _ _ _ _ (@Yt _ _ _ _ _ _ _ _ Y4 (@pv _ 1 _ _ (by rfl) (by first | exact .inl rfl | exact .inr (.inl rfl) | exact .inr (.inr rfl)) (by decide) (by decide)) Y1 (Yw _)) (@Yg _ _ _ (@Yo _ _ _ _ (@Wj _ _ _ _ _ _ _ ([none,none]) ((["mark","part"]:List Str)) _ (WZ g.K 2 (Xq (YL 0) (Xq (YL 1) WY))) _ _ (.own (.own .nil)) rfl (@YbG _ _ _ _ (@YE _ _ _ _ _ _ _ Xx (@pv _ 0 _ _ (by rfl) (by first | exact .inl rfl | exact .inr (.inl rfl) | exact .inr (.inr rfl)) (by decide) (by decide)) Yf (fun _ _=>rfl))) (fun cl C s₀ H₀ fp pn=>(@VY _ _ _ _ _ (2) rfl (@XQ _ _ _ _ _ (@YF _ _ (0) _ (show List.Nodup (["mark","part"]:List Str) by decide +kernel) rfl (.inl rfl) (.inr rfl)) (@XQ _ _ _ _ _ (@YF _ _ (1) _ (show List.Nodup (["mark","part"]:List Str) by decide +kernel) rfl (.inl rfl) (.inr rfl)) VI (by rfl)) (by rfl)) (by rfl) (by rfl))) (fun cl C s₀ H₀ fp pn=>Xs) (fun cl C s₀ H₀ fp pn=>(@pv _ 1 _ _ (by rfl) (by first | exact .inl rfl | exact .inr (.inl rfl) | exact .inr (.inr rfl)) (by decide) (by decide))) (by intro x hx;simp at hx) (by rfl) (by decide) (by decide +kernel) (by intro _;rfl)))) YC) (@Yh _ _ _ _ _ (@YO _ _ _ _ _ _ _ _ (@VX _ _ _ _ _ _ _ (@Yt _ _ _ _ _ _ _ _ Y4 (@pv _ 1 _ _ (by rfl) (by first | exact .inl rfl | exact .inr (.inl rfl) | exact .inr (.inr rfl)) (by decide) (by decide)) Y1 (Yw _)) (@Vt _ _ _ _ (@Yt _ _ _ _ _ _ _ _ YbR (@pv _ 1 _ _ (by rfl) (by first | exact .inl rfl | exact .inr (.inl rfl) | exact .inr (.inr rfl)) (by decide) (by decide)) (@pe_gt _ _ _ _ _ Z4I (by rfl) (by rfl) (by decide)) rfl))).pt (@Yg _ _ _ (@Yo _ _ _ _ (@Xv _ _ _ _ (@Ya _ _ _ _ _ (@YE _ _ _ _ _ _ _ Xx (@pv _ 0 _ _ (by rfl) (by first | exact .inl rfl | exact .inr (.inl rfl) | exact .inr (.inr rfl)) (by decide) (by decide)) Yf (fun _ _=>rfl)) Yc (by rfl))))) YC) (@Yg _ _ _ Qg))))),?_⟩
 walk_at "rd"
 cases sh with
 | row ps =>
  have hd:=hk.den
  rw [kd] at hd
  obtain ⟨v,hT,hv⟩:=VW hd
  obtain ⟨b,vs,rfl,hb,hvs⟩:=Xl hv
  obtain ⟨bs,rfl,hl,hbs⟩:=QP hvs
  exact ⟨_,hT,_,Yy (j:=0) rfl,YU _ _,X2 rfl ⟨_,hT,_,Yy (j:=1) rfl,b,rfl,_,.inr hb,fun l hl'=>q l bs _ (.upd_new hl' _) hl' Ye hl fun i b' q' h1 h2=>Vd hk hok (List.mem_of_getElem? h2) (hbs i b' q' h1 h2)⟩⟩
 | pick mk ps =>
  have hd:=hk.den
  have hok':=hok
  rw [okS] at hok'
  rw [kd] at hd
  obtain ⟨v,hT,hv⟩:=VW hd
  obtain ⟨b,vs,rfl,hb,hvs⟩:=Xl hv
  obtain ⟨ts,bs,rfl,hl1,hl2,hts,hbs⟩:=VV hok'.1 hvs
  refine ⟨_,hT,_,Yy (j:=0) rfl,YU _ _,YW (by decide +kernel) ⟨YU _ _,X2 rfl ?_⟩⟩
  have hlz:((mk.zip bs).map fun p=>(V.str (S p.1),V.ref p.2)).length=bs.length:=by rw [List.length_map,List.length_zip];omega
  refine Uf (K:=g.K) (b:=b) (xs:=ts.map V.ref) ((mk.zip bs).map fun p=>(V.str (S p.1),V.ref p.2)) (bs.map V.ref) (fun R r=>by walk_at "rd";exact ⟨_,hT,_,Yy (j:=1) rfl,r⟩) hb ?_ (by rw [hlz,List.length_map];omega) (by rw [List.length_map,List.length_map];omega) (by rw [List.length_map];omega) ?_ ?_
  ·intro i x p hx hp
   rw [List.getElem?_map] at hx hp
   obtain ⟨T,hT',rfl⟩:=Option.map_eq_some_iff.mp hx
   obtain ⟨⟨m,b'⟩,hz,rfl⟩:=Option.map_eq_some_iff.mp hp
   rw [List.getElem?_zip_eq_some] at hz
   exact ⟨T,rfl,hts i T m b' hT' hz.1 hz.2⟩
  ·intro i p y H' hp hy sm R r
   rw [List.getElem?_map] at hp hy
   obtain ⟨⟨m,b'⟩,hz,rfl⟩:=Option.map_eq_some_iff.mp hp
   rw [List.getElem?_zip_eq_some] at hz
   rw [hz.2] at hy
   have:V.ref b'=y:=Option.some.inj hy
   subst this
   walk_at "rd"
   exact r H' (.refl _)
  ·intro D H' hD sm hd'
   exact q D bs H' sm hD hd' hl2 fun i b' q' h1 h2=>Vd hk hok (List.mem_of_getElem? h2) (hbs i b' q' h1 h2)
 | many p =>
  have hd:=hk.den
  rw [kd] at hd
  obtain ⟨v,hT,hv⟩:=VW hd
  obtain ⟨ds,hds⟩:=Vc p
  obtain ⟨b,_,rfl,_,_⟩:=Xl (by rw [hds] at hv;exact hv)
  refine ⟨_,hT,_,Yy (j:=0) rfl,YU _ _,YW (by decide +kernel) ⟨YU _ _,YW (by decide +kernel) ⟨YU _ _,YW (by decide +kernel) fun c hc=>⟨_,.inr hc,rfl,rfl,X2 (by decide +kernel) ⟨_,hT,_,Yy (j:=1) rfl,few (by decide),fun l hl'=>q l [b] _ (.upd_new hl' _) hl' Ye rfl fun i b' q' h1 h2=>?_⟩⟩⟩⟩⟩
  cases i with
  | zero =>
   have z1:b=b':=Option.some.inj h1
   have z2:p=q':=Option.some.inj h2
   subst z1 z2
   exact Vd hk hok (.head _) hv
  | succ i=>simp at h1
 | alike p n =>
  have hd:=hk.den
  rw [kd] at hd
  obtain ⟨v,hT,hv⟩:=den3 hd
  obtain ⟨ds,hds⟩:=Vc p
  obtain ⟨b,_,rfl,_,_⟩:=Xl (by rw [hds] at hv;exact hv)
  refine ⟨_,hT,_,Yy (j:=0) rfl,YU _ _,YW (by decide +kernel) ⟨YU _ _,YW (by decide +kernel) ⟨YU _ _,X2 rfl ⟨_,hT,_,Yy (j:=1) rfl,few (by decide),fun l hl'=>q l [b] _ (.upd_new hl' _) hl' Ye rfl fun i b' q' h1 h2=>?_⟩⟩⟩⟩
  cases i with
  | zero =>
   have z1:b=b':=Option.some.inj h1
   have z2:p=q':=Option.some.inj h2
   subst z1 z2
   exact Vd hk hok (.head _) hv
  | succ i=>simp at h1
 | cho un p =>
  have hd:=hk.den
  rw [kd] at hd
  obtain ⟨v,hT,hv⟩:=VW hd
  obtain ⟨ds,hds⟩:=Vc p
  obtain ⟨b,_,rfl,_,_⟩:=Xl (by rw [hds] at hv;exact hv)
  have fin:∀ l,H l=none→Q (.ref l) (upd H l (.lst [.ref b])):=fun l hl'=>q l [b] _ (.upd_new hl' _) hl' Ye rfl fun i b' q' h1 h2=>by
   cases i with
   | zero =>
    have z1:b=b':=Option.some.inj h1
    have z2:p=q':=Option.some.inj h2
    subst z1 z2
    exact Vd hk hok (.head _) hv
   | succ i=>simp at h1
  cases un with
  | true =>
   exact ⟨_,hT,_,Yy (j:=0) rfl,YU _ _,YW (by decide +kernel) ⟨YU _ _,YW (by decide +kernel) ⟨YU _ _,YW (by decide +kernel) fun c hc=>⟨_,.inr hc,rfl,rfl,X2 (by decide +kernel) ⟨_,hT,_,Yy (j:=1) rfl,few (by decide),fin⟩⟩⟩⟩⟩
  | false =>
   exact ⟨_,hT,_,Yy (j:=0) rfl,YU _ _,YW (by decide +kernel) ⟨YU _ _,YW (by decide +kernel) ⟨YU _ _,YW (by decide +kernel) fun c hc=>⟨_,.inr hc,rfl,rfl,X2 (by decide +kernel) ⟨_,hT,_,Yy (j:=1) rfl,few (by decide),fin⟩⟩⟩⟩⟩
 | _=>simp [kind] at hki
def t0 (U:Addr→Prop):Sw:=⟨fun _=>0,fun _ _=>0,U,fun _=>[]⟩
structure BI (C:Cs) (w:Wo) (U O:Addr→Prop) (H:Hp):Prop where
 at_:∀ p sh,w.reg p=some sh→¬ O p→XM C w (t0 U) H p sh
 op:∀ p,O p→∃ x dx c,w.reg p=some (.use x)∧Un w (t0 U) p∧(∀ s,s≤45→sm (cnt w.bk (.use x) s))∧H p=some (.ins C.use dx (mf c (fU .non)))∧w.D c=some (p,0)∧H c=some (.lst [])
 al:∀ b,U b→H b≠none
 ow:∀ b x,w.D b=some x→U b
 oo:∀ b q i,w.D b=some (q,i)→U q
 inj:∀ b b' x,w.D b=some x→w.D b'=some x→b=b'
structure WG (w w':Wo) (U U':Addr→Prop) (H:Hp):Prop where
 bk:w'.bk=w.bk
 M:w'.M=w.M
 reg:∀ p sh,w.reg p=some sh→w'.reg p=some sh
 D:∀ b,U b→w'.D b=w.D b
 u1:∀ b,U b→U' b
 u2:∀ b,U' b→U b∨H b=none
theorem WG.refl (w:Wo) (U:Addr→Prop) (H:Hp):WG w w U U H:=⟨rfl,rfl,fun _ _ h=>h,fun _ _=>rfl,fun _ h=>h,fun _ h => .inl h⟩
theorem WG.trans {w w1 w2:Wo} {U U1 U2:Addr→Prop} {H H1:Hp} (a:WG w w1 U U1 H) (b:WG w1 w2 U1 U2 H1) (h:∀ x,H x≠none→H1 x≠none):WG w w2 U U2 H :=
 ⟨b.bk.trans a.bk,b.M.trans a.M,fun p sh e=>b.reg p sh (a.reg p sh e),fun x e=>(b.D x (a.u1 x e)).trans (a.D x e),fun x e=>b.u1 x (a.u1 x e),fun x e=>by
  rcases b.u2 x e with e | e
  ·exact a.u2 x e
  ·cases c:H x with
   | none=>exact .inr rfl
   | some o=>exact absurd e (h x (by rw [c];intro z;cases z))⟩
theorem Wl.grow {w w':Wo} {U U':Addr→Prop} {H:Hp} (G:WG w w' U U' H) {as:List Addr} {ps:List Sh} (h:Wl w.reg as ps):Wl w'.reg as ps:=⟨h.1,fun i a p h1 h2=>G.reg _ _ (h.2 i a p h1 h2)⟩
theorem Sub.grow {C:Cs} {w w':Wo} {U U':Addr→Prop} {H H' H0:Hp} {p:Addr} (G:WG w w' U U' H0) (ow:∀ b x,w.D b=some x→U b) (hk:∀ b o,U b→H b=some o→H' b=some o):∀ {sh:Sh} {fs:List (Str×V)},Sub C w (t0 U) H p sh fs→Sub C w' (t0 U') H' p sh fs
 | .w lo span,fs,h=>h
 | .t sg,fs,h=>h
 | .row ps,fs,h=>by
  obtain ⟨P,T,dt,L,as,ws,h1,h2,h3,h4,h5,h6,h7,h8,h9,h10,h11,h12⟩:=h
  have un:∀ {b:Addr},Un w (t0 U) b→Un w' (t0 U') b:=fun z=>⟨(G.D _ z.2).trans z.1,G.u1 _ z.2⟩
  refine ⟨P,T,dt,L,as,ws,h1,un h2,un h3,un h4,hk _ _ h2.2 h5,h6.grow G,h7,hk _ _ h3.2 h8,hk _ _ h4.2 h9,h10,fun i x hx=>?_,by rw [G.bk];exact h12⟩
  obtain ⟨k1,k2,k3,k4⟩:=h11 i x hx
  exact ⟨(G.D _ (ow _ _ k1)).trans k1,k2,k3,by rw [G.bk];exact hk _ _ (ow _ _ k1) k4⟩
 | .pick mk ps,fs,h=>by
  obtain ⟨M,P,as,h1,h2,h3,h4,h5,h6,h7⟩:=h
  have un:∀ {b:Addr},Un w (t0 U) b→Un w' (t0 U') b:=fun z=>⟨(G.D _ z.2).trans z.1,G.u1 _ z.2⟩
  exact ⟨M,P,as,h1,un h2,un h3,hk _ _ h2.2 h4,hk _ _ h3.2 h5,h6.grow G,h7⟩
 | .many q,fs,⟨a,h1,h2⟩=>⟨a,h1,G.reg _ _ h2⟩
 | .alike _ _,fs,⟨a,h1,h2,h3⟩=>⟨a,h1,h2,G.reg _ _ h3⟩
 | .use x,fs,⟨a,h1,h2,h3⟩=>⟨a,h1,by rw [G.bk];exact G.reg _ _ h2,by rw [G.bk];exact h3⟩
 | .cho un q,fs,h=>by
  obtain ⟨a,T,dt,R,rs,h1,h2,h3,h4,h5,h6,h7,h8,h9,h10,h11,h12,h13⟩:=h
  have un:∀ {b:Addr},Un w (t0 U) b→Un w' (t0 U') b:=fun z=>⟨(G.D _ z.2).trans z.1,G.u1 _ z.2⟩
  exact ⟨a,T,dt,R,rs,h1,G.reg _ _ h2,un h3,hk _ _ h3.2 h4,(G.D _ (ow _ _ h5)).trans h5,hk _ _ (ow _ _ h5) h6,h7,h8,h9,fun j r hr hj=>absurd hj (Nat.not_lt_zero _),by rw [G.bk];exact h11,by rw [G.bk];exact h12,h13⟩
theorem XM.grow {C:Cs} {w w':Wo} {U U':Addr→Prop} {H H' H0:Hp} {p:Addr} {sh:Sh} (G:WG w w' U U' H0) (ow:∀ b x,w.D b=some x→U b) (hk:∀ b o,U b→H b=some o→H' b=some o) (h:XM C w (t0 U) H p sh):XM C w' (t0 U') H' p sh:=by
 obtain ⟨dx,c,fs,h1,h2,h3,h4,h5,h6,h7,h8⟩:=h
 exact ⟨dx,c,fs,⟨(G.D _ h1.2).trans h1.1,G.u1 _ h1.2⟩,by rw [G.M];exact h2,by rw [G.bk];exact h3,h4,hk _ _ h1.2 h5,(G.D _ (ow _ _ h6)).trans h6,by rw [G.bk];exact hk _ _ (ow _ _ h6) h7,h8.grow G ow hk⟩
theorem BI.keep {C:Cs} {w:Wo} {U O:Addr→Prop} {H H':Hp} (B:BI C w U O H) (hk:∀ b o,U b→H b=some o→H' b=some o):BI C w U O H':=by
 refine ⟨fun p sh hr ho=>(B.at_ p sh hr ho).grow (.refl w U H) B.ow hk,fun p hp=>?_,fun b hb=>?_,B.ow,B.oo,B.inj⟩
 ·obtain ⟨x,dx,c,h1,h2,h3,h4,h5,h6⟩:=B.op p hp
  exact ⟨x,dx,c,h1,h2,h3,hk _ _ h2.2 h4,h5,hk _ _ (B.ow _ _ h5) h6⟩
 ·cases e:H b with
  | none=>exact absurd e (B.al b hb)
  | some o=>rw [hk b o hb e];intro z;cases z
def Wo.add (w:Wo) (p:Addr) (sh:Sh) (os:List Addr):Wo:={ w with reg:=fun q=>if q=p then some sh else w.reg q,D:=fun b=>if b∈os then some (p,os.idxOf b) else w.D b }
def Ua (U:Addr→Prop) (os ss:List Addr):Addr→Prop:=fun b=>U b∨b∈os∨b∈ss
theorem BI.regU {C:Cs} {w:Wo} {U O:Addr→Prop} {H:Hp} (B:BI C w U O H) {p:Addr} {sh:Sh} (h:w.reg p=some sh):U p:=by
 by_cases o:O p
 ·obtain ⟨x,dx,c,h1,h2,_⟩:=B.op p o
  exact h2.2
 ·obtain ⟨dx,c,fs,h1,_⟩:=B.at_ p sh h o
  exact h1.2
theorem YdC {os:List Addr} {a b:Addr} (ha:a∈os) (hb:b∈os) (h:os.idxOf a=os.idxOf b):a=b:=by
 have h1:=List.getElem_idxOf (List.idxOf_lt_length_of_mem ha)
 have h2:=List.getElem_idxOf (List.idxOf_lt_length_of_mem hb)
 have:os[os.idxOf a]'(List.idxOf_lt_length_of_mem ha)=os[os.idxOf b]'(List.idxOf_lt_length_of_mem hb):=by congr 1
 rw [h1,h2] at this
 exact this
theorem Yca:∀ {os:List Addr} {i:Nat} {a:Addr},os.Nodup→os[i]?=some a→os.idxOf a=i
 | b::os,0,a,hn,h=>by
  have:b=a:=Option.some.inj h
  subst this
  exact List.idxOf_cons_self
 | b::os,i+1,a,hn,h=>by
  have h':os[i]?=some a:=by simpa using h
  have hne:b≠a:=fun z=>by
   rw [List.nodup_cons] at hn
   exact hn.1 (by rw [z];exact List.mem_of_getElem? h')
  have ih:=Yca (List.nodup_cons.mp hn).2 h'
  rw [List.idxOf_cons,ih]
  have e:(b==a)=false:=by simpa using hne
  rw [e];rfl
structure New (H H':Hp) (U:Addr→Prop) (p:Addr) (os ss:List Addr):Prop where
 nu:∀ b,b∈os∨b∈ss→¬ U b
 inn:p∈ss
 nd:os.Nodup
 ap:∀ b∈os,b∉ss
 keep:∀ b o,U b→H b=some o→H' b=some o
 there:∀ b,b∈os∨b∈ss→H' b≠none
theorem New.wg {C:Cs} {w:Wo} {U O:Addr→Prop} {H H' H0:Hp} {p:Addr} {os ss:List Addr} (N:New H H' U p os ss) (B:BI C w U O H) (sh:Sh) (h0:∀ b,b∈os∨b∈ss→H0 b=none):WG w (w.add p sh os) U (Ua U os ss) H0:=by
 refine ⟨rfl,rfl,fun q s e=>?_,fun b hb=>?_,fun b h => .inl h,fun b h=>?_⟩
 ·show (if q=p then some sh else w.reg q)=some s
  rw [if_neg fun z=>?_]
  ·exact e
  ·subst z
   exact N.nu _ (.inr N.inn) (B.regU e)
 ·show (if b∈os then _ else w.D b)=w.D b
  rw [if_neg fun z=>N.nu _ (.inl z) hb]
 ·rcases h with h | h
  ·exact .inl h
  ·exact .inr (h0 b h)
theorem New.un {C:Cs} {w:Wo} {U O:Addr→Prop} {H H':Hp} {p:Addr} {os ss:List Addr} (N:New H H' U p os ss) (B:BI C w U O H) (sh:Sh) {b:Addr} (hb:b∈ss):Un (w.add p sh os) (t0 (Ua U os ss)) b:=by
 refine ⟨?_,.inr (.inr hb)⟩
 show (if b∈os then _ else w.D b)=none
 rw [if_neg fun z=>N.ap b z hb]
 cases e:w.D b with
 | none=>rfl
 | some x=>exact absurd (B.ow b x e) (N.nu b (.inr hb))
theorem New.dat {w:Wo} {U:Addr→Prop} {H H':Hp} {p:Addr} {os ss:List Addr} (N:New H H' U p os ss) (sh:Sh) {i:Nat} {b:Addr} (hb:os[i]?=some b):(w.add p sh os).D b=some (p,i):=by
 show (if b∈os then some (p,os.idxOf b) else w.D b)=_
 rw [if_pos (List.mem_of_getElem? hb),Yca N.nd hb]
theorem New.bi {C:Cs} {w:Wo} {U O O':Addr→Prop} {H H':Hp} {p:Addr} {os ss:List Addr} {sh:Sh} (N:New H H' U p os ss) (B:BI C w U O H) (h1:∀ q,q≠p→(O' q↔O q)) (hm:¬ O' p→XM C (w.add p sh os) (t0 (Ua U os ss)) H' p sh)
  (ho:O' p→∃ x dx c,sh = .use x∧Un (w.add p sh os) (t0 (Ua U os ss)) p∧(∀ s,s≤45→sm (cnt w.bk (.use x) s))∧H' p=some (.ins C.use dx (mf c (fU .non)))∧(w.add p sh os).D c=some (p,0)∧H' c=some (.lst [])):BI C (w.add p sh os) (Ua U os ss) O' H':=by
 have G:=N.wg (H0:=fun _=>none) B sh fun _ _=>rfl
 have hpr:∀ {q:Addr} {s:Sh},(w.add p sh os).reg q=some s→q≠p→w.reg q=some s:=fun {q s} e n=>by
  have:(if q=p then some sh else w.reg q)=some s:=e
  rwa [if_neg n] at this
 refine ⟨fun q s hq ho'=>?_,fun q hq=>?_,fun b hb=>?_,fun b x e=>?_,fun b q i e=>?_,fun b b' x e e'=>?_⟩
 ·by_cases c:q=p
  ·subst c
   have:(if q=q then some sh else w.reg q)=some s:=hq
   rw [if_pos rfl] at this
   have:=Option.some.inj this
   subst this
   exact hm ho'
  ·exact (B.at_ q s (hpr hq c) fun z=>ho' ((h1 q c).mpr z)).grow G B.ow N.keep
 ·by_cases c:q=p
  ·subst c
   obtain ⟨x,dx,c,e1,e2,e3,e4,e5,e6⟩:=ho hq
   subst e1
   exact ⟨x,dx,c,if_pos rfl,e2,e3,e4,e5,e6⟩
  ·obtain ⟨x,dx,c',e1,e2,e3,e4,e5,e6⟩:=B.op q ((h1 q c).mp hq)
   exact ⟨x,dx,c',G.reg _ _ e1,⟨(G.D _ e2.2).trans e2.1,G.u1 _ e2.2⟩,e3,N.keep _ _ e2.2 e4,(G.D _ (B.ow _ _ e5)).trans e5,N.keep _ _ (B.ow _ _ e5) e6⟩
 ·rcases hb with hb | hb
  ·cases e:H b with
   | none=>exact absurd e (B.al b hb)
   | some o=>rw [N.keep b o hb e];intro z;cases z
  ·exact N.there b hb
 ·have e:(if b∈os then some (p,os.idxOf b) else w.D b)=some x:=e
  by_cases c:b∈os
  ·exact .inr (.inl c)
  ·rw [if_neg c] at e
   exact .inl (B.ow b x e)
 ·have e:(if b∈os then some (p,os.idxOf b) else w.D b)=some (q,i):=e
  by_cases c:b∈os
  ·rw [if_pos c] at e
   injection e with e
   injection e with e _
   rw [← e]
   exact .inr (.inr N.inn)
  ·rw [if_neg c] at e
   exact .inl (B.oo b q i e)
 ·have e:(if b∈os then some (p,os.idxOf b) else w.D b)=some x:=e
  have e':(if b'∈os then some (p,os.idxOf b') else w.D b')=some x:=e'
  have nop:∀ {y:Addr} {i:Nat},w.D y=some (p,i)→False:=fun z=>N.nu _ (.inr N.inn) (B.oo _ _ _ z)
  by_cases c:b∈os
  ·rw [if_pos c] at e
   by_cases c':b'∈os
   ·rw [if_pos c'] at e'
    rw [← e'] at e
    injection e with e
    injection e with _ e
    exact YdC c c' e
   ·rw [if_neg c',← e] at e'
    exact (nop e').elim
  ·rw [if_neg c] at e
   by_cases c':b'∈os
   ·rw [if_pos c'] at e'
    rw [← e'] at e
    exact (nop e).elim
   ·rw [if_neg c'] at e'
    exact B.inj b b' x e e'
theorem BI.wi {C:Cs} {w:Wo} {U O:Addr→Prop} {H:Hp} (B:BI C w U O H) (h:∀ p,¬ O p):WI C w (t0 U) H:=⟨fun p sh e=>B.at_ p sh e (h p),B.al,B.ow,B.inj⟩
theorem Xj {fs:List (Str×V)} (h:fs.length≤3):fs.length<1000:=by omega
def isC (C:Cs) (c:Addr):Prop:=c=C.w∨c=C.t∨c=C.row∨c=C.many∨c=C.pick∨c=C.use∨c=C.alike∨c=C.cho
def Z0l (C:Cs):Sp:=fun vs H Q _=>∃ (p dx cl:Addr),vs=[.ref p]∧isC C cl∧H p=some (.ins cl dx [])∧∀ c,H c=none→Q .non (upd (upd H c (.lst [])) p (.ins cl dx [("counts",.ref c)]))
theorem Z5h {Z3 Z0 Z1 Za Z5 Z4 Z7 Z9 Z6 Z8 Z2:Addr} (R:g.RawC "Maker" "__init__" "Maker.__init__" Z25 ["self"]) (Zb:Cls g.K Z3) (Zk:Yb g.K Z3 "counts") (Zq:Yb g.K Z3 "part") (Ze:Yb g.K Z3 "times") (Zf:Cls g.K Z0) (Zc:Yb g.K Z0 "counts") (Zv:Yb g.K Z0 "part") (Zn:Yb g.K Z0 "table") (Zj:Cls g.K Z5) (Zi:Yb g.K Z5 "counts") (Zm:Yb g.K Z5 "part") (Zu:Cls g.K Z4) (Zh:Yb g.K Z4 "counts") (ZA:Yb g.K Z4 "marks") (Zz:Yb g.K Z4 "parts") (ZD:Cls g.K Z7) (Zo:Yb g.K Z7 "counts") (ZF:Yb g.K Z7 "parts") (ZC:Yb g.K Z7 "table") (Zw:Cls g.K Z6) (Zg:Yb g.K Z6 "counts") (Zy:Yb g.K Z6 "signs") (Zt:Cls g.K Z8) (Zp:Yb g.K Z8 "counts") (Zl:Yb g.K Z8 "named") (Zr:Cls g.K Z2) (Zd:Yb g.K Z2 "counts") (ZE:Yb g.K Z2 "low") (Zx:Yb g.K Z2 "span"):g.Cf (1) "Maker" "__init__" ["self"] (Z0l (Cs.mk Z2 Z6 Z7 Z9 Z5 Z4 Z8 Z3 Z0 Z1)):=by
 refine R.cf Z5f (fun vs H Q E h=>by obtain ⟨p,dx,cl,rfl,hC,hp,q⟩:=h;rfl) fun f_ cdv A outer s H vs Q E hr h=>?_
 obtain ⟨p,dx,cl,rfl,hC,hp,q⟩:=h
 refine ⟨_,(@Yg _ _ _ (@Y8 _ _ _ _ _ _ _ _ (@pv _ 0 _ _ (by rfl) (by first | exact .inl rfl | exact .inr (.inl rfl) | exact .inr (.inr rfl)) (by decide) (by decide)) (@Xv _ _ _ _ Yc) rfl)),?_⟩
 walk_at "rd"
 refine ⟨few (by decide),fun c hc=>⟨cl,dx,[],by rw [Yd (Yk hp hc)];exact hp,?_,?_,by decide,q c hc⟩⟩
 ·rcases hC with rfl | rfl | rfl | rfl | rfl | rfl | rfl | rfl<;>assumption
 ·rcases hC with rfl | rfl | rfl | rfl | rfl | rfl | rfl | rfl<;>assumption
theorem n1 {a b:Str} (h:(a==b)=false):¬ a=b:=fun z=>by rw [z] at h;simp at h
theorem VE {f:Str} {v:V} {c:Addr} (h:¬ (("counts":Str)=f)):Y3 f v [("counts",.ref c)]=mf c [(f,v)]:=by simp only [Y3,if_neg h];rfl
theorem QQ {f f':Str} {v v':V} {c:Addr} (h:¬ (("counts":Str)=f)) (h2:¬ f'=f):Y3 f v (mf c [(f',v')])=mf c [(f',v'),(f,v)]:=by
 show Y3 f v [(("counts":Str),V.ref c),(f',v')]=_
 simp only [Y3,if_neg h,if_neg h2];rfl
def Z5E (C:Cs):Sp:=fun vs H Q _=>∃ (p dx:Addr) (lo:Int) (span:Nat),vs=[.ref p,.int lo,.int (lo+span)]∧H p=some (.ins C.w dx [])∧∀ c H',H c=none→SameBut p H H'→H' p=some (.ins C.w dx (mf c (fW lo span)))→H' c=some (.lst [])→Q .non H'
theorem Z3y {k:Nat} {Z3 Z0 Z1 Za Z5 Z4 Z7 Z9 Z6 Z8 Z2:Addr} (R:g.RawI "WholeMaker" Z2 "WholeMaker.__init__" Z0S ["self","low","high"]) (ZY:g.Cf k "Maker" "__init__" ["self"] (Z0l (Cs.mk Z2 Z6 Z7 Z9 Z5 Z4 Z8 Z3 Z0 Z1))) (Zr:Cls g.K Z2) (Zd:Yb g.K Z2 "counts") (ZE:Yb g.K Z2 "low") (Zx:Yb g.K Z2 "span"):g.Ma (k+1) "WholeMaker" Z2 ["self","low","high"] (Z5E (Cs.mk Z2 Z6 Z7 Z9 Z5 Z4 Z8 Z3 Z0 Z1)):=by
 refine R.ma Z3o (fun vs H Q E h=>by obtain ⟨p,dx,lo,span,rfl,hp,q⟩:=h;rfl) fun f_ cdv A outer s H vs Q E hr h=>?_
 obtain ⟨p,dx,lo,span,rfl,hp,q⟩:=h
 refine ⟨_,(@Yh _ _ _ _ _ (@YS _ _ _ _ (@WU _ _ _ _ _ _ _ _ _ _ _ _ _ _ _ ZY hr (@Ya _ _ _ _ _ (@pv _ 0 _ _ (by rfl) (by first | exact .inl rfl | exact .inr (.inl rfl) | exact .inr (.inr rfl)) (by decide) (by decide)) Yc (by rfl)) (by omega) (by rfl) (by rfl) (by decide) (by rfl) (by rfl) (by rfl)) (by rfl)) (@Yh _ _ _ _ _ (@Y8 _ _ _ _ _ _ _ _ (@pv _ 0 _ _ (by rfl) (by first | exact .inl rfl | exact .inr (.inl rfl) | exact .inr (.inr rfl)) (by decide) (by decide)) (@pv _ 1 _ _ (by rfl) (by first | exact .inl rfl | exact .inr (.inl rfl) | exact .inr (.inr rfl)) (by decide) (by decide)) rfl) (@Yg _ _ _ (@Y8 _ _ _ _ _ _ _ _ (@pv _ 0 _ _ (by rfl) (by first | exact .inl rfl | exact .inr (.inl rfl) | exact .inr (.inr rfl)) (by decide) (by decide)) (@Yi _ _ _ _ _ _ _ _ YD (@pv _ 2 _ _ (by rfl) (by first | exact .inl rfl | exact .inr (.inl rfl) | exact .inr (.inr rfl)) (by decide) (by decide)) (@pv _ 1 _ _ (by rfl) (by first | exact .inl rfl | exact .inr (.inl rfl) | exact .inr (.inr rfl)) (by decide) (by decide))) rfl)))),?_⟩
 walk_at "rd"
 refine ⟨p,dx,_,rfl,.inl rfl,hp,fun c hc=>?_⟩
 have hne:p≠c:=Yk hp hc
 refine ⟨_,dx,_,Ye,Zr,ZE,Xj (show 1≤3 by decide),_,dx,_,Ye,Zr,Zx,Xj (Nat.le_trans (Xo _ _ _) (show 2≤3 by decide)),?_⟩
 refine q c _ hc (fun x o hx h=>?_) ?_ ?_
 ·rw [Yd hx,Yd hx,Yd hx,Yd (Yk h hc)];exact h
 ·rw [Ye,show lo+(span:Int) - lo=span by omega,VE (n1 (by decide +kernel)),QQ (n1 (by decide +kernel)) (n1 (by decide +kernel))];rfl
 ·rw [Yd (Ne.symm hne),Yd (Ne.symm hne),Yd (Ne.symm hne),Ye]
def Z5F (C:Cs):Sp:=fun vs H Q _=>∃ (p dx:Addr) (sg:List Nat),vs=[.ref p,.str (S sg)]∧H p=some (.ins C.t dx [])∧∀ c H',H c=none→SameBut p H H'→H' p=some (.ins C.t dx (mf c (fT sg)))→H' c=some (.lst [])→Q .non H'
theorem Z3X {k:Nat} {Z3 Z0 Z1 Za Z5 Z4 Z7 Z9 Z6 Z8 Z2:Addr} (R:g.RawI "TextMaker" Z6 "TextMaker.__init__" Z18 ["self","signs"]) (ZY:g.Cf k "Maker" "__init__" ["self"] (Z0l (Cs.mk Z2 Z6 Z7 Z9 Z5 Z4 Z8 Z3 Z0 Z1))) (Zw:Cls g.K Z6) (Zg:Yb g.K Z6 "counts") (Zy:Yb g.K Z6 "signs"):g.Ma (k+1) "TextMaker" Z6 ["self","signs"] (Z5F (Cs.mk Z2 Z6 Z7 Z9 Z5 Z4 Z8 Z3 Z0 Z1)):=by
 refine R.ma Z3I (fun vs H Q E h=>by obtain ⟨p,dx,sg,rfl,hp,q⟩:=h;rfl) fun f_ cdv A outer s H vs Q E hr h=>?_
 obtain ⟨p,dx,sg,rfl,hp,q⟩:=h
 refine ⟨_,(@Yh _ _ _ _ _ (@YS _ _ _ _ (@WU _ _ _ _ _ _ _ _ _ _ _ _ _ _ _ ZY hr (@Ya _ _ _ _ _ (@pv _ 0 _ _ (by rfl) (by first | exact .inl rfl | exact .inr (.inl rfl) | exact .inr (.inr rfl)) (by decide) (by decide)) Yc (by rfl)) (by omega) (by rfl) (by rfl) (by decide) (by rfl) (by rfl) (by rfl)) (by rfl)) (@Yg _ _ _ (@Y8 _ _ _ _ _ _ _ _ (@pv _ 0 _ _ (by rfl) (by first | exact .inl rfl | exact .inr (.inl rfl) | exact .inr (.inr rfl)) (by decide) (by decide)) (@pv _ 1 _ _ (by rfl) (by first | exact .inl rfl | exact .inr (.inl rfl) | exact .inr (.inr rfl)) (by decide) (by decide)) rfl))),?_⟩
 walk_at "rd"
 refine ⟨p,dx,_,rfl,.inr (.inl rfl),hp,fun c hc=>?_⟩
 have hne:p≠c:=Yk hp hc
 refine ⟨_,dx,_,Ye,Zw,Zy,Xj (show 1≤3 by decide),?_⟩
 refine q c _ hc (fun x o hx h=>?_) ?_ ?_
 ·rw [Yd hx,Yd hx,Yd (Yk h hc)];exact h
 ·rw [Ye,VE (n1 (by decide +kernel))];rfl
 ·rw [Yd (Ne.symm hne),Yd (Ne.symm hne),Ye]
def Z5G (C:Cs):Sp:=fun vs H Q _=>∃ (p dx a:Addr),vs=[.ref p,.ref a]∧H p=some (.ins C.many dx [])∧∀ c H',H c=none→SameBut p H H'→H' p=some (.ins C.many dx (mf c (fM a)))→H' c=some (.lst [])→Q .non H'
theorem Z3Y {k:Nat} {Z3 Z0 Z1 Za Z5 Z4 Z7 Z9 Z6 Z8 Z2:Addr} (R:g.RawI "ManyMaker" Z5 "ManyMaker.__init__" Z1b ["self","part"]) (ZY:g.Cf k "Maker" "__init__" ["self"] (Z0l (Cs.mk Z2 Z6 Z7 Z9 Z5 Z4 Z8 Z3 Z0 Z1))) (Zj:Cls g.K Z5) (Zi:Yb g.K Z5 "counts") (Zm:Yb g.K Z5 "part"):g.Ma (k+1) "ManyMaker" Z5 ["self","part"] (Z5G (Cs.mk Z2 Z6 Z7 Z9 Z5 Z4 Z8 Z3 Z0 Z1)):=by
 refine R.ma Z3K (fun vs H Q E h=>by obtain ⟨p,dx,a,rfl,hp,q⟩:=h;rfl) fun f_ cdv A outer s H vs Q E hr h=>?_
 obtain ⟨p,dx,a,rfl,hp,q⟩:=h
 refine ⟨_,(@Yh _ _ _ _ _ (@YS _ _ _ _ (@WU _ _ _ _ _ _ _ _ _ _ _ _ _ _ _ ZY hr (@Ya _ _ _ _ _ (@pv _ 0 _ _ (by rfl) (by first | exact .inl rfl | exact .inr (.inl rfl) | exact .inr (.inr rfl)) (by decide) (by decide)) Yc (by rfl)) (by omega) (by rfl) (by rfl) (by decide) (by rfl) (by rfl) (by rfl)) (by rfl)) (@Yg _ _ _ (@Y8 _ _ _ _ _ _ _ _ (@pv _ 0 _ _ (by rfl) (by first | exact .inl rfl | exact .inr (.inl rfl) | exact .inr (.inr rfl)) (by decide) (by decide)) (@pv _ 1 _ _ (by rfl) (by first | exact .inl rfl | exact .inr (.inl rfl) | exact .inr (.inr rfl)) (by decide) (by decide)) rfl))),?_⟩
 walk_at "rd"
 refine ⟨p,dx,_,rfl,.inr (.inr (.inr (.inl rfl))),hp,fun c hc=>?_⟩
 have hne:p≠c:=Yk hp hc
 refine ⟨_,dx,_,Ye,Zj,Zm,Xj (show 1≤3 by decide),?_⟩
 refine q c _ hc (fun x o hx h=>?_) ?_ ?_
 ·rw [Yd hx,Yd hx,Yd (Yk h hc)];exact h
 ·rw [Ye,VE (n1 (by decide +kernel))];rfl
 ·rw [Yd (Ne.symm hne),Yd (Ne.symm hne),Ye]
def Z5H (C:Cs):Sp:=fun vs H Q _=>∃ (p dx M P:Addr),vs=[.ref p,.ref M,.ref P]∧H p=some (.ins C.pick dx [])∧∀ c H',H c=none→SameBut p H H'→H' p=some (.ins C.pick dx (mf c (fP M P)))→H' c=some (.lst [])→Q .non H'
theorem Z3Z {k:Nat} {Z3 Z0 Z1 Za Z5 Z4 Z7 Z9 Z6 Z8 Z2:Addr} (R:g.RawI "PickMaker" Z4 "PickMaker.__init__" Z1d ["self","marks","parts"]) (ZY:g.Cf k "Maker" "__init__" ["self"] (Z0l (Cs.mk Z2 Z6 Z7 Z9 Z5 Z4 Z8 Z3 Z0 Z1))) (Zu:Cls g.K Z4) (Zh:Yb g.K Z4 "counts") (ZA:Yb g.K Z4 "marks") (Zz:Yb g.K Z4 "parts"):g.Ma (k+1) "PickMaker" Z4 ["self","marks","parts"] (Z5H (Cs.mk Z2 Z6 Z7 Z9 Z5 Z4 Z8 Z3 Z0 Z1)):=by
 refine R.ma Z3M (fun vs H Q E h=>by obtain ⟨p,dx,M,P,rfl,hp,q⟩:=h;rfl) fun f_ cdv A outer s H vs Q E hr h=>?_
 obtain ⟨p,dx,M,P,rfl,hp,q⟩:=h
 refine ⟨_,(@Yh _ _ _ _ _ (@YS _ _ _ _ (@WU _ _ _ _ _ _ _ _ _ _ _ _ _ _ _ ZY hr (@Ya _ _ _ _ _ (@pv _ 0 _ _ (by rfl) (by first | exact .inl rfl | exact .inr (.inl rfl) | exact .inr (.inr rfl)) (by decide) (by decide)) Yc (by rfl)) (by omega) (by rfl) (by rfl) (by decide) (by rfl) (by rfl) (by rfl)) (by rfl)) (@Yh _ _ _ _ _ (@Y8 _ _ _ _ _ _ _ _ (@pv _ 0 _ _ (by rfl) (by first | exact .inl rfl | exact .inr (.inl rfl) | exact .inr (.inr rfl)) (by decide) (by decide)) (@pv _ 1 _ _ (by rfl) (by first | exact .inl rfl | exact .inr (.inl rfl) | exact .inr (.inr rfl)) (by decide) (by decide)) rfl) (@Yg _ _ _ (@Y8 _ _ _ _ _ _ _ _ (@pv _ 0 _ _ (by rfl) (by first | exact .inl rfl | exact .inr (.inl rfl) | exact .inr (.inr rfl)) (by decide) (by decide)) (@pv _ 2 _ _ (by rfl) (by first | exact .inl rfl | exact .inr (.inl rfl) | exact .inr (.inr rfl)) (by decide) (by decide)) rfl)))),?_⟩
 walk_at "rd"
 refine ⟨p,dx,_,rfl,.inr (.inr (.inr (.inr (.inl rfl)))),hp,fun c hc=>?_⟩
 have hne:p≠c:=Yk hp hc
 refine ⟨_,dx,_,Ye,Zu,ZA,Xj (show 1≤3 by decide),_,dx,_,Ye,Zu,Zz,Xj (Nat.le_trans (Xo _ _ _) (show 2≤3 by decide)),?_⟩
 refine q c _ hc (fun x o hx h=>?_) ?_ ?_
 ·rw [Yd hx,Yd hx,Yd hx,Yd (Yk h hc)];exact h
 ·rw [Ye,VE (n1 (by decide +kernel)),QQ (n1 (by decide +kernel)) (n1 (by decide +kernel))];rfl
 ·rw [Yd (Ne.symm hne),Yd (Ne.symm hne),Yd (Ne.symm hne),Ye]
def Z5I (C:Cs):Sp:=fun vs H Q _=>∃ (p dx:Addr),vs=[.ref p]∧H p=some (.ins C.use dx [])∧∀ c H',H c=none→SameBut p H H'→H' p=some (.ins C.use dx (mf c (fU .non)))→H' c=some (.lst [])→Q .non H'
theorem Z4p {k:Nat} {Z3 Z0 Z1 Za Z5 Z4 Z7 Z9 Z6 Z8 Z2:Addr} (R:g.RawI "UseMaker" Z8 "UseMaker.__init__" Z1r ["self"]) (ZY:g.Cf k "Maker" "__init__" ["self"] (Z0l (Cs.mk Z2 Z6 Z7 Z9 Z5 Z4 Z8 Z3 Z0 Z1))) (Zt:Cls g.K Z8) (Zp:Yb g.K Z8 "counts") (Zl:Yb g.K Z8 "named"):g.Ma (k+1) "UseMaker" Z8 ["self"] (Z5I (Cs.mk Z2 Z6 Z7 Z9 Z5 Z4 Z8 Z3 Z0 Z1)):=by
 refine R.ma Z4h (fun vs H Q E h=>by obtain ⟨p,dx,rfl,hp,q⟩:=h;rfl) fun f_ cdv A outer s H vs Q E hr h=>?_
 obtain ⟨p,dx,rfl,hp,q⟩:=h
 refine ⟨_,(@Yh _ _ _ _ _ (@YS _ _ _ _ (@WU _ _ _ _ _ _ _ _ _ _ _ _ _ _ _ ZY hr (@Ya _ _ _ _ _ (@pv _ 0 _ _ (by rfl) (by first | exact .inl rfl | exact .inr (.inl rfl) | exact .inr (.inr rfl)) (by decide) (by decide)) Yc (by rfl)) (by omega) (by rfl) (by rfl) (by decide) (by rfl) (by rfl) (by rfl)) (by rfl)) (@Yg _ _ _ (@Y8 _ _ _ _ _ _ _ _ (@pv _ 0 _ _ (by rfl) (by first | exact .inl rfl | exact .inr (.inl rfl) | exact .inr (.inr rfl)) (by decide) (by decide)) YdQ rfl))),?_⟩
 walk_at "rd"
 refine ⟨p,dx,_,rfl,.inr (.inr (.inr (.inr (.inr (.inl rfl))))),hp,fun c hc=>?_⟩
 have hne:p≠c:=Yk hp hc
 refine ⟨_,dx,_,Ye,Zt,Zl,Xj (show 1≤3 by decide),?_⟩
 refine q c _ hc (fun x o hx h=>?_) ?_ ?_
 ·rw [Yd hx,Yd hx,Yd (Yk h hc)];exact h
 ·rw [Ye,VE (n1 (by decide +kernel))];rfl
 ·rw [Yd (Ne.symm hne),Yd (Ne.symm hne),Ye]
def Z5J (C:Cs):Sp:=fun vs H Q _=>∃ (p dx a:Addr) (n:Nat),vs=[.ref p,.ref a,.int n]∧H p=some (.ins C.alike dx [])∧∀ c H',H c=none→SameBut p H H'→H' p=some (.ins C.alike dx (mf c (fA a n)))→H' c=some (.lst [])→Q .non H'
theorem Z3z {k:Nat} {Z3 Z0 Z1 Za Z5 Z4 Z7 Z9 Z6 Z8 Z2:Addr} (R:g.RawI "AlikeMaker" Z3 "AlikeMaker.__init__" Z0W ["self","part","times"]) (ZY:g.Cf k "Maker" "__init__" ["self"] (Z0l (Cs.mk Z2 Z6 Z7 Z9 Z5 Z4 Z8 Z3 Z0 Z1))) (Zb:Cls g.K Z3) (Zk:Yb g.K Z3 "counts") (Zq:Yb g.K Z3 "part") (Ze:Yb g.K Z3 "times"):g.Ma (k+1) "AlikeMaker" Z3 ["self","part","times"] (Z5J (Cs.mk Z2 Z6 Z7 Z9 Z5 Z4 Z8 Z3 Z0 Z1)):=by
 refine R.ma Z3r (fun vs H Q E h=>by obtain ⟨p,dx,a,n,rfl,hp,q⟩:=h;rfl) fun f_ cdv A outer s H vs Q E hr h=>?_
 obtain ⟨p,dx,a,n,rfl,hp,q⟩:=h
 refine ⟨_,(@Yh _ _ _ _ _ (@YS _ _ _ _ (@WU _ _ _ _ _ _ _ _ _ _ _ _ _ _ _ ZY hr (@Ya _ _ _ _ _ (@pv _ 0 _ _ (by rfl) (by first | exact .inl rfl | exact .inr (.inl rfl) | exact .inr (.inr rfl)) (by decide) (by decide)) Yc (by rfl)) (by omega) (by rfl) (by rfl) (by decide) (by rfl) (by rfl) (by rfl)) (by rfl)) (@Yh _ _ _ _ _ (@Y8 _ _ _ _ _ _ _ _ (@pv _ 0 _ _ (by rfl) (by first | exact .inl rfl | exact .inr (.inl rfl) | exact .inr (.inr rfl)) (by decide) (by decide)) (@pv _ 1 _ _ (by rfl) (by first | exact .inl rfl | exact .inr (.inl rfl) | exact .inr (.inr rfl)) (by decide) (by decide)) rfl) (@Yg _ _ _ (@Y8 _ _ _ _ _ _ _ _ (@pv _ 0 _ _ (by rfl) (by first | exact .inl rfl | exact .inr (.inl rfl) | exact .inr (.inr rfl)) (by decide) (by decide)) (@pv _ 2 _ _ (by rfl) (by first | exact .inl rfl | exact .inr (.inl rfl) | exact .inr (.inr rfl)) (by decide) (by decide)) rfl)))),?_⟩
 walk_at "rd"
 refine ⟨p,dx,_,rfl,.inr (.inr (.inr (.inr (.inr (.inr (.inl rfl)))))),hp,fun c hc=>?_⟩
 have hne:p≠c:=Yk hp hc
 refine ⟨_,dx,_,Ye,Zb,Zq,Xj (show 1≤3 by decide),_,dx,_,Ye,Zb,Ze,Xj (Nat.le_trans (Xo _ _ _) (show 2≤3 by decide)),?_⟩
 refine q c _ hc (fun x o hx h=>?_) ?_ ?_
 ·rw [Yd hx,Yd hx,Yd hx,Yd (Yk h hc)];exact h
 ·rw [Ye,VE (n1 (by decide +kernel)),QQ (n1 (by decide +kernel)) (n1 (by decide +kernel))];rfl
 ·rw [Yd (Ne.symm hne),Yd (Ne.symm hne),Yd (Ne.symm hne),Ye]
def Z5K (C:Cs):Sp:=fun vs H Q _=>∃ (T dx a:Addr) (un:Bool),vs=[.ref T,.ref a,.bl un]∧H T=some (.ins C.ctab dx [])∧∀ R H',H R=none→SameBut T H H'→H' T=some (.ins C.ctab dx (fCt a un R))→H' R=some (.lst [])→Q .non H'
theorem Z3g {Z3 Z0 Z1 Za Z5 Z4 Z7 Z9 Z6 Z8 Z2:Addr} (R:g.RawI "ChoiceTable" Z1 "ChoiceTable.__init__" Z0M ["self","part","unlike"]) (ZB:Cls g.K Z1) (ZG:Yb g.K Z1 "part") (ZI:Yb g.K Z1 "unlike") (ZH:Yb g.K Z1 "rows"):g.Ma (1) "ChoiceTable" Z1 ["self","part","unlike"] (Z5K (Cs.mk Z2 Z6 Z7 Z9 Z5 Z4 Z8 Z3 Z0 Z1)):=by
 refine R.ma Z3d (fun vs H Q E h=>by obtain ⟨T,dx,a,un,rfl,hT,q⟩:=h;rfl) fun f_ cdv A outer s H vs Q E hr h=>?_
 obtain ⟨T,dx,a,un,rfl,hT,q⟩:=h
 refine ⟨_,(@Yh _ _ _ _ _ (@Y8 _ _ _ _ _ _ _ _ (@pv _ 0 _ _ (by rfl) (by first | exact .inl rfl | exact .inr (.inl rfl) | exact .inr (.inr rfl)) (by decide) (by decide)) (@pv _ 1 _ _ (by rfl) (by first | exact .inl rfl | exact .inr (.inl rfl) | exact .inr (.inr rfl)) (by decide) (by decide)) rfl) (@Yh _ _ _ _ _ (@Y8 _ _ _ _ _ _ _ _ (@pv _ 0 _ _ (by rfl) (by first | exact .inl rfl | exact .inr (.inl rfl) | exact .inr (.inr rfl)) (by decide) (by decide)) (@pv _ 2 _ _ (by rfl) (by first | exact .inl rfl | exact .inr (.inl rfl) | exact .inr (.inr rfl)) (by decide) (by decide)) rfl) (@Yg _ _ _ (@Y8 _ _ _ _ _ _ _ _ (@pv _ 0 _ _ (by rfl) (by first | exact .inl rfl | exact .inr (.inl rfl) | exact .inr (.inr rfl)) (by decide) (by decide)) (@Xv _ _ _ _ Yc) rfl)))),?_⟩
 walk_at "rd"
 refine ⟨_,dx,_,hT,ZB,ZG,by decide,_,dx,_,Ye,ZB,ZI,Xj (Nat.le_trans (Xo _ _ _) (show 1≤3 by decide)),few (by decide),fun R hR=>?_⟩
 have nRT:T≠R:=Yk Ye hR
 have gR:H R=none:=by rw [Yd (Ne.symm nRT),Yd (Ne.symm nRT)] at hR;exact hR
 refine ⟨_,dx,_,by rw [Yd nRT];exact Ye,ZB,ZH,Xj (Nat.le_trans (Xo _ _ _) (Nat.le_trans (Nat.succ_le_succ (Xo "part" (.ref a) [])) (show 2≤3 by decide))),q R _ gR (fun x o hx h=>?_) ?_ ?_⟩
 ·rw [Yd hx,Yd (Yk h gR),Yd hx,Yd hx];exact h
 ·rw [Ye]
  refine congrArg some (congrArg (HO.ins _ _) ?_)
  show Y3 "rows" (.ref R) (Y3 "unlike" (.bl un) [(("part":Str),V.ref a)])=fCt a un R
  simp only [Y3,if_neg (n1 (a:=("part":Str)) (b:=("unlike":Str)) (by decide +kernel)),if_neg (n1 (a:=("part":Str)) (b:=("rows":Str)) (by decide +kernel)),if_neg (n1 (a:=("unlike":Str)) (b:=("rows":Str)) (by decide +kernel))];rfl
 ·rw [Yd (Ne.symm nRT),Ye]
def Z4q (C:Cs):Sp:=fun vs H Q _=>∃ (p dx a:Addr) (un:Bool),vs=[.ref p,.ref a,.bl un]∧H p=some (.ins C.cho dx []) ∧
 ∀ c T dt R H',H c=none→H T=none→H R=none→c≠R→SameBut p H H'→H' p=some (.ins C.cho dx (mf c (fC a T)))→H' c=some (.lst [])→H' T=some (.ins C.ctab dt (fCt a un R))→H' R=some (.lst [])→Q .non H'
theorem Z3h {k:Nat} {Z3 Z0 Z1 Za Z5 Z4 Z7 Z9 Z6 Z8 Z2:Addr} (R:g.RawI "ChoiceMaker" Z0 "ChoiceMaker.__init__" Z0K ["self","part","unlike"]) {j_ChoiceTable___init__:Nat} (Z3A:g.Ma j_ChoiceTable___init__ "ChoiceTable" Z1 ["self","part","unlike"] (Z5K (Cs.mk Z2 Z6 Z7 Z9 Z5 Z4 Z8 Z3 Z0 Z1))) (h_ChoiceTable___init__:j_ChoiceTable___init__+1≤k) (ZY:g.Cf k "Maker" "__init__" ["self"] (Z0l (Cs.mk Z2 Z6 Z7 Z9 Z5 Z4 Z8 Z3 Z0 Z1))) (Zf:Cls g.K Z0) (Zc:Yb g.K Z0 "counts") (Zv:Yb g.K Z0 "part") (Zn:Yb g.K Z0 "table"):g.Ma (k+1) "ChoiceMaker" Z0 ["self","part","unlike"] (Z4q (Cs.mk Z2 Z6 Z7 Z9 Z5 Z4 Z8 Z3 Z0 Z1)):=by
 refine R.ma Z3b (fun vs H Q E h=>by obtain ⟨p,dx,a,un,rfl,hp,q⟩:=h;rfl) fun f_ cdv A outer s H vs Q E hr h=>?_
 obtain ⟨p,dx,a,un,rfl,hp,q⟩:=h
 refine ⟨_,(@Yh _ _ _ _ _ (@YS _ _ _ _ (@WU _ _ _ _ _ _ _ _ _ _ _ _ _ _ _ ZY hr (@Ya _ _ _ _ _ (@pv _ 0 _ _ (by rfl) (by first | exact .inl rfl | exact .inr (.inl rfl) | exact .inr (.inr rfl)) (by decide) (by decide)) Yc (by rfl)) (by omega) (by rfl) (by rfl) (by decide) (by rfl) (by rfl) (by rfl)) (by rfl)) (@Yh _ _ _ _ _ (@Y8 _ _ _ _ _ _ _ _ (@pv _ 0 _ _ (by rfl) (by first | exact .inl rfl | exact .inr (.inl rfl) | exact .inr (.inr rfl)) (by decide) (by decide)) (@pv _ 1 _ _ (by rfl) (by first | exact .inl rfl | exact .inr (.inl rfl) | exact .inr (.inr rfl)) (by decide) (by decide)) rfl) (@Yg _ _ _ (@Y8 _ _ _ _ _ _ _ _ (@pv _ 0 _ _ (by rfl) (by first | exact .inl rfl | exact .inr (.inl rfl) | exact .inr (.inr rfl)) (by decide) (by decide)) (@Wz _ _ _ _ _ _ _ _ _ _ _ _ _ Z3A hr (@Ya _ _ _ _ _ (@pv _ 1 _ _ (by rfl) (by first | exact .inl rfl | exact .inr (.inl rfl) | exact .inr (.inr rfl)) (by decide) (by decide)) (@Ya _ _ _ _ _ (@pv _ 2 _ _ (by rfl) (by first | exact .inl rfl | exact .inr (.inl rfl) | exact .inr (.inr rfl)) (by decide) (by decide)) Yc (by rfl)) (by rfl)) (by omega) (by rfl) (by rfl) (by decide) (by rfl) (by rfl)) rfl)))),?_⟩
 walk_at "rd"
 refine ⟨p,dx,_,rfl,.inr (.inr (.inr (.inr (.inr (.inr (.inr rfl)))))),hp,fun c hc=>?_⟩
 have hne:p≠c:=Yk hp hc
 refine ⟨_,dx,_,Ye,Zf,Zv,Xj (show 1≤3 by decide),?_⟩
 obtain ⟨H1,hH1⟩:∃ H1,H1=upd (upd (upd H c (.lst [])) p (.ins Z0 dx [("counts",.ref c)])) p (.ins Z0 dx (Y3 "part" (.ref a) [("counts",.ref c)])):=⟨_,rfl⟩
 rw [← hH1]
 have h1p:H1 p=some (.ins Z0 dx (mf c [("part",.ref a)])):=by rw [hH1,Ye,VE (n1 (by decide +kernel))]
 have h1c:H1 c=some (.lst []):=by rw [hH1,Yd (Ne.symm hne),Yd (Ne.symm hne),Ye]
 have h1:∀ {b:Addr} {o:HO},b≠p→H b=some o→H1 b=some o:=fun n e=>by rw [hH1,Yd n,Yd n,Yd (Yk e hc)];exact e
 have nf:∀ {b:Addr},H1 b=none→H b=none:=fun {b} e=>by
  cases z:H b with
  | none=>rfl
  | some o =>
   exfalso
   by_cases cc:b=p
   ·subst cc;rw [h1p] at e;cases e
   ·rw [h1 cc z] at e;cases e
 intro T dt gT gdt hnd
 have sd:=Yq.upd_new gdt (.own T)
 have gT2:upd H1 dt (.own T) T=none:=by rw [Yd (Ne.symm hnd)];exact gT
 have s12:=sd.trans (.upd_new gT2 (.ins Z1 dt []))
 refine ⟨T,dt,a,un,rfl,Ye,fun R H3 gR sb h3T h3R=>?_⟩
 have npT:p≠T:=Yk h1p gT
 have ncT:c≠T:=Yk h1c gT
 have h3p:=sb _ _ npT (s12 _ _ h1p)
 have h3c:=sb _ _ ncT (s12 _ _ h1c)
 have ncR:c≠R:=fun z=>by rw [← z,s12 _ _ h1c] at gR;cases gR
 have npR:R≠p:=XD h3R h3p (by simp)
 refine ⟨rfl,_,dx,_,h3p,Zf,Zn,Xj (show 2≤3 by decide),?_⟩
 refine q c T dt R _ hc (nf gT) (nf (s12.free gR)) ncR (fun b o hb e=>?_) ?_ ?_ ?_ ?_
 ·rw [Yd hb]
  exact sb _ _ (Yk (h1 hb e) gT) (s12 _ _ (h1 hb e))
 ·rw [Ye,QQ (n1 (by decide +kernel)) (n1 (by decide +kernel))];rfl
 ·rw [Yd (Ne.symm hne)];exact h3c
 ·rw [Yd (Ne.symm npT)];exact h3T
 ·rw [Yd npR];exact h3R
def Z5r (C:Cs):Sp:=fun vs H Q _=>∃ (T dx P:Addr) (as:List Addr),vs=[.ref T,.ref P]∧H T=some (.ins C.tab dx [])∧H P=some (.lst (as.map V.ref))∧as.length≤100 ∧
 ∀ L (ws:List Addr) H',H L=none→(∀ x∈ws,H x=none)→ws.Nodup→ws.length=as.length+1→SameBut T H H'→H' T=some (.ins C.tab dx (W2 P L))→H' L=some (.lst (ws.map V.ref))→(∀ x∈ws,H' x=some (.lst []))→Q .non H'
theorem Z4r {Z3 Z0 Z1 Za Z5 Z4 Z7 Z9 Z6 Z8 Z2:Addr} (R:g.RawI "RowTable" Z9 "RowTable.__init__" Z1n ["self","parts"]) (b_len:g.mg "len"=none) (ZP:g.mg "range"=none) (ZL:Cls g.K Z9) (ZU:Yb g.K Z9 "parts") (ZK:Yb g.K Z9 "ways"):g.Ma (1) "RowTable" Z9 ["self","parts"] (Z5r (Cs.mk Z2 Z6 Z7 Z9 Z5 Z4 Z8 Z3 Z0 Z1)):=by
 refine R.ma Z4e (fun vs H Q E h=>by obtain ⟨T,dx,P,as,rfl,hT,hP,hl,q⟩:=h;rfl) fun f_ cdv A outer s H vs Q E hr h=>?_
 obtain ⟨T,dx,P,as,rfl,hT,hP,hl,q⟩:=h
 refine ⟨_,(@Yh _ _ _ _ _ (@Y8 _ _ _ _ _ _ _ _ (@pv _ 0 _ _ (by rfl) (by first | exact .inl rfl | exact .inr (.inl rfl) | exact .inr (.inr rfl)) (by decide) (by decide)) (@pv _ 1 _ _ (by rfl) (by first | exact .inl rfl | exact .inr (.inl rfl) | exact .inr (.inr rfl)) (by decide) (by decide)) rfl) (@Yg _ _ _ (@Y8 _ _ _ _ _ _ _ _ (@pv _ 0 _ _ (by rfl) (by first | exact .inl rfl | exact .inr (.inl rfl) | exact .inr (.inr rfl)) (by decide) (by decide)) (@Wj _ _ _ _ _ _ _ ([none]) ((["place"]:List Str)) _ (YL 0) _ _ (.own .nil) rfl (@Xd _ _ _ _ _ _ rfl ZP (@Ya _ _ _ _ _ (@Yi _ _ _ _ _ _ _ _ YI (@YT _ _ _ _ _ _ _ _ _ _ b_len Yu (@Ya _ _ _ _ _ (@pv _ 1 _ _ (by rfl) (by first | exact .inl rfl | exact .inr (.inl rfl) | exact .inr (.inr rfl)) (by decide) (by decide)) Yc (by rfl)) (by decide +kernel) (by rfl) (by rfl) (by decide) (by decide) (by rfl) (by rfl)) Yf) Yc (by rfl)) (by rfl)) (fun cl C s₀ H₀ fp pn=>(@YF _ _ (0) _ (show List.Nodup (["place"]:List Str) by decide +kernel) rfl (.inl rfl) (.inr rfl))) (fun cl C s₀ H₀ fp pn=>Xs) (fun cl C s₀ H₀ fp pn=>(@Xv _ _ _ _ Yc)) (by intro x hx;simp at hx) (by rfl) (by decide) (by decide +kernel) (by intro _;rfl)) rfl))),?_⟩
 walk_at "rd"
 have nTP:T≠P:=XD hT hP (by simp)
 refine ⟨_,dx,_,hT,ZL,ZU,by decide,?_⟩
 obtain ⟨H1,hH1⟩:∃ H1,H1=upd H T (.ins Z9 dx (Y3 "parts" (.ref P) [])):=⟨_,rfl⟩
 rw [← hH1]
 have h1T:H1 T=some (.ins Z9 dx (Y3 "parts" (.ref P) [])):=by rw [hH1,Ye]
 have h1:∀ {b:Addr},b≠T→H1 b=H b:=fun n=>by rw [hH1,Yd n]
 refine XI (n:=as.length+1) (fun D i zs H'=>∃ ws:List Addr,zs=ws.map V.ref∧ws.length=i∧ws.Nodup∧(∀ x∈ws,H1 x=none∧x≠D∧H' x=some (.lst []))∧H' D=some (.lst zs)∧∀ b o,b≠D→H1 b=some o→H' b=some o) (fun R r=>?_) (by omega) ?_ ?_ ?_ ?_
 ·walk_at "rd"
  refine ⟨_,.inl (SqL.of ((h1 (Ne.symm nTP)).trans hP)),?_⟩
  rw [List.length_map]
  exact r
 ·intro D hD
  exact ⟨[],rfl,rfl,.nil,fun x hx=>(by cases hx),Ye,fun b o hb e=>by rw [Yd hb];exact e⟩
 ·rintro D i zs H' ⟨ws,rfl,h2,_,_,h3,_⟩
  exact ⟨by rw [List.length_map,h2],h3⟩
 ·rintro D i zs H' hD hi ⟨ws,rfl,hwl,hnd,hws,hd,fr⟩ R r
  walk_at "rd"
  refine ⟨few (by decide),fun X gX=>?_⟩
  have nXD:X≠D:=Ne.symm (Yk hd gX)
  have sX:=Yq.upd_new gX (.lst [])
  have gX1:H1 X=none:=by
   cases e:H1 X with
   | none=>rfl
   | some o=>rw [fr X o nXD e] at gX;cases gX
  refine r _ _ (sX _ _ hd) ⟨ws++[X],by rw [List.map_append];rfl,by rw [List.length_append,hwl];rfl,?_,fun x hx=>?_,Ye,fun b o hb e=>by rw [Yd hb];exact sX _ _ (fr b o hb e)⟩
  ·rw [List.nodup_append]
   refine ⟨hnd,by simp,fun x hx y hy=>?_⟩
   have:y=X:=by simpa using hy
   subst this
   intro z
   subst z
   rw [(hws x hx).2.2] at gX
   cases gX
  ·rcases List.mem_append.mp hx with hx | hx
   ·obtain ⟨k1,k2,k3⟩:=hws x hx
    exact ⟨k1,k2,by rw [Yd k2];exact sX _ _ k3⟩
   ·have:x=X:=by simpa using hx
    subst this
    exact ⟨gX1,nXD,by rw [Yd nXD,Ye]⟩
 ·rintro L zs H' hL ⟨ws,rfl,hwl,hnd,hws,hd,fr⟩
  have nLT:L≠T:=Ne.symm (Yk h1T hL)
  have nf:∀ {b:Addr},H1 b=none→H b=none:=fun {b} e=>by
   by_cases c:b=T
   ·subst c;rw [h1T] at e;cases e
   ·rw [← h1 c];exact e
  have h'T:=fr T _ (Ne.symm nLT) h1T
  refine ⟨_,dx,_,h'T,ZL,ZK,Xj (show 1≤3 by decide),?_⟩
  have nw:∀ x∈ws,x≠T:=fun x hx=>XD (hws x hx).2.2 h'T (by simp)
  refine q L ws _ (nf hL) (fun x hx=>nf (hws x hx).1) hnd hwl (fun b o hb e=>?_) ?_ (by rw [Yd nLT];exact hd) (fun x hx=>by rw [Yd (nw x hx)];exact (hws x hx).2.2)
  ·rw [Yd hb]
   exact fr b o (Yk ((h1 hb).trans e) hL) ((h1 hb).trans e)
  ·rw [Ye]
   refine congrArg some (congrArg (HO.ins _ _) ?_)
   show Y3 "ways" (.ref L) [(("parts":Str),V.ref P)]=W2 P L
   simp only [Y3,if_neg (n1 (a:=("parts":Str)) (b:=("ways":Str)) (by decide +kernel))];rfl
def Z5L (C:Cs):Sp:=fun vs H Q _=>∃ (p dx P:Addr) (as:List Addr),vs=[.ref p,.ref P]∧H p=some (.ins C.row dx [])∧H P=some (.lst (as.map V.ref))∧as.length≤100 ∧
 ∀ c T dt L (ws:List Addr) H',H c=none→H T=none→H L=none→(∀ x∈ws,H x=none)→(c::ws).Nodup→ws.length=as.length+1→SameBut p H H'→H' p=some (.ins C.row dx (mf c (fR P T)))→H' c=some (.lst [])→H' T=some (.ins C.tab dt (W2 P L))→H' L=some (.lst (ws.map V.ref))→(∀ x∈ws,H' x=some (.lst []))→Q .non H'
theorem Z4s {k:Nat} {Z3 Z0 Z1 Za Z5 Z4 Z7 Z9 Z6 Z8 Z2:Addr} (R:g.RawI "RowMaker" Z7 "RowMaker.__init__" Z1p ["self","parts"]) {j_RowTable___init__:Nat} (Z4N:g.Ma j_RowTable___init__ "RowTable" Z9 ["self","parts"] (Z5r (Cs.mk Z2 Z6 Z7 Z9 Z5 Z4 Z8 Z3 Z0 Z1))) (h_RowTable___init__:j_RowTable___init__+1≤k) (ZY:g.Cf k "Maker" "__init__" ["self"] (Z0l (Cs.mk Z2 Z6 Z7 Z9 Z5 Z4 Z8 Z3 Z0 Z1))) (ZD:Cls g.K Z7) (Zo:Yb g.K Z7 "counts") (ZF:Yb g.K Z7 "parts") (ZC:Yb g.K Z7 "table"):g.Ma (k+1) "RowMaker" Z7 ["self","parts"] (Z5L (Cs.mk Z2 Z6 Z7 Z9 Z5 Z4 Z8 Z3 Z0 Z1)):=by
 refine R.ma Z4f (fun vs H Q E h=>by obtain ⟨p,dx,P,as,rfl,hp,hP,hl,q⟩:=h;rfl) fun f_ cdv A outer s H vs Q E hr h=>?_
 obtain ⟨p,dx,P,as,rfl,hp,hP,hl,q⟩:=h
 refine ⟨_,(@Yh _ _ _ _ _ (@YS _ _ _ _ (@WU _ _ _ _ _ _ _ _ _ _ _ _ _ _ _ ZY hr (@Ya _ _ _ _ _ (@pv _ 0 _ _ (by rfl) (by first | exact .inl rfl | exact .inr (.inl rfl) | exact .inr (.inr rfl)) (by decide) (by decide)) Yc (by rfl)) (by omega) (by rfl) (by rfl) (by decide) (by rfl) (by rfl) (by rfl)) (by rfl)) (@Yh _ _ _ _ _ (@Y8 _ _ _ _ _ _ _ _ (@pv _ 0 _ _ (by rfl) (by first | exact .inl rfl | exact .inr (.inl rfl) | exact .inr (.inr rfl)) (by decide) (by decide)) (@pv _ 1 _ _ (by rfl) (by first | exact .inl rfl | exact .inr (.inl rfl) | exact .inr (.inr rfl)) (by decide) (by decide)) rfl) (@Yg _ _ _ (@Y8 _ _ _ _ _ _ _ _ (@pv _ 0 _ _ (by rfl) (by first | exact .inl rfl | exact .inr (.inl rfl) | exact .inr (.inr rfl)) (by decide) (by decide)) (@Wz _ _ _ _ _ _ _ _ _ _ _ _ _ Z4N hr (@Ya _ _ _ _ _ (@pv _ 1 _ _ (by rfl) (by first | exact .inl rfl | exact .inr (.inl rfl) | exact .inr (.inr rfl)) (by decide) (by decide)) Yc (by rfl)) (by omega) (by rfl) (by rfl) (by decide) (by rfl) (by rfl)) rfl)))),?_⟩
 walk_at "rd"
 refine ⟨p,dx,_,rfl,.inr (.inr (.inl rfl)),hp,fun c hc=>?_⟩
 have hne:p≠c:=Yk hp hc
 have npP:p≠P:=XD hp hP (by simp)
 have nPc:P≠c:=Yk hP hc
 refine ⟨_,dx,_,Ye,ZD,ZF,Xj (show 1≤3 by decide),?_⟩
 obtain ⟨H1,hH1⟩:∃ H1,H1=upd (upd (upd H c (.lst [])) p (.ins Z7 dx [("counts",.ref c)])) p (.ins Z7 dx (Y3 "parts" (.ref P) [("counts",.ref c)])):=⟨_,rfl⟩
 rw [← hH1]
 have h1p:H1 p=some (.ins Z7 dx (mf c [("parts",.ref P)])):=by rw [hH1,Ye,VE (n1 (by decide +kernel))]
 have h1c:H1 c=some (.lst []):=by rw [hH1,Yd (Ne.symm hne),Yd (Ne.symm hne),Ye]
 have h1:∀ {b:Addr} {o:HO},b≠p→H b=some o→H1 b=some o:=fun n e=>by rw [hH1,Yd n,Yd n,Yd (Yk e hc)];exact e
 have nf:∀ {b:Addr},H1 b=none→H b=none:=fun {b} e=>by
  cases z:H b with
  | none=>rfl
  | some o =>
   exfalso
   by_cases cc:b=p
   ·subst cc;rw [h1p] at e;cases e
   ·rw [h1 cc z] at e;cases e
 intro T dt gT gdt hnd
 have sd:=Yq.upd_new gdt (.own T)
 have gT2:upd H1 dt (.own T) T=none:=by rw [Yd (Ne.symm hnd)];exact gT
 have s12:=sd.trans (.upd_new gT2 (.ins Z9 dt []))
 refine ⟨T,dt,P,as,rfl,Ye,s12 _ _ (h1 (Ne.symm npP) hP),hl,fun L ws H3 gL gws hndw hwl sb h3T h3L h3w=>?_⟩
 have npT:p≠T:=Yk h1p gT
 have ncT:c≠T:=Yk h1c gT
 have h3p:=sb _ _ npT (s12 _ _ h1p)
 have h3c:=sb _ _ ncT (s12 _ _ h1c)
 have ncw:c∉ws:=fun z=>by have:=gws c z;rw [s12 _ _ h1c] at this;cases this
 have npw:∀ x∈ws,x≠p:=fun x hx=>XD (h3w x hx) h3p (by simp)
 have npL:L≠p:=XD h3L h3p (by simp)
 refine ⟨rfl,_,dx,_,h3p,ZD,ZC,Xj (show 2≤3 by decide),?_⟩
 refine q c T dt L ws _ hc (nf gT) (nf (s12.free gL)) (fun x hx=>nf (s12.free (gws x hx))) (List.nodup_cons.mpr ⟨ncw,hndw⟩) hwl (fun b o hb e=>?_) ?_ ?_ ?_ ?_ (fun x hx=>?_)
 ·rw [Yd hb]
  exact sb _ _ (Yk (h1 hb e) gT) (s12 _ _ (h1 hb e))
 ·rw [Ye,QQ (n1 (by decide +kernel)) (n1 (by decide +kernel))];rfl
 ·rw [Yd (Ne.symm hne)];exact h3c
 ·rw [Yd (Ne.symm npT)];exact h3T
 ·rw [Yd npL];exact h3L
 ·rw [Yd (npw x hx)];exact h3w x hx
def lf (b:V) (d:Addr):List (Str×V):=[("book",b),("makers",.ref d)]
theorem nbm:¬ (("book":Str)="makers"):=by decide +kernel
theorem Yea (b:V) (d:Addr):Y3 "makers" (.ref d) (Y3 "book" b [])=lf b d:=by
 simp only [Y3,if_neg nbm];rfl
theorem We (b:V) (d:Addr):(lf b d).lookup ("makers":Str)=some (.ref d):=by
 show List.lookup ("makers":Str) [(("book":Str),b),(("makers":Str),V.ref d)]=_
 rw [List.lookup_cons,show (("makers":Str)==("book":Str))=false by decide +kernel,List.lookup_cons,show (("makers":Str)==("makers":Str))=true by decide +kernel]
theorem YdD (b:V) (d:Addr):(lf b d).lookup ("book":Str)=some b:=rfl
theorem Ug (b:V) (d:Addr) {m:Str} (h1:(m==("book":Str))=false) (h2:(m==("makers":Str))=false):(lf b d).lookup m=none:=by
 show List.lookup m [(("book":Str),b),(("makers":Str),V.ref d)]=_
 rw [List.lookup_cons,h1,List.lookup_cons,h2];rfl
def Z5M (P:Program) (w:World) (C:Addr):Sp:=fun vs H Q _=>∃ (p dx:Addr) (b:V),vs=[.ref p,b]∧H p=some (.ins C dx [])∧∀ d H',H d=none→SameBut p H H'→H' p=some (.ins C dx (lf b d))→H' d=some (DDi P w d [])→Q .non H'
theorem Z51 {Z3 Z0 Z1 Za Z5 Z4 Z7 Z9 Z6 Z8 Z2:Addr} (R:g.RawI "Lister" Za "Lister.__init__" Z1J ["self","book"]) (ZX:Cls g.K Za) (Z01:Yb g.K Za "book") (ZO:Yb g.K Za "makers"):g.Ma (1) "Lister" Za ["self","book"] (Z5M g.P g.w Za):=by
 refine R.ma Z4Z (fun vs H Q E h=>by obtain ⟨p,dx,b,rfl,hp,q⟩:=h;rfl) fun f_ cdv A outer s H vs Q E hr h=>?_
 obtain ⟨p,dx,b,rfl,hp,q⟩:=h
 refine ⟨_,(@Yh _ _ _ _ _ (@Y8 _ _ _ _ _ _ _ _ (@pv _ 0 _ _ (by rfl) (by first | exact .inl rfl | exact .inr (.inl rfl) | exact .inr (.inr rfl)) (by decide) (by decide)) (@pv _ 1 _ _ (by rfl) (by first | exact .inl rfl | exact .inr (.inl rfl) | exact .inr (.inr rfl)) (by decide) (by decide)) rfl) (@Yg _ _ _ (@Y8 _ _ _ _ _ _ _ _ (@pv _ 0 _ _ (by rfl) (by first | exact .inl rfl | exact .inr (.inl rfl) | exact .inr (.inr rfl)) (by decide) (by decide)) YcB rfl))),?_⟩
 walk_at "rd"
 refine ⟨Za,dx,[],hp,ZX,Z01,by decide,fun d hd=>?_⟩
 have hne:p≠d:=Yk Ye hd
 rw [Yd (Ne.symm hne)] at hd
 refine ⟨Za,dx,_,by rw [Yd hne];exact Ye,ZX,ZO,by simp [Y3],q d _ hd (fun x o hx h=>?_) ?_ ?_⟩
 ·rw [Yd hx,Yd (Yk h hd),Yd hx];exact h
 ·rw [Ye,Yea]
 ·rw [Yd (Ne.symm hne),Ye]
  rfl
theorem Y0 {H:Hp} {a b:Addr} {o:HO} (h:upd H a o b=none):H b=none:=by
 by_cases e:b=a
 ·subst e;rw [Ye] at h;cases h
 ·rw [Yd e] at h;exact h
theorem Xz {H H':Hp} {x dx:Addr} {o u:HO} (hx:H x=none) (hdx:H dx=none) (sb:SameBut x (upd (upd H dx o) x u) H'):Yq H H':=fun y z h=>by
 have n1:y≠x:=Yk h hx
 have n2:y≠dx:=Yk h hdx
 exact sb _ _ n1 (by rw [Yd n1,Yd n2];exact h)
def Vn (K:PySem.W.Frag) (H:Hp) (B:Addr) (prs:Prs):Prop:=∃ vs:List V,H B=some (.lst vs)∧vs.length=prs.length∧∀ (i:Nat) v q,vs[i]?=some v→prs[i]?=some q→∃ T a,v = .ref T∧SqT K H T [.str (S q.1),.ref a]∧DK K H a (kd q.2)
def Z5s (K:PySem.W.Frag):Sp:=fun vs H Q _=>∃ (prs:Prs) (B:Addr) (x:List Nat) (q:List Nat×Sh),vs=[.ref B,.str (S x)]∧Vn K H B prs∧prs.find? (fun q=>decide (q.1=x))=some q∧∀ a,DK K H a (kd q.2)→Q (.ref a) H
theorem Q5 {Z3 Z0 Z1 Za Z5 Z4 Z7 Z9 Z6 Z8 Z2:Addr} (R:g.Raw "shape_of" "shape_of" Z49 ["book","name"]):g.Fn (1) "shape_of" ["book","name"] (Z5s g.K):=by
 refine R.fn Z5p (fun vs H Q E h=>by obtain ⟨prs,B,x,q,rfl,⟨vs,hB,hl,hv⟩,hf,q'⟩:=h;rfl) fun f_ cdv A outer s H vs Q E hr h=>?_
 obtain ⟨prs,B,x,q,rfl,⟨vs,hB,hl,hv⟩,hf,q'⟩:=h
 refine ⟨_,(@Yh _ _ _ _ _ (@XR _ _ _ _ _ _ _ _ PassesOwn.never rfl (@W4 _ _ _ _ (@pv _ 0 _ _ (by rfl) (by first | exact .inl rfl | exact .inr (.inl rfl) | exact .inr (.inr rfl)) (by decide) (by decide))) (@YF _ _ (2) _ Z5p.nd rfl (.inl rfl) (by first | exact .inl rfl | exact .inr rfl | assumption)) (@Yg _ _ _ (@YO _ _ _ _ _ _ _ _ (@Yt _ _ _ _ _ _ _ _ Y4 (@YE _ _ _ _ _ _ _ Xx (@pv _ 2 _ _ (by rfl) (by first | exact .inl rfl | exact .inr (.inl rfl) | exact .inr (.inr rfl)) (by decide) (by decide)) Yf (fun _ _=>rfl)) (@pv _ 1 _ _ (by rfl) (by first | exact .inl rfl | exact .inr (.inl rfl) | exact .inr (.inr rfl)) (by decide) (by decide)) (Yw _)) (@Yg _ _ _ (@Yo _ _ _ _ (@YE _ _ _ _ _ _ _ Xx (@pv _ 2 _ _ (by rfl) (by first | exact .inl rfl | exact .inr (.inl rfl) | exact .inr (.inr rfl)) (by decide) (by decide)) Yf (fun _ _=>rfl)))) YC)) (by intro _;rfl)) (@Yg _ _ _ Qg)),?_⟩
 walk_at "rd"
 refine Ya5 (K:=g.K) (xs:=vs) (fun c i σ H'=>c=B∧H=H'∧(∃ o,σ=[some (.ref B),some (.str (S x)),o])∧∀ (j:Nat) p,j<i→prs[j]?=some p→p.1≠x) (fun R r=>by walk_at "rd";exact r B _ ⟨rfl,rfl,⟨_,rfl⟩,fun j p hj=>by omega⟩) (fun c i σ H' _ ⟨e,e2,_⟩=>by subst e e2;exact SqL.of hB) ?_ ?_
 ·rintro c i v σ H' hx ⟨rfl,rfl,⟨o,rfl⟩,hall⟩
  have hi:=(List.getElem?_eq_some_iff.mp hx).1
  have hp:prs[i]?=some (prs[i]'(by omega)):=List.getElem?_eq_getElem _
  generalize prs[i]'(by omega)=p at hp
  obtain ⟨T,a,rfl,hT,hk⟩:=hv i v p hx hp
  walk_at "rd"
  refine ⟨_,hT,_,Yy (j:=0) rfl,YU _ _,?_⟩
  by_cases e:p.1=x
  ·refine X2 (by rw [e]) ⟨_,hT,_,Yy (j:=1) rfl,q' a ?_⟩
   have:q=p:=by
    obtain ⟨j,hj,e1,e2⟩:=List.find?_eq_some_iff_getElem.mp hf |>.2
    have e1':prs[j]?=some q:=by rw [List.getElem?_eq_getElem hj,e1]
    have hqx:q.1=x:=of_decide_eq_true (List.find?_eq_some_iff_getElem.mp hf).1
    rcases Nat.lt_trichotomy j i with c | c | c
    ·exact absurd hqx (hall j q c e1')
    ·subst c;rw [e1'] at hp;exact Option.some.inj hp
    ·have:=e2 i c
     rw [List.getElem?_eq_getElem (by omega)] at hp
     have hp:=Option.some.inj hp
     rw [hp] at this
     simp [e] at this
   rw [this]
   exact hk
  ·refine YW (fun z=>e (V5 (V.str.inj z))) fun j p' hj hp'=>?_
   rcases Nat.lt_succ_iff_lt_or_eq.mp hj with c | rfl
   ·exact hall j p' c hp'
   ·rw [hp] at hp'
    have:=Option.some.inj hp'
    subst this
    exact e
 ·rintro c σ H' ⟨rfl,rfl,⟨o,rfl⟩,hall⟩
  exfalso
  obtain ⟨j,hj,e1,e2⟩:=List.find?_eq_some_iff_getElem.mp hf |>.2
  have hqx:q.1=x:=of_decide_eq_true (List.find?_eq_some_iff_getElem.mp hf).1
  exact hall j q (by omega) (by rw [List.getElem?_eq_getElem hj,e1]) hqx
def FrB (d:Addr) (H H':Hp):Prop:=∀ b o,b≠d→H b=some o→H' b=some o
theorem FrB.trans {d:Addr} {H H1 H2:Hp} (a:FrB d H H1) (b:FrB d H1 H2):FrB d H H2:=fun c o n e=>b c o n (a c o n e)
theorem VF {d:Addr} {H H':Hp} (s:Yq H H'):FrB d H H':=fun c o _ e=>s _ _ e
theorem Vn.tupk {K:PySem.W.Frag} {H H':Hp} {B:Addr} {prs:Prs} (h:Vn K H B prs) (t:Wr H H') (hB:∀ o,H B=some o→H' B=some o):Vn K H' B prs:=by
 obtain ⟨vs,h1,h2,h3⟩:=h
 refine ⟨vs,hB _ h1,h2,fun i v q e1 e2=>?_⟩
 obtain ⟨T,a,k1,k2,k3⟩:=h3 i v q e1 e2
 exact ⟨T,a,k1,t.sq k2,k3.tupk t⟩
structure LS (P0:Program) (w0:World) (K:PySem.W.Frag) (C:Cs) (CL:Addr) (prs:Prs) (w:Wo) (U O:Addr→Prop) (H:Hp) (ls dx d B:Addr) (xs:Dx):Prop where
 hl:H ls=some (.ins CL dx (lf (.ref B) d))
 hb:Vn K H B prs
 hd:DictD P0 w0 K H d xs
 bi:BI C w U O H
 nd:¬ U d
 nl:¬ U ls
 keys:∀ e∈xs,∃ sh,e.1=kd sh∧okS prs sh∧w.reg e.2.2=some sh
 bk:w.bk=bkO prs
section
variable {P0:Program} {w0:World} {K:PySem.W.Frag} {C:Cs} {CL:Addr} {prs:Prs} {w:Wo} {U O:Addr→Prop} {H H':Hp} {ls dx d B:Addr} {xs:Dx}
theorem LS.loc (L:LS P0 w0 K C CL prs w U O H ls dx d B xs) {D:Addr} (hD:∀ o,H D=some o→∃ zs,o = .lst zs) (nB:D≠B) (nU:¬ U D) (hk:∀ b o,b≠D→H b=some o→H' b=some o):LS P0 w0 K C CL prs w U O H' ls dx d B xs:=by
 have ne:∀ {b:Addr} {o:HO},H b=some o→(∀ zs,o ≠ .lst zs)→b≠D:=fun e n z=>by
  rw [z] at e
  obtain ⟨zs,h⟩:=hD _ e
  exact n zs h
 have tk:Wr H H':=fun b ys h=>by
  rcases h with h | ⟨o,h⟩
  ·exact .inl (hk _ _ (ne h (by intro zs z;cases z)) h)
  ·exact .inr ⟨o,hk _ _ (ne h (by intro zs z;cases z)) h⟩
 refine ⟨hk _ _ (ne L.hl (by intro zs z;cases z)) L.hl,L.hb.tupk tk fun o e=>hk _ _ (Ne.symm nB) e,L.hd.keep tk (hk _ _ (ne L.hd.at_ (by intro zs z;cases z)) L.hd.at_),L.bi.keep fun b o hb e=>hk b o (fun z=>nU (by rw [← z];exact hb)) e,L.nd,L.nl,L.keys,L.bk⟩
theorem LS.same (L:LS P0 w0 K C CL prs w U O H ls dx d B xs) (s:Yq H H'):LS P0 w0 K C CL prs w U O H' ls dx d B xs :=
 ⟨s _ _ L.hl,L.hb.tupk (Ws s) fun o e=>s _ _ e,L.hd.keep (Ws s) (s _ _ L.hd.at_),L.bi.keep fun b o _ e=>s _ _ e,L.nd,L.nl,L.keys,L.bk⟩
theorem WP {a:Addr} {k:PyData} {φ:Heap→Prop} (h:DK K H a k) (fr:FrB d H H') (hd:H d=some (.ext φ)):DK K H' a k:=h.tupk (WM fr hd (by intro xs z;cases z) (by intro o v z;cases z))
theorem LS.made (L:LS P0 w0 K C CL prs w U O H ls dx d B xs) (s:Yq H H') {p:Addr} {os ss:List Addr} {sh:Sh} (N:New H H' U p os ss) (hd:d∉os∧d∉ss) (hl:ls∉os∧ls∉ss) (hm:XM C (w.add p sh os) (t0 (Ua U os ss)) H' p sh):LS P0 w0 K C CL prs (w.add p sh os) (Ua U os ss) O H' ls dx d B xs:=by
 have nOp:¬ O p:=fun z=>by
  obtain ⟨_,_,_,_,h,_⟩:=L.bi.op p z
  exact N.nu _ (.inr N.inn) h.2
 refine ⟨s _ _ L.hl,L.hb.tupk (Ws s) fun o e=>s _ _ e,L.hd.keep (Ws s) (s _ _ L.hd.at_),N.bi L.bi (fun _ _=>Iff.rfl) (fun _=>hm) (fun z=>absurd z nOp),fun z=>?_,fun z=>?_,fun e he=>?_,L.bk⟩
 ·rcases z with z | z | z
  ·exact L.nd z
  ·exact hd.1 z
  ·exact hd.2 z
 ·rcases z with z | z | z
  ·exact L.nl z
  ·exact hl.1 z
  ·exact hl.2 z
 ·obtain ⟨s',h1,h2,h3⟩:=L.keys e he
  exact ⟨s',h1,h2,(N.wg (H0:=fun _=>none) L.bi sh fun _ _=>rfl).reg _ _ h3⟩
theorem LS.reg (L:LS P0 w0 K C CL prs w U O H ls dx d B xs) {p:Addr} {sh:Sh} (hok:okS prs sh) (h:lookD xs (kd sh)=some p):w.reg p=some sh:=by
 obtain ⟨e,he,hp⟩:=Option.map_eq_some_iff.mp h
 have hm:=List.mem_of_find?_eq_some he
 have hk:e.1=kd sh:=of_decide_eq_true (List.find?_some (p:=fun (x:PyData×Addr×Addr)=>decide (x.1=kd sh)) he)
 obtain ⟨s',h1,h2,h3⟩:=L.keys e hm
 rw [hk] at h1
 rw [WO hok h2 h1,← hp]
 exact h3
end
def nm (sh:Sh):Nat:=if kind sh≤1 then 0 else 2*dep sh+2
def NK (prs:Prs) (xs xs':Dx) (n:Nat):Prop:=(∀ e v,lookD xs e=some v→lookD xs' e=some v)∧∀ e,lookD xs' e≠none→lookD xs e≠none∨∃ s,e=kd s∧okS prs s∧dep s<n
theorem NK.refl (prs:Prs) (xs:Dx) (n:Nat):NK prs xs xs n:=⟨fun _ _ h=>h,fun e h => .inl h⟩
theorem NK.trans {prs:Prs} {xs xs1 xs2:Dx} {n:Nat} (a:NK prs xs xs1 n) (b:NK prs xs1 xs2 n):NK prs xs xs2 n:=⟨fun e v h=>b.1 e v (a.1 e v h),fun e h=>by
 rcases b.2 e h with h | h
 ·exact a.2 e h
 ·exact .inr h⟩
theorem NK.mono {prs:Prs} {xs xs1:Dx} {n n':Nat} (a:NK prs xs xs1 n) (h:n≤n'):NK prs xs xs1 n':=⟨a.1,fun e z=>by
 rcases a.2 e z with h1 | ⟨s,h1,h2,h3⟩
 ·exact .inl h1
 ·exact .inr ⟨s,h1,h2,by omega⟩⟩
def kc (sh:Sh):Nat:=if kind sh≤1 then 1 else 2*wt sh
theorem Yc5 (sh:Sh):kc sh≤2*wt sh:=by
 have:=XZ sh
 unfold kc
 split<;>omega
def Uh (P0:Program) (w0:World) (K:PySem.W.Frag) (C:Cs) (CL:Addr) (l:Nat):Sp:=fun vs H Q _=>∃ (prs:Prs) (w:Wo) (U O:Addr→Prop) (ls dx d B a:Addr) (sh:Sh) (xs:Dx),vs=[.ref ls,.ref a]∧LS P0 w0 K C CL prs w U O H ls dx d B xs∧DK K H a (kd sh)∧okS prs sh∧kind sh≠5∧dep sh≤w.M∧wt sh≤20∧xs.length+kc sh≤900∧nm sh+1≤l ∧
 ∀ p H' w' U' xs',LS P0 w0 K C CL prs w' U' O H' ls dx d B xs'→WG w w' U U' H→FrB d H H'→w'.reg p=some sh→xs'.length+1≤xs.length+kc sh→NK prs xs xs' (dep sh)→Q (.ref p) H'
def Z0P (P0:Program) (w0:World) (K:PySem.W.Frag) (C:Cs) (CL:Addr) (l:Nat):Sp:=fun vs H Q _=>∃ (prs:Prs) (w:Wo) (U O:Addr→Prop) (ls dx d B a:Addr) (sh:Sh) (xs:Dx),vs=[.ref ls,.ref a]∧LS P0 w0 K C CL prs w U O H ls dx d B xs∧DK K H a (kd sh)∧okS prs sh∧dep sh≤w.M∧wt sh≤20∧xs.length+kc sh≤900∧nm sh+2≤l ∧
 ∀ p H' w' U' xs',LS P0 w0 K C CL prs w' U' O H' ls dx d B xs'→WG w w' U U' H→FrB d H H'→w'.reg p=some sh→xs'.length≤xs.length+kc sh→NK prs xs xs' (dep sh+1)→Q (.ref p) H'
def Z2Y (P0:Program) (w0:World) (K:PySem.W.Frag) (C:Cs) (CL:Addr) (l:Nat):Sp:=fun vs H Q _=>∃ (prs:Prs) (w:Wo) (U O:Addr→Prop) (ls dx d B a:Addr) (x:List Nat) (xs:Dx),vs=[.ref ls,.ref a]∧LS P0 w0 K C CL prs w U O H ls dx d B xs∧DK K H a (kd (.use x))∧okS prs (.use x)∧lookD xs (kd (.use x))=none∧xs.length+2≤900∧3≤l ∧
 ∀ p H' w' U' xs',LS P0 w0 K C CL prs w' U' O H' ls dx d B xs'→WG w w' U U' H→FrB d H H'→lookD xs' (kd (.use x))=some p→xs'.length≤xs.length+2→NK prs xs xs' 1→Q .non H'
theorem Yeb {P0:Program} {w0:World} {K:PySem.W.Frag} {C:Cs} {CL:Addr} {vs:List V} {H:Hp} {Q:VK} {E:XK} (h:Uh P0 w0 K C CL 0 vs H Q E):False:=by
 obtain ⟨prs,w,U,O,ls,dx,d,B,a,sh,xs,_,_,_,_,_,_,_,_,h,_⟩:=h
 omega
theorem Z5t {P0:Program} {w0:World} {K:PySem.W.Frag} {C:Cs} {CL:Addr} {vs:List V} {H:Hp} {Q:VK} {E:XK} (h:Z0P P0 w0 K C CL 0 vs H Q E):False:=by
 obtain ⟨prs,w,U,O,ls,dx,d,B,a,sh,xs,_,_,_,_,_,_,_,h,_⟩:=h
 omega
theorem Ybl {P0:Program} {w0:World} {K:PySem.W.Frag} {C:Cs} {CL:Addr} {vs:List V} {H:Hp} {Q:VK} {E:XK} (h:Z2Y P0 w0 K C CL 0 vs H Q E):False:=by
 obtain ⟨prs,w,U,O,ls,dx,d,B,a,x,xs,_,_,_,_,_,_,h,_⟩:=h
 omega
mutual
theorem Ve:∀ sh:Sh,dep sh≤wt sh
 | .w _ _=>by simp [dep,wt]
 | .t _=>by simp [dep,wt]
 | .use _=>by simp [dep,wt]
 | .row ps=>by have:=Vo ps;rw [dep,wt];omega
 | .pick _ ps=>by have:=Vo ps;rw [dep,wt];omega
 | .many p=>by have:=Ve p;rw [dep,wt];omega
 | .alike p _=>by have:=Ve p;rw [dep,wt];omega
 | .cho _ p=>by have:=Ve p;rw [dep,wt];omega
theorem Vo:∀ ps:List Sh,YQ ps≤wts ps
 | []=>by simp [YQ,wts]
 | p::ps=>by have:=Ve p;have:=Vo ps;rw [YQ,wts];omega
end
theorem Ybm {x:Int} {e:Nat} (h1:0≤x) (h2:x≤2^e) (he:e+1≤10000000):sm x:=by
 refine ⟨e+1,he,?_⟩
 have h3:(2:Int)^e<2^(e+1):=by
  have:(2:Nat)^e<2^(e+1):=Nat.pow_lt_pow_right (by decide) (by omega)
  exact_mod_cast this
 have h4:(x.natAbs:Int)<((2^(e+1):Nat):Int):=by
  rw [Int.natAbs_of_nonneg h1]
  have:=Int.lt_of_le_of_lt h2 h3
  exact_mod_cast this
 exact_mod_cast h4
theorem WX {prs:Prs} {sh:Sh} (h:okS prs sh) (hw:wt sh≤20) {s:Nat} (hs:s≤45):sm (cnt (bkO prs) sh s):=by
 have:=Ve sh
 obtain ⟨h1,h2⟩:=X0 prs sh s 7140 hs h hw (by omega)
 exact Ybm h1 h2 (by omega)
theorem Yec {prs:Prs} {ps:List Sh} (h:Xm prs ps) (hw:wts ps≤20) {s:Nat} (hs:s≤45):sm (Y9 (bkO prs) ps s):=by
 have:=Vo ps
 obtain ⟨h1,h2⟩:=Uw prs ps s 7140 hs h hw (by omega)
 exact Ybm h1 h2 (by omega)
theorem Ybn {prs:Prs} {p:Sh} (un:Bool) (h:okS prs p) (hw:wt p≤20) (l:Nat) {s:Nat} (hs:s≤45):sm (wy un (cnt (bkO prs) p) l s):=by
 have:=Ve p
 obtain ⟨h1,h2⟩:=Ybj (un:=un) (c:=cnt (bkO prs) p) (K:=7140) (B:=240) (s:=s) (fun f hf=>by
  obtain ⟨k1,k2⟩:=X0 prs p f 7140 (by omega) h hw (by omega)
  exact ⟨k1,Int.le_trans k2 (Xr (by omega))⟩) hs s l s (by omega) (Nat.le_refl _)
 exact Ybm h1 h2 (by omega)
theorem Ybo {prs:Prs} {p:Sh} (h:okS prs p) (hw:wt p≤20) (hd:dep p≤4) {s:Nat} (hs:s≤45):sB (cnt (bkO prs) p s):=by
 obtain ⟨h1,h2⟩:=X0 prs p s 1700 hs h hw (by omega)
 refine ⟨h1,1700*s+(12*wt p - 6)+1,by omega,?_⟩
 have h3:(2:Int)^(1700*s+(12*wt p - 6))<2^(1700*s+(12*wt p - 6)+1):=by
  have:(2:Nat)^(1700*s+(12*wt p - 6))<2^(1700*s+(12*wt p - 6)+1):=Nat.pow_lt_pow_right (by decide) (by omega)
  exact_mod_cast this
 have h4:((cnt (bkO prs) p s).toNat:Int)<((2^(1700*s+(12*wt p - 6)+1):Nat):Int):=by
  rw [Int.toNat_of_nonneg h1]
  have:=Int.lt_of_le_of_lt h2 h3
  exact_mod_cast this
 exact_mod_cast h4
section
variable {P0:Program} {w0:World} {K:PySem.W.Frag} {C:Cs} {CL:Addr} {prs:Prs} {w w1:Wo} {U U1 O:Addr→Prop} {H H1 H3:Hp} {ls dx d B:Addr} {xs xs1:Dx}
theorem LS.fin (L:LS P0 w0 K C CL prs w U O H ls dx d B xs) (L1:LS P0 w0 K C CL prs w1 U1 O H1 ls dx d B xs1) (G1:WG w w1 U U1 H) (fr1:FrB d H H1) (s:Yq H1 H3) {p:Addr} {os ss:List Addr} {sh:Sh} (N:New H1 H3 U1 p os ss) (h0:∀ b,b∈os∨b∈ss→H b=none) (hm:XM C (w1.add p sh os) (t0 (Ua U1 os ss)) H3 p sh) :
  LS P0 w0 K C CL prs (w1.add p sh os) (Ua U1 os ss) O H3 ls dx d B xs1∧WG w (w1.add p sh os) U (Ua U1 os ss) H∧FrB d H H3∧(w1.add p sh os).reg p=some sh:=by
 have nd:∀ {l:List Addr},(∀ b∈l,H b=none)→d∉l:=fun h z=>by have:=h d z;rw [L.hd.at_] at this;cases this
 have nl:∀ {l:List Addr},(∀ b∈l,H b=none)→ls∉l:=fun h z=>by have:=h ls z;rw [L.hl] at this;cases this
 exact ⟨L1.made s N ⟨nd fun b hb=>h0 b (.inl hb),nd fun b hb=>h0 b (.inr hb)⟩ ⟨nl fun b hb=>h0 b (.inl hb),nl fun b hb=>h0 b (.inr hb)⟩ hm,G1.trans (N.wg L1.bi sh h0) (fun _ h=>h),fr1.trans (VF s),if_pos rfl⟩
theorem LS.back (L1:LS P0 w0 K C CL prs w1 U1 O H1 ls dx d B xs1) (fr1:FrB d H H1) {b:Addr} (h:H1 b=none):H b=none:=by
 cases e:H b with
 | none=>rfl
 | some o =>
  exfalso
  by_cases c:b=d
  ·subst c;rw [L1.hd.at_] at h;cases h
  ·rw [fr1 b o c e] at h;cases h
end
theorem YdE {prs:Prs} {sh q:Sh} (h:okS prs sh) (hq:q∈Xc sh):okS prs q:=by
 cases sh with
 | row ps=>rw [okS] at h;exact Uv h.2 hq
 | pick mk ps=>rw [okS] at h;exact Uv h.2.2 hq
 | many p =>
  rw [okS] at h
  have:q=p:=by simpa [Xc] using hq
  rw [this];exact h
 | alike p n =>
  rw [okS] at h
  have:q=p:=by simpa [Xc] using hq
  rw [this];exact h.2
 | cho un p =>
  rw [okS] at h
  have:q=p:=by simpa [Xc] using hq
  rw [this];exact h.2
 | _=>cases hq
theorem YcG {sh q:Sh} (hq:q∈Xc sh):dep q+1≤dep sh:=by
 cases sh with
 | row ps=>rw [show dep (.row ps)=YQ ps+1 by rw [dep]];have:=W8 (ps:=ps) hq;omega
 | pick mk ps=>rw [show dep (.pick mk ps)=YQ ps+1 by rw [dep]];have:=W8 (ps:=ps) hq;omega
 | many p =>
  have:q=p:=by simpa [Xc] using hq
  rw [this,show dep (.many p)=dep p+1 by rw [dep]];omega
 | alike p n =>
  have:q=p:=by simpa [Xc] using hq
  rw [this,show dep (.alike p n)=dep p+1 by rw [dep]];omega
 | cho un p =>
  have:q=p:=by simpa [Xc] using hq
  rw [this,show dep (.cho un p)=dep p+1 by rw [dep]];omega
 | _=>cases hq
theorem YaB {sh:Sh} (h:kind sh=2∨kind sh=3∨kind sh=4∨kind sh=6∨kind sh=7):wts (Xc sh)+1=wt sh:=by
 cases sh with
 | row ps=>rw [show wt (.row ps)=wts ps+1 by rw [wt]];rfl
 | pick mk ps=>rw [show wt (.pick mk ps)=wts ps+1 by rw [wt]];rfl
 | many p=>rw [show wt (.many p)=wt p+1 by rw [wt],Xc];simp [wts]
 | alike p n=>rw [show wt (.alike p n)=wt p+1 by rw [wt],Xc];simp [wts]
 | cho un p=>rw [show wt (.cho un p)=wt p+1 by rw [wt],Xc];simp [wts]
 | _=>simp [kind] at h
theorem Uy:∀ a b:List Sh,wts (a++b)=wts a+wts b
 | [],b=>by simp [wts]
 | p::a,b=>by
  have:=Uy a b
  rw [List.cons_append,wts,wts]
  omega
theorem YcH {l:List Sh} {i:Nat} {q:Sh} (h:l[i]?=some q):wts (l.take (i+1))=wts (l.take i)+wt q:=by
 rw [WT h,Uy]
 simp [wts]
theorem Q6 (l:List Sh) (i:Nat):wts (l.take i)≤wts l:=by
 have e:wts l=wts (l.take i)+wts (l.drop i):=by rw [← Uy,List.take_append_drop]
 omega
theorem YaC:∀ l:List Sh,l.length≤wts l
 | []=>Nat.zero_le _
 | p::l=>by
  have:=YaC l
  have:=XZ p
  rw [wts,List.length_cons]
  omega
theorem nm_le {sh q:Sh} (hk:2≤kind sh) (hd:dep q+1≤dep sh):nm q+2≤nm sh:=by
 unfold nm
 rw [if_neg (by omega:¬ kind sh≤1)]
 split<;>omega
def kn:Sh→Str
 | .w _ _=>"whole"
 | .t _=>"text"
 | .row _=>"row"
 | .pick _ _=>"pick"
 | .many _=>"many"
 | .alike _ _=>"alike"
 | .use _=>"use"
 | .cho un _=>if un then "unlike" else "rising"
theorem YdF {K:PySem.W.Frag} {H:Hp} {a:Addr} {sh:Sh} (h:DK K H a (kd sh)):∃ r,SqT K H a (.str (kn sh)::r):=by
 have h:=h.den
 have:∃ ds,kd sh = .tuple (.str (kn sh)::ds):=by cases sh<;>exact ⟨_,by rw [kd];rfl⟩
 obtain ⟨ds,e⟩:=this
 rw [e] at h
 obtain ⟨b,vs,e,hT,hvs⟩:=Xl h
 have:=V.ref.inj e
 subst this
 obtain ⟨u1,r1,rfl,h5,h6⟩:=Xa hvs
 have:=Wd h5
 subst this
 exact ⟨_,hT⟩
theorem kn_ne {sh:Sh} (h:kind sh=2∨kind sh=3∨kind sh=4∨kind sh=6∨kind sh=7):kn sh≠"whole"∧kn sh≠"text":=by
 cases sh with
 | cho un p =>
  cases un with
  | true=>exact ⟨(by decide +kernel:("unlike":Str)≠"whole"),(by decide +kernel:("unlike":Str)≠"text")⟩
  | false=>exact ⟨(by decide +kernel:("rising":Str)≠"whole"),(by decide +kernel:("rising":Str)≠"text")⟩
 | w _ _=>simp [kind] at h
 | t _=>simp [kind] at h
 | use _=>simp [kind] at h
 | row _=>exact ⟨(by decide +kernel:("row":Str)≠"whole"),(by decide +kernel:("row":Str)≠"text")⟩
 | pick _ _=>exact ⟨(by decide +kernel:("pick":Str)≠"whole"),(by decide +kernel:("pick":Str)≠"text")⟩
 | many _=>exact ⟨(by decide +kernel:("many":Str)≠"whole"),(by decide +kernel:("many":Str)≠"text")⟩
 | alike _ _=>exact ⟨(by decide +kernel:("alike":Str)≠"whole"),(by decide +kernel:("alike":Str)≠"text")⟩
theorem Yed {sh:Sh} (h:kind sh≠5):(∃ lo span,sh = .w lo span)∨(∃ sg,sh = .t sg)∨(kind sh=2∨kind sh=3∨kind sh=4∨kind sh=6∨kind sh=7):=by
 cases sh with
 | w lo span=>exact .inl ⟨_,_,rfl⟩
 | t sg=>exact .inr (.inl ⟨_,rfl⟩)
 | use x=>exact (h rfl).elim
 | row _=>exact .inr (.inr (.inl rfl))
 | pick _ _=>exact .inr (.inr (.inr (.inl rfl)))
 | many _=>exact .inr (.inr (.inr (.inr (.inl rfl))))
 | alike _ _=>exact .inr (.inr (.inr (.inr (.inr (.inl rfl)))))
 | cho _ _=>exact .inr (.inr (.inr (.inr (.inr (.inr rfl)))))
theorem VP {H H3:Hp} {U:Addr→Prop} {x c:Addr} {C dx:Addr} {fs:List (Str×V)} (nU:∀ {b:Addr},H b=none→¬ U b) (hx:H x=none) (hcH:H c=none) (s3:Yq H H3) (h3:H3 x=some (.ins C dx fs)) (h4:H3 c=some (.lst [])):New H H3 U x [c] [x]:=by
 have ncx:c≠x:=fun z=>by rw [z,h3] at h4;cases h4
 exact ⟨fun b hb=>by
   rcases hb with hb | hb
   ·rw [List.mem_singleton.mp hb];exact nU hcH
   ·rw [List.mem_singleton.mp hb];exact nU hx,.head _,by simp,fun b hb hb'=>ncx ((List.mem_singleton.mp hb).symm.trans (List.mem_singleton.mp hb')),fun b o _ e=>s3 _ _ e,fun b hb=>by
   rcases hb with hb | hb
   ·rw [List.mem_singleton.mp hb,h4];intro z;cases z
   ·rw [List.mem_singleton.mp hb,h3];intro z;cases z⟩
theorem Vp {H:Hp} {x c:Addr} (hx:H x=none) (hc:H c=none) (b:Addr) (hb:b∈[c]∨b∈[x]):H b=none:=by
 rcases hb with hb | hb
 ·rw [List.mem_singleton.mp hb];exact hc
 ·rw [List.mem_singleton.mp hb];exact hx
variable {m:Nat}
theorem Z2D {k:Nat} {Z3 Z0 Z1 Za Z5 Z4 Z7 Z9 Z6 Z8 Z2:Addr} (R:g.RawM Za "new_maker" "Lister.new_maker" Z1z ["self","shape"]) (F_parts_of:g.Fn k "parts_of" ["shape"] (Z3x g.K)) (Z0G:g.Me k Za "maker_of" ["self","shape"] (Z0P g.P g.w g.K (Cs.mk Z2 Z6 Z7 Z9 Z5 Z4 Z8 Z3 Z0 Z1) Za m)) {j_WholeMaker___init__:Nat} (Z40:g.Ma j_WholeMaker___init__ "WholeMaker" Z2 ["self","low","high"] (Z5E (Cs.mk Z2 Z6 Z7 Z9 Z5 Z4 Z8 Z3 Z0 Z1))) (h_WholeMaker___init__:j_WholeMaker___init__+1≤k) {j_TextMaker___init__:Nat} (Z4t:g.Ma j_TextMaker___init__ "TextMaker" Z6 ["self","signs"] (Z5F (Cs.mk Z2 Z6 Z7 Z9 Z5 Z4 Z8 Z3 Z0 Z1))) (h_TextMaker___init__:j_TextMaker___init__+1≤k) {j_RowMaker___init__:Nat} (Z4O:g.Ma j_RowMaker___init__ "RowMaker" Z7 ["self","parts"] (Z5L (Cs.mk Z2 Z6 Z7 Z9 Z5 Z4 Z8 Z3 Z0 Z1))) (h_RowMaker___init__:j_RowMaker___init__+1≤k) {j_ManyMaker___init__:Nat} (Z4u:g.Ma j_ManyMaker___init__ "ManyMaker" Z5 ["self","part"] (Z5G (Cs.mk Z2 Z6 Z7 Z9 Z5 Z4 Z8 Z3 Z0 Z1))) (h_ManyMaker___init__:j_ManyMaker___init__+1≤k) {j_PickMaker___init__:Nat} (Z4v:g.Ma j_PickMaker___init__ "PickMaker" Z4 ["self","marks","parts"] (Z5H (Cs.mk Z2 Z6 Z7 Z9 Z5 Z4 Z8 Z3 Z0 Z1))) (h_PickMaker___init__:j_PickMaker___init__+1≤k) {j_AlikeMaker___init__:Nat} (Z41:g.Ma j_AlikeMaker___init__ "AlikeMaker" Z3 ["self","part","times"] (Z5J (Cs.mk Z2 Z6 Z7 Z9 Z5 Z4 Z8 Z3 Z0 Z1))) (h_AlikeMaker___init__:j_AlikeMaker___init__+1≤k) {j_ChoiceMaker___init__:Nat} (Z3B:g.Ma j_ChoiceMaker___init__ "ChoiceMaker" Z0 ["self","part","unlike"] (Z4q (Cs.mk Z2 Z6 Z7 Z9 Z5 Z4 Z8 Z3 Z0 Z1))) (h_ChoiceMaker___init__:j_ChoiceMaker___init__+1≤k) (ZX:Cls g.K Za) (Z01:Yb g.K Za "book") (ZO:Yb g.K Za "makers"):g.Me (k+1) Za "new_maker" ["self","shape"] (Uh g.P g.w g.K (Cs.mk Z2 Z6 Z7 Z9 Z5 Z4 Z8 Z3 Z0 Z1) Za (m+1)):=by
 refine R.me Z1m (fun vs H Q E h=>by obtain ⟨prs,w,U,O,ls,dx,d,B,a,sh,xs,rfl,L,hk,hok,hki,hdp,hwt,hxl,hnm,q⟩:=h;rfl) fun f_ cdv A outer s H vs Q E hr h=>?_
 obtain ⟨prs,w,U,O,ls,dx,d,B,a,sh,xs,rfl,L,hk,hok,hki,hdp,hwt,hxl,hnm,q⟩:=h
 refine ⟨_,(@Yh _ _ _ _ _ (@YA _ _ (2) _ _ _ _ Z1m.nd rfl (.inl rfl) (@YE _ _ _ _ _ _ _ Xx (@pv _ 1 _ _ (by rfl) (by first | exact .inl rfl | exact .inr (.inl rfl) | exact .inr (.inr rfl)) (by decide) (by decide)) Yf (fun _ _=>rfl)) (by rfl) (by first | exact .inl rfl | exact .inr rfl | assumption)) (@Yh _ _ _ _ _ (@YO _ _ _ _ _ _ _ _ (@Yt _ _ _ _ _ _ _ _ Y4 (@pv _ 2 _ _ (by rfl) (by first | exact .inl rfl | exact .inr (.inl rfl) | exact .inr (.inr rfl)) (by decide) (by decide)) Y1 (Yw _)) (@Yg _ _ _ (@Yo _ _ _ _ (@Wz _ _ _ _ _ _ _ _ _ _ _ _ _ Z40 hr (@Ya _ _ _ _ _ (@YE _ _ _ _ _ _ _ Xx (@pv _ 1 _ _ (by rfl) (by first | exact .inl rfl | exact .inr (.inl rfl) | exact .inr (.inr rfl)) (by decide) (by decide)) Yf (fun _ _=>rfl)) (@Ya _ _ _ _ _ (@YE _ _ _ _ _ _ _ Xx (@pv _ 1 _ _ (by rfl) (by first | exact .inl rfl | exact .inr (.inl rfl) | exact .inr (.inr rfl)) (by decide) (by decide)) Yf (fun _ _=>rfl)) Yc (by rfl)) (by rfl)) (by omega) (by rfl) (by rfl) (by decide) (by rfl) (by rfl)))) YC) (@Yh _ _ _ _ _ (@YO _ _ _ _ _ _ _ _ (@Yt _ _ _ _ _ _ _ _ Y4 (@pv _ 2 _ _ (by rfl) (by first | exact .inl rfl | exact .inr (.inl rfl) | exact .inr (.inr rfl)) (by decide) (by decide)) Y1 (Yw _)) (@Yg _ _ _ (@Yo _ _ _ _ (@Wz _ _ _ _ _ _ _ _ _ _ _ _ _ Z4t hr (@Ya _ _ _ _ _ (@YE _ _ _ _ _ _ _ Xx (@pv _ 1 _ _ (by rfl) (by first | exact .inl rfl | exact .inr (.inl rfl) | exact .inr (.inr rfl)) (by decide) (by decide)) Yf (fun _ _=>rfl)) Yc (by rfl)) (by omega) (by rfl) (by rfl) (by decide) (by rfl) (by rfl)))) YC) (@Yh _ _ _ _ _ (@Ydv _ (3) _ _ _ _ _ _ _ _ _ ([none,some 0]) ((["part","self"]:List Str)) _ (YL 0) _ _ Z1m.nd rfl (.inl rfl) (.own (.cap (i:=0) rfl rfl (by first | exact .inl rfl | exact .inr rfl) .nil)) rfl (@W4 _ _ _ _ (@Yx _ _ _ _ _ _ _ _ _ _ _ _ F_parts_of hr (@Ya _ _ _ _ _ (@pv _ 1 _ _ (by rfl) (by first | exact .inl rfl | exact .inr (.inl rfl) | exact .inr (.inr rfl)) (by decide) (by decide)) Yc (by rfl)) (by omega) (by rfl) (by rfl) (by decide) (by rfl) (by rfl))) (fun cl C s₀ H₀ fp pn=>(@YF _ _ (0) _ (show List.Nodup (["part","self"]:List Str) by decide +kernel) rfl (.inl rfl) (.inr rfl))) (fun cl C s₀ H₀ fp pn=>Xs) (fun cl C s₀ H₀ fp pn=>(@Yn _ _ _ _ _ _ _ _ _ _ _ _ _ _ _ _ Z0G ZX hr (@pv _ 1 _ _ (by rfl) (by first | exact .inl rfl | exact .inr (.inl rfl) | exact .inr (.inr rfl)) (by decide) (by decide)) (@Ya _ _ _ _ _ (@pv _ 0 _ _ (by rfl) (by first | exact .inl rfl | exact .inr (.inl rfl) | exact .inr (.inr rfl)) (by decide) (by decide)) Yc (by rfl)) (by omega) (by rfl) (by rfl) (by rfl) (by rfl))) (by intro x hx;simp at hx;first | (subst hx;exact .inl rfl) | (rcases hx with rfl | rfl<;>exact .inl rfl) | (rcases hx with rfl | rfl | rfl<;>exact .inl rfl) | (rcases hx with rfl | rfl | rfl | rfl<;>exact .inl rfl) | (rcases hx with rfl | rfl | rfl | rfl | rfl<;>exact .inl rfl)) (by rfl) (by decide) (by decide +kernel) (by intro _;rfl) (by rfl) (by first | exact .inl rfl | exact .inr rfl | assumption)) (@Yh _ _ _ _ _ (@YO _ _ _ _ _ _ _ _ (@Yt _ _ _ _ _ _ _ _ Y4 (@pv _ 2 _ _ (by rfl) (by first | exact .inl rfl | exact .inr (.inl rfl) | exact .inr (.inr rfl)) (by decide) (by decide)) Y1 (Yw _)) (@Yg _ _ _ (@Yo _ _ _ _ (@Wz _ _ _ _ _ _ _ _ _ _ _ _ _ Z4O hr (@Ya _ _ _ _ _ (@pv _ 3 _ _ (by rfl) (by first | exact .inl rfl | exact .inr (.inl rfl) | exact .inr (.inr rfl)) (by decide) (by decide)) Yc (by rfl)) (by omega) (by rfl) (by rfl) (by decide) (by rfl) (by rfl)))) YC) (@Yh _ _ _ _ _ (@YO _ _ _ _ _ _ _ _ (@Yt _ _ _ _ _ _ _ _ Y4 (@pv _ 2 _ _ (by rfl) (by first | exact .inl rfl | exact .inr (.inl rfl) | exact .inr (.inr rfl)) (by decide) (by decide)) Y1 (Yw _)) (@Yg _ _ _ (@Yo _ _ _ _ (@Wz _ _ _ _ _ _ _ _ _ _ _ _ _ Z4v hr (@Ya _ _ _ _ _ (@Wj _ _ _ _ _ _ _ ([none,none]) ((["mark","part"]:List Str)) _ (WZ g.K 2 (Xq (YL 0) (Xq (YL 1) WY))) _ _ (.own (.own .nil)) rfl (@YbG _ _ _ _ (@YE _ _ _ _ _ _ _ Xx (@pv _ 1 _ _ (by rfl) (by first | exact .inl rfl | exact .inr (.inl rfl) | exact .inr (.inr rfl)) (by decide) (by decide)) Yf (fun _ _=>rfl))) (fun cl C s₀ H₀ fp pn=>(@VY _ _ _ _ _ (2) rfl (@XQ _ _ _ _ _ (@YF _ _ (0) _ (show List.Nodup (["mark","part"]:List Str) by decide +kernel) rfl (.inl rfl) (.inr rfl)) (@XQ _ _ _ _ _ (@YF _ _ (1) _ (show List.Nodup (["mark","part"]:List Str) by decide +kernel) rfl (.inl rfl) (.inr rfl)) VI (by rfl)) (by rfl)) (by rfl) (by rfl))) (fun cl C s₀ H₀ fp pn=>Xs) (fun cl C s₀ H₀ fp pn=>(@pv _ 0 _ _ (by rfl) (by first | exact .inl rfl | exact .inr (.inl rfl) | exact .inr (.inr rfl)) (by decide) (by decide))) (by intro x hx;simp at hx) (by rfl) (by decide) (by decide +kernel) (by intro _;rfl)) (@Ya _ _ _ _ _ (@pv _ 3 _ _ (by rfl) (by first | exact .inl rfl | exact .inr (.inl rfl) | exact .inr (.inr rfl)) (by decide) (by decide)) Yc (by rfl)) (by rfl)) (by omega) (by rfl) (by rfl) (by decide) (by rfl) (by rfl)))) YC) (@Yh _ _ _ _ _ (@YO _ _ _ _ _ _ _ _ (@Yt _ _ _ _ _ _ _ _ Y4 (@pv _ 2 _ _ (by rfl) (by first | exact .inl rfl | exact .inr (.inl rfl) | exact .inr (.inr rfl)) (by decide) (by decide)) Y1 (Yw _)) (@Yg _ _ _ (@Yo _ _ _ _ (@Wz _ _ _ _ _ _ _ _ _ _ _ _ _ Z4u hr (@Ya _ _ _ _ _ (@YE _ _ _ _ _ _ _ YJ (@pv _ 3 _ _ (by rfl) (by first | exact .inl rfl | exact .inr (.inl rfl) | exact .inr (.inr rfl)) (by decide) (by decide)) Yf (fun _ _=>rfl)) Yc (by rfl)) (by omega) (by rfl) (by rfl) (by decide) (by rfl) (by rfl)))) YC) (@Yh _ _ _ _ _ (@YO _ _ _ _ _ _ _ _ (@Yt _ _ _ _ _ _ _ _ Y4 (@pv _ 2 _ _ (by rfl) (by first | exact .inl rfl | exact .inr (.inl rfl) | exact .inr (.inr rfl)) (by decide) (by decide)) Y1 (Yw _)) (@Yg _ _ _ (@Yo _ _ _ _ (@Wz _ _ _ _ _ _ _ _ _ _ _ _ _ Z41 hr (@Ya _ _ _ _ _ (@YE _ _ _ _ _ _ _ YJ (@pv _ 3 _ _ (by rfl) (by first | exact .inl rfl | exact .inr (.inl rfl) | exact .inr (.inr rfl)) (by decide) (by decide)) Yf (fun _ _=>rfl)) (@Ya _ _ _ _ _ (@YE _ _ _ _ _ _ _ Xx (@pv _ 1 _ _ (by rfl) (by first | exact .inl rfl | exact .inr (.inl rfl) | exact .inr (.inr rfl)) (by decide) (by decide)) Yf (fun _ _=>rfl)) Yc (by rfl)) (by rfl)) (by omega) (by rfl) (by rfl) (by decide) (by rfl) (by rfl)))) YC) (@Yg _ _ _ (@Yo _ _ _ _ (@Wz _ _ _ _ _ _ _ _ _ _ _ _ _ Z3B hr (@Ya _ _ _ _ _ (@YE _ _ _ _ _ _ _ YJ (@pv _ 3 _ _ (by rfl) (by first | exact .inl rfl | exact .inr (.inl rfl) | exact .inr (.inr rfl)) (by decide) (by decide)) Yf (fun _ _=>rfl)) (@Ya _ _ _ _ _ (@Ydc _ _ _ _ _ _ _ _ Y4 (@pv _ 2 _ _ (by rfl) (by first | exact .inl rfl | exact .inr (.inl rfl) | exact .inr (.inr rfl)) (by decide) (by decide)) Y1 (Yw _)) Yc (by rfl)) (by rfl)) (by omega) (by rfl) (by rfl) (by decide) (by rfl) (by rfl)))))))))))),?_⟩
 have hkd:=hk.den
 have nU:∀ {b:Addr},H b=none→¬ U b:=fun e z=>L.bi.al _ z e
 have parts:(kind sh=2∨kind sh=3∨kind sh=4∨kind sh=6∨kind sh=7)→∀ (mv:V) (Qc:VK),(∀ D (as:List Addr) H1 w1 U1 xs1,LS g.P g.w g.K (Cs.mk Z2 Z6 Z7 Z9 Z5 Z4 Z8 Z3 Z0 Z1) Za prs w1 U1 O H1 ls dx d B xs1→WG w w1 U U1 H→FrB d H H1→H D=none→¬ U1 D→H1 D=some (.lst (as.map V.ref))→Wl w1.reg as (Xc sh)→xs1.length+2≤xs.length+2*wt sh→NK prs xs xs1 (dep sh)→Qc (.ref D) H1) →
   tLC [none,some 0] (Vj g.K (VZ (Z3x g.K) [] E0 (U0 (Ui 1) Uk))) (YL 0) Vk (U4 Za "maker_of" (Z0P g.P g.w g.K (Cs.mk Z2 Z6 Z7 Z9 Z5 Z4 Z8 Z3 Z0 Z1) Za m) [] E0 (Ui 1) (U0 (Ui 0) Uk)) [some (V.ref ls),some (V.ref a),some mv,none] H Qc:=by
  intro h3 mv Qc hq
  have hsw:=YaB h3
  have hkc:kc sh=2*wt sh:=if_neg (by omega)
  refine Ybk (K:=g.K) (fun b vs H1=>Yq H H1∧H b=none∧∃ bs:List Addr,vs=bs.map V.ref∧H1 b=some (.lst vs)∧bs.length=(Xc sh).length∧∀ (i:Nat) b q,bs[i]?=some b→(Xc sh)[i]?=some q→DK g.K H b (kd q)) (fun R r=>?_) ?_
  ·walk_at "rd"
   exact ⟨prs,a,sh,rfl,hk,hok,h3,fun D bs H1 s1 hD hd hl hb=>r D _ H1 ⟨s1,hD,bs,rfl,hd,hl,hb⟩⟩
  ·rintro b vs H1 ⟨s1,gb,bs,rfl,hb1,hbl,hbs⟩
   have hlw:=YaC (Xc sh)
   refine ⟨SqL.of hb1,by rw [List.length_map];omega,fun D i zs H'=>∃ (as:List Addr) (w1:Wo) (U1:Addr→Prop) (xs1:Dx),zs=as.map V.ref∧as.length=i∧LS g.P g.w g.K (Cs.mk Z2 Z6 Z7 Z9 Z5 Z4 Z8 Z3 Z0 Z1) Za prs w1 U1 O H' ls dx d B xs1∧WG w w1 U U1 H∧FrB d H1 H'∧¬ U1 D∧H' D=some (.lst zs)∧(∀ (j:Nat) a q,as[j]?=some a→(Xc sh)[j]?=some q→w1.reg a=some q)∧xs1.length≤xs.length+2*wts ((Xc sh).take i)∧NK prs xs xs1 (dep sh),?_,?_,?_,?_⟩
   ·intro D hD
    have sD:=Yq.upd_new hD (.lst [])
    exact ⟨[],w,U,xs,rfl,rfl,(L.same s1).same sD,.refl _ _ _,VF sD,nU (s1.free hD),Ye,fun j a q h=>(by simp at h),by simp [wts],.refl _ _ _⟩
   ·rintro D i zs H' hD ⟨as,w1,U1,xs1,rfl,h1,L1,G1,fr1,hU1,h2,_⟩
    have nbd:b≠d:=XD hb1 (s1 _ _ L.hd.at_) (by intro z;cases z)
    exact ⟨by rw [List.length_map,h1],h2,SqL.of (fr1 _ _ nbd hb1)⟩
   ·rintro D i x zs H' hD hx ⟨as,w1,U1,xs1,rfl,hal,L1,G1,fr1,hU1,hD',hreg,hxl1,nk1⟩ R r
    rw [List.getElem?_map] at hx
    obtain ⟨bq,hbq,rfl⟩:=Option.map_eq_some_iff.mp hx
    have hi:=(List.getElem?_eq_some_iff.mp hbq).1
    have hsq:(Xc sh)[i]?=some ((Xc sh)[i]'(by omega)):=List.getElem?_eq_getElem _
    generalize (Xc sh)[i]'(by omega)=sq at hsq
    have hmem:=List.mem_of_getElem? hsq
    have hdq:=YcG hmem
    have hwq:=YcH hsq
    have hwl:=Q6 (Xc sh) (i+1)
    have hkq:=Yc5 sq
    have hnq:=nm_le (by omega:2≤kind sh) hdq
    have frH:FrB d H H':=(VF s1).trans fr1
    have dkq:=WP (hbs i bq sq hbq hsq) frH L.hd.at_
    walk_at "rd"
    refine ⟨_,_,L1.hl,Ug _ _ (by decide +kernel) (by decide +kernel),prs,w1,U1,O,ls,dx,d,B,bq,sq,xs1,rfl,L1,dkq,YdE hok hmem,by rw [G1.M];omega,by omega,by omega,by omega,fun p H2 w2 U2 xs2 L2 G2 fr2 hr2 hl2 nk2=>?_⟩
    have nDd:D≠d:=XD hD' L1.hd.at_ (by intro z;cases z)
    have hD2:=fr2 _ _ nDd hD'
    have hU2:¬ U2 D:=fun z=>by
     rcases G2.u2 D z with z | z
     ·exact hU1 z
     ·rw [hD'] at z;cases z
    have nDB:D≠B:=fun z=>by
     obtain ⟨vs,hB,_⟩:=L.hb
     rw [z,s1 _ _ hB] at hD;cases hD
    refine r _ _ hD2 ⟨as++[p],w2,U2,xs2,by rw [List.map_append];rfl,by rw [List.length_append,hal];rfl,L2.loc (fun o e=>by rw [hD2] at e;exact ⟨_,(Option.some.inj e).symm⟩) nDB hU2 (fun b o hb e=>by rw [Yd hb];exact e),G1.trans G2 fun z hz=>?_,fun z o hz e=>?_,hU2,Ye,fun j a' q' h1 h2=>?_,by omega,nk1.trans (nk2.mono (by omega))⟩
    ·intro e
     exact hz (L1.back frH e)
    ·rw [Yd (Yk e hD)]
     exact fr2 _ _ hz (fr1 _ _ hz e)
    ·by_cases c:j<as.length
     ·rw [List.getElem?_append_left c] at h1
      exact G2.reg _ _ (hreg j a' q' h1 h2)
     ·have hj:j=as.length:=by
       have:=(List.getElem?_eq_some_iff.mp h1).1
       rw [List.length_append,List.length_singleton] at this
       omega
      subst hj
      rw [List.getElem?_append_right (Nat.le_refl _),Nat.sub_self] at h1
      have:p=a':=Option.some.inj h1
      subst this
      rw [hal,hsq] at h2
      have:=Option.some.inj h2
      subst this
      exact hr2
   ·rintro D zs H' hD ⟨as,w1,U1,xs1,rfl,hal,L1,G1,fr1,hU1,hD',hreg,hxl1,nk1⟩
    rw [List.length_map] at hal hxl1
    rw [List.take_of_length_le (by omega)] at hxl1
    exact hq D as H' w1 U1 xs1 L1 G1 ((VF s1).trans fr1) (s1.free hD) hU1 hD' ⟨by omega,hreg⟩ (by omega) nk1
 refine cut4 (fun σ H1=>∃ (ks:Str) (D:Addr) (as:List Addr) (w1:Wo) (U1:Addr→Prop) (xs1:Dx),(kind sh=2∨kind sh=3∨kind sh=4∨kind sh=6∨kind sh=7)∧ks=kn sh∧σ=[some (V.ref ls),some (V.ref a),some (V.str ks),some (V.ref D)]∧LS g.P g.w g.K (Cs.mk Z2 Z6 Z7 Z9 Z5 Z4 Z8 Z3 Z0 Z1) Za prs w1 U1 O H1 ls dx d B xs1∧WG w w1 U U1 H∧FrB d H H1∧H D=none∧¬ U1 D∧H1 D=some (.lst (as.map V.ref))∧Wl w1.reg as (Xc sh)∧xs1.length+2≤xs.length+2*wt sh∧NK prs xs xs1 (dep sh)) ?_ ?_
 rotate_left
 ·intro N0 hN0
  walk_at "rd"
  rcases Yed hki with ⟨lo,span,rfl⟩ | ⟨sg,rfl⟩ | h3
  rotate_left 2
  ·obtain ⟨r,hT⟩:=YdF hk
   have hne:=kn_ne h3
   generalize hks:kn sh=ks at hT hne
   exact ⟨_,hT,_,Yy (j:=0) rfl,YU _ _,YW (fun z=>hne.1 (V.str.inj z)) ⟨YU _ _,YW (fun z=>hne.2 (V.str.inj z)) (parts h3 _ _ fun D as H1 w1 U1 xs1 L1 G1 fr1 gD hU1 hD1 hra hxl1 nk1=>hN0 _ _ ⟨ks,D,as,w1,U1,xs1,h3,hks.symm,rfl,L1,G1,fr1,gD,hU1,hD1,hra,hxl1,nk1⟩)⟩⟩
  ·rw [kd] at hkd
   obtain ⟨b,vs,e,hT,hvs⟩:=Xl hkd
   have:=V.ref.inj e
   subst this
   obtain ⟨u1,r1,rfl,h5,h6⟩:=Xa hvs
   obtain ⟨u2,r2,rfl,h7,h8⟩:=Xa h6
   obtain ⟨u3,r3,rfl,h9,h10⟩:=Xa h8
   have:=Wv h10
   subst this
   have:=Wd h5
   subst this
   have:=Ux h7
   subst this
   have:=Ux h9
   subst this
   refine ⟨_,hT,_,Yy (j:=0) rfl,YU _ _,X2 rfl ⟨_,hT,_,Yy (j:=1) rfl,_,hT,_,Yy (j:=2) rfl,fun x dx' hx hdx hne=>⟨x,dx',lo,span,rfl,Ye,fun c H3 hc sb h3 h4=>⟨rfl,?_⟩⟩⟩⟩
   have s3:=Xz hx hdx sb
   have hcH:=Y0 (Y0 hc)
   have N:New H H3 U x [c] [x]:=VP nU hx hcH s3 h3 h4
   have hm:XM (Cs.mk Z2 Z6 Z7 Z9 Z5 Z4 Z8 Z3 Z0 Z1) (w.add x (.w lo span) [c]) (t0 (Ua U [c] [x])) H3 x (.w lo span):=⟨dx',c,fW lo span,N.un L.bi _ (.head _),hdp,fun s hs=>by show sm (cnt w.bk _ s);rw [L.bk];exact WX hok hwt hs,Nat.zero_le _,h3,N.dat _ (i:=0) rfl,h4,rfl⟩
   obtain ⟨r1,r2,r3,r4⟩:=L.fin L (.refl _ _ _) (fun _ _ _ e=>e) s3 N (Vp hx hcH) hm
   have:=XZ (.w lo span)
   have hkc:kc (.w lo span)=1:=rfl
   exact q x H3 _ _ xs r1 r2 r3 r4 (by omega) (.refl _ _ _)
  ·rw [kd] at hkd
   obtain ⟨v,hT,hv⟩:=VW hkd
   have:=Wd hv
   subst this
   refine ⟨_,hT,_,Yy (j:=0) rfl,YU _ _,YW (by decide +kernel) ⟨YU _ _,X2 rfl ⟨_,hT,_,Yy (j:=1) rfl,fun x dx' hx hdx hne=>⟨x,dx',sg,rfl,Ye,fun c H3 hc sb h3 h4=>⟨rfl,?_⟩⟩⟩⟩⟩
   have s3:=Xz hx hdx sb
   have hcH:=Y0 (Y0 hc)
   have N:New H H3 U x [c] [x]:=VP nU hx hcH s3 h3 h4
   have hok':=hok
   rw [okS] at hok'
   have hm:XM (Cs.mk Z2 Z6 Z7 Z9 Z5 Z4 Z8 Z3 Z0 Z1) (w.add x (.t sg) [c]) (t0 (Ua U [c] [x])) H3 x (.t sg):=⟨dx',c,fT sg,N.un L.bi _ (.head _),hdp,fun s hs=>by show sm (cnt w.bk _ s);rw [L.bk];exact WX hok hwt hs,Nat.zero_le _,h3,N.dat _ (i:=0) rfl,h4,rfl,hok'⟩
   obtain ⟨r1,r2,r3,r4⟩:=L.fin L (.refl _ _ _) (fun _ _ _ e=>e) s3 N (Vp hx hcH) hm
   have:=XZ (.t sg)
   have hkc:kc (.t sg)=1:=rfl
   exact q x H3 _ _ xs r1 r2 r3 r4 (by omega) (.refl _ _ _)
 rintro σ H1 ⟨ks,D,as,w1,U1,xs1,h3k,hks,rfl,L1,G1,fr1,gD,hU1,hD1,hra,hxl1,nk1⟩
 walk_at "rd"
 clear parts
 cases sh with
 | many p =>
  have:ks="many":=hks
  subst this
  have nU1:∀ {b:Addr},H1 b=none→¬ U1 b:=fun e z=>L1.bi.al _ z e
  have hal:as.length=1:=hra.1
  obtain ⟨a0,rfl⟩:∃ a0,as=[a0]:=List.length_eq_one_iff.mp hal
  have hr0:=hra.2 0 a0 p rfl rfl
  refine (YW (by decide +kernel) (YW (by decide +kernel) (X2 rfl ⟨_,SqL.of hD1,_,Yy (j:=0) rfl,fun x dx' hx hdx hne=>⟨x,dx',a0,rfl,Ye,fun c H3 hc sb h3 h4=>⟨rfl,?_⟩⟩⟩)))
  have s3:=Xz hx hdx sb
  have hcH:=Y0 (Y0 hc)
  have N:New H1 H3 U1 x [c] [x]:=VP nU1 hx hcH s3 h3 h4
  have hm:XM (Cs.mk Z2 Z6 Z7 Z9 Z5 Z4 Z8 Z3 Z0 Z1) (w1.add x (.many p) [c]) (t0 (Ua U1 [c] [x])) H3 x (.many p):=⟨dx',c,fM a0,N.un L1.bi _ (.head _),by show _≤w1.M;rw [G1.M];exact hdp,fun s hs=>by show sm (cnt w1.bk _ s);rw [L1.bk];exact WX hok hwt hs,Nat.zero_le _,h3,N.dat _ (i:=0) rfl,h4,a0,rfl,(N.wg (H0:=fun _=>none) L1.bi _ fun _ _=>rfl).reg _ _ hr0⟩
  obtain ⟨r1,r2,r3,r4⟩:=L.fin L1 G1 fr1 s3 N (Vp (L1.back fr1 hx) (L1.back fr1 hcH)) hm
  exact q x H3 _ _ xs1 r1 r2 r3 r4 (by rw [show kc (.many p)=2*wt (.many p) from rfl];omega) nk1
 | row ps =>
  have hok':=hok
  rw [okS] at hok'
  have hw':wts ps+1=wt (.row ps):=YaB (sh := .row ps) (.inl rfl)
  have:ks="row":=hks
  subst this
  have nU1:∀ {b:Addr},H1 b=none→¬ U1 b:=fun e z=>L1.bi.al _ z e
  have hal:as.length=ps.length:=hra.1
  refine (X2 rfl fun x dx' hx hdx hne=>⟨x,dx',D,as,rfl,Ye,by rw [Yd (Yk hD1 hx),Yd (Yk hD1 hdx)];exact hD1,by omega,fun c T dt Lw ws H3 hc hT3 hL hws hnd hwl sb h3 h4 hTT hLL hww=>⟨rfl,?_⟩⟩)
  have s3:=Xz hx hdx sb
  have fr:∀ {b:Addr},upd (upd H1 dx' (.own x)) x (.ins Z7 dx' []) b=none→H1 b=none:=fun e=>Y0 (Y0 e)
  have fos:∀ b∈c::ws,H1 b=none:=fun b hb=>by
   rcases List.mem_cons.mp hb with rfl | hb
   ·exact fr hc
   ·exact fr (hws b hb)
  have los:∀ b∈c::ws,H3 b=some (.lst []):=fun b hb=>by
   rcases List.mem_cons.mp hb with rfl | hb
   ·exact h4
   ·exact hww b hb
  have N:New H1 H3 U1 x (c::ws) [x,D,T,Lw]:=by
   refine ⟨fun b hb=>?_,.head _,hnd,fun b hb hb'=>?_,fun b o _ e=>s3 _ _ e,fun b hb=>?_⟩
   ·rcases hb with hb | hb
    ·exact nU1 (fos b hb)
    ·simp only [List.mem_cons,List.not_mem_nil,or_false] at hb
     rcases hb with rfl | rfl | rfl | rfl
     ·exact nU1 hx
     ·exact hU1
     ·exact nU1 (fr hT3)
     ·exact nU1 (fr hL)
   ·have e1:=los b hb
    have e2:=fos b hb
    simp only [List.mem_cons,List.not_mem_nil,or_false] at hb'
    rcases hb' with rfl | rfl | rfl | rfl
    ·rw [h3] at e1;cases e1
    ·rw [hD1] at e2;cases e2
    ·rw [hTT] at e1;cases e1
    ·rw [hLL] at e1
     injection e1 with e1
     injection e1 with e1
     have:=congrArg List.length e1
     rw [List.length_map,hwl] at this
     simp at this
   ·rcases hb with hb | hb
    ·rw [los b hb];intro z;cases z
    ·simp only [List.mem_cons,List.not_mem_nil,or_false] at hb
     rcases hb with rfl | rfl | rfl | rfl
     ·rw [h3];intro z;cases z
     ·rw [s3 _ _ hD1];intro z;cases z
     ·rw [hTT];intro z;cases z
     ·rw [hLL];intro z;cases z
  have hm:XM (Cs.mk Z2 Z6 Z7 Z9 Z5 Z4 Z8 Z3 Z0 Z1) (w1.add x (.row ps) (c::ws)) (t0 (Ua U1 (c::ws) [x,D,T,Lw])) H3 x (.row ps):=by
   refine ⟨dx',c,fR D T,N.un L1.bi _ (.head _),by show _≤w1.M;rw [G1.M];exact hdp,fun s hs=>by show sm (cnt w1.bk _ s);rw [L1.bk];exact WX hok hwt hs,Nat.zero_le _,h3,N.dat _ (i:=0) rfl,h4,D,T,dt,Lw,as,ws,rfl,N.un L1.bi _ (.tail _ (.head _)),N.un L1.bi _ (.tail _ (.tail _ (.head _))),N.un L1.bi _ (.tail _ (.tail _ (.tail _ (.head _)))),s3 _ _ hD1,hra.grow (N.wg (H0:=fun _=>none) L1.bi _ fun _ _=>rfl),by omega,hTT,hLL,by omega,fun i y hy=>⟨N.dat _ (i:=i+1) (by simpa using hy),Nat.le_refl _,Nat.zero_le _,hww y (List.mem_of_getElem? hy)⟩,fun i s hs=>?_⟩
   show sm (Y9 w1.bk _ s)
   rw [L1.bk]
   have:=QL ps i
   exact Yec (QK i hok'.2) (by omega) hs
  obtain ⟨r1,r2,r3,r4⟩:=L.fin L1 G1 fr1 s3 N (fun b hb=>by
   rcases hb with hb | hb
   ·exact L1.back fr1 (fos b hb)
   ·simp only [List.mem_cons,List.not_mem_nil,or_false] at hb
    rcases hb with rfl | rfl | rfl | rfl
    ·exact L1.back fr1 hx
    ·exact gD
    ·exact L1.back fr1 (fr hT3)
    ·exact L1.back fr1 (fr hL)) hm
  exact q x H3 _ _ xs1 r1 r2 r3 r4 (by rw [show kc (.row ps)=2*wt (.row ps) from rfl];omega) nk1
 | pick mk ps =>
  have hok':=hok
  rw [okS] at hok'
  have:ks="pick":=hks
  subst this
  have hal:as.length=ps.length:=hra.1
  refine (YW (by decide +kernel) (X2 rfl ?_))
  have hkd1:=(WP hk fr1 L.hd.at_).den
  rw [kd] at hkd1
  obtain ⟨v1,hT1,hv1⟩:=VW hkd1
  obtain ⟨b,vs,rfl,hb,hvs⟩:=Xl hv1
  obtain ⟨ts,bs,rfl,hl1,hl2,hts,hbs⟩:=VV hok'.1 hvs
  have hlz:((mk.zip bs).map fun p=>(V.str (S p.1),V.ref p.2)).length=bs.length:=by rw [List.length_map,List.length_zip];omega
  refine Uf (K:=g.K) (b:=b) (xs:=ts.map V.ref) ((mk.zip bs).map fun p=>(V.str (S p.1),V.ref p.2)) (mk.map fun m=>V.str (S m)) (fun R r=>by walk_at "rd";exact ⟨_,hT1,_,Yy (j:=1) rfl,r⟩) hb ?_ (by rw [hlz,List.length_map];omega) (by rw [List.length_map,List.length_map];omega) (by rw [List.length_map];omega) ?_ ?_
  ·intro i x p hx hp
   rw [List.getElem?_map] at hx hp
   obtain ⟨T,hT',rfl⟩:=Option.map_eq_some_iff.mp hx
   obtain ⟨⟨m,b'⟩,hz,rfl⟩:=Option.map_eq_some_iff.mp hp
   rw [List.getElem?_zip_eq_some] at hz
   exact ⟨T,rfl,hts i T m b' hT' hz.1 hz.2⟩
  ·intro i p y H' hp hy sm R r
   rw [List.getElem?_map] at hp hy
   obtain ⟨⟨m,b'⟩,hz,rfl⟩:=Option.map_eq_some_iff.mp hp
   rw [List.getElem?_zip_eq_some] at hz
   rw [hz.1] at hy
   have:V.str (S m)=y:=Option.some.inj hy
   subst this
   walk_at "rd"
   exact r H' (.refl _)
  ·intro M H2 gM s2 hM x dx' hx hdx hne
   have L2:=L1.same s2
   have nU1:∀ {b:Addr},H2 b=none→¬ U1 b:=fun e z=>L2.bi.al _ z e
   have hUM:¬ U1 M:=fun z=>L1.bi.al _ z gM
   have hD2:=s2 _ _ hD1
   refine ⟨x,dx',M,D,rfl,Ye,fun c H3 hc sb h3 h4=>⟨rfl,?_⟩⟩
   have s3:=Xz hx hdx sb
   have hcH:=Y0 (Y0 hc)
   have N:New H2 H3 U1 x [c] [x,M,D]:=by
    refine ⟨fun b hb=>?_,.head _,by simp,fun b hb hb'=>?_,fun b o _ e=>s3 _ _ e,fun b hb=>?_⟩
    ·rcases hb with hb | hb
     ·rw [List.mem_singleton.mp hb];exact nU1 hcH
     ·simp only [List.mem_cons,List.not_mem_nil,or_false] at hb
      rcases hb with rfl | rfl | rfl
      ·exact nU1 hx
      ·exact hUM
      ·exact hU1
    ·have:=List.mem_singleton.mp hb
     subst this
     simp only [List.mem_cons,List.not_mem_nil,or_false] at hb'
     rcases hb' with rfl | rfl | rfl
     ·rw [h3] at h4;cases h4
     ·rw [hM] at hcH;cases hcH
     ·rw [hD2] at hcH;cases hcH
    ·rcases hb with hb | hb
     ·rw [List.mem_singleton.mp hb,h4];intro z;cases z
     ·simp only [List.mem_cons,List.not_mem_nil,or_false] at hb
      rcases hb with rfl | rfl | rfl
      ·rw [h3];intro z;cases z
      ·rw [s3 _ _ hM];intro z;cases z
      ·rw [s3 _ _ hD2];intro z;cases z
   have hm:XM (Cs.mk Z2 Z6 Z7 Z9 Z5 Z4 Z8 Z3 Z0 Z1) (w1.add x (.pick mk ps) [c]) (t0 (Ua U1 [c] [x,M,D])) H3 x (.pick mk ps):=⟨dx',c,fP M D,N.un L2.bi _ (.head _),by show _≤w1.M;rw [G1.M];exact hdp,fun s hs=>by show sm (cnt w1.bk _ s);rw [L1.bk];exact WX hok hwt hs,Nat.zero_le _,h3,N.dat _ (i:=0) rfl,h4,M,D,as,rfl,N.un L2.bi _ (.tail _ (.head _)),N.un L2.bi _ (.tail _ (.tail _ (.head _))),s3 _ _ hM,s3 _ _ hD2,hra.grow (N.wg (H0:=fun _=>none) L2.bi _ fun _ _=>rfl),by omega⟩
   have fr2:FrB d H H2:=fr1.trans (VF s2)
   obtain ⟨r1,r2,r3,r4⟩:=L.fin L2 G1 fr2 s3 N (fun b hb=>by
    rcases hb with hb | hb
    ·rw [List.mem_singleton.mp hb];exact L2.back fr2 hcH
    ·simp only [List.mem_cons,List.not_mem_nil,or_false] at hb
     rcases hb with rfl | rfl | rfl
     ·exact L2.back fr2 hx
     ·exact L1.back fr1 gM
     ·exact gD) hm
   exact q x H3 _ _ xs1 r1 r2 r3 r4 (by rw [show kc (.pick mk ps)=2*wt (.pick mk ps) from rfl];omega) nk1
 | alike p n =>
  have hok':=hok
  rw [okS] at hok'
  have:ks="alike":=hks
  subst this
  have nU1:∀ {b:Addr},H1 b=none→¬ U1 b:=fun e z=>L1.bi.al _ z e
  have hal:as.length=1:=hra.1
  obtain ⟨a0,rfl⟩:∃ a0,as=[a0]:=List.length_eq_one_iff.mp hal
  have hr0:=hra.2 0 a0 p rfl rfl
  have hkd1:=(WP hk fr1 L.hd.at_).den
  rw [kd] at hkd1
  obtain ⟨v1,hT1,hv1⟩:=den3 hkd1
  refine (YW (by decide +kernel) (YW (by decide +kernel) (YW (by decide +kernel) (X2 rfl ⟨_,SqL.of hD1,_,Yy (j:=0) rfl,_,hT1,_,Yy (j:=2) rfl,fun x dx' hx hdx hne=>⟨x,dx',a0,n,rfl,Ye,fun c H3 hc sb h3 h4=>⟨rfl,?_⟩⟩⟩))))
  have s3:=Xz hx hdx sb
  have hcH:=Y0 (Y0 hc)
  have N:New H1 H3 U1 x [c] [x]:=VP nU1 hx hcH s3 h3 h4
  have hm:XM (Cs.mk Z2 Z6 Z7 Z9 Z5 Z4 Z8 Z3 Z0 Z1) (w1.add x (.alike p n) [c]) (t0 (Ua U1 [c] [x])) H3 x (.alike p n):=⟨dx',c,fA a0 n,N.un L1.bi _ (.head _),by show _≤w1.M;rw [G1.M];exact hdp,fun s hs=>by show sm (cnt w1.bk _ s);rw [L1.bk];exact WX hok hwt hs,Nat.zero_le _,h3,N.dat _ (i:=0) rfl,h4,a0,rfl,hok'.1,(N.wg (H0:=fun _=>none) L1.bi _ fun _ _=>rfl).reg _ _ hr0⟩
  obtain ⟨r1,r2,r3,r4⟩:=L.fin L1 G1 fr1 s3 N (Vp (L1.back fr1 hx) (L1.back fr1 hcH)) hm
  exact q x H3 _ _ xs1 r1 r2 r3 r4 (by rw [show kc (.alike p n)=2*wt (.alike p n) from rfl];omega) nk1
 | cho un p =>
  have hok':=hok
  rw [okS] at hok'
  have hw':wt p+1=wt (.cho un p):=by rw [wt]
  have go:∀ D as H1 w1 U1 xs1,LS g.P g.w g.K (Cs.mk Z2 Z6 Z7 Z9 Z5 Z4 Z8 Z3 Z0 Z1) Za prs w1 U1 O H1 ls dx d B xs1→WG w w1 U U1 H→FrB d H H1→H D=none→¬ U1 D→H1 D=some (.lst (as.map V.ref))→Wl w1.reg as (Xc (.cho un p))→xs1.length+2≤xs.length+2*wt (.cho un p)→NK prs xs xs1 (dep (.cho un p)) →
    ∃ a0,as=[a0]∧∀ x dx',H1 x=none→H1 dx'=none→¬ dx'=x→Z4q (Cs.mk Z2 Z6 Z7 Z9 Z5 Z4 Z8 Z3 Z0 Z1) [.ref x,.ref a0,.bl un] (upd (upd H1 dx' (.own x)) x (.ins Z0 dx' [])) (fun v H'=>v = .non∧Q (.ref x) H') E0:=by
   intro D as H1 w1 U1 xs1 L1 G1 fr1 gD hU1 hD1 hra hxl1 nk1
   have nU1:∀ {b:Addr},H1 b=none→¬ U1 b:=fun e z=>L1.bi.al _ z e
   have hal:as.length=1:=hra.1
   obtain ⟨a0,rfl⟩:∃ a0,as=[a0]:=List.length_eq_one_iff.mp hal
   have hr0:=hra.2 0 a0 p rfl rfl
   refine ⟨a0,rfl,fun x dx' hx hdx hne=>⟨x,dx',a0,un,rfl,Ye,fun c T dt R H3 hc hT3 hR hcR sb h3 h4 hTT hRR=>?_⟩⟩
   have s3:=Xz hx hdx sb
   have fr:∀ {b:Addr},upd (upd H1 dx' (.own x)) x (.ins Z0 dx' []) b=none→H1 b=none:=fun e=>Y0 (Y0 e)
   have N:New H1 H3 U1 x [c,R] [x,T]:=by
    refine ⟨fun b hb=>?_,.head _,by simp [hcR],fun b hb hb'=>?_,fun b o _ e=>s3 _ _ e,fun b hb=>?_⟩
    ·simp only [List.mem_cons,List.not_mem_nil,or_false] at hb
     rcases hb with (rfl | rfl) | rfl | rfl
     ·exact nU1 (fr hc)
     ·exact nU1 (fr hR)
     ·exact nU1 hx
     ·exact nU1 (fr hT3)
    ·simp only [List.mem_cons,List.not_mem_nil,or_false] at hb hb'
     rcases hb with rfl | rfl<;>rcases hb' with rfl | rfl
     ·rw [h3] at h4;cases h4
     ·rw [hTT] at h4;cases h4
     ·rw [h3] at hRR;cases hRR
     ·rw [hTT] at hRR;cases hRR
    ·simp only [List.mem_cons,List.not_mem_nil,or_false] at hb
     rcases hb with (rfl | rfl) | rfl | rfl
     ·rw [h4];intro z;cases z
     ·rw [hRR];intro z;cases z
     ·rw [h3];intro z;cases z
     ·rw [hTT];intro z;cases z
   have hm:XM (Cs.mk Z2 Z6 Z7 Z9 Z5 Z4 Z8 Z3 Z0 Z1) (w1.add x (.cho un p) [c,R]) (t0 (Ua U1 [c,R] [x,T])) H3 x (.cho un p):=by
    refine ⟨dx',c,fC a0 T,N.un L1.bi _ (.head _),by show _≤w1.M;rw [G1.M];exact hdp,fun s hs=>by show sm (cnt w1.bk _ s);rw [L1.bk];exact WX hok hwt hs,Nat.zero_le _,h3,N.dat _ (i:=0) rfl,h4,a0,T,dt,R,[],rfl,(N.wg (H0:=fun _=>none) L1.bi _ fun _ _=>rfl).reg _ _ hr0,N.un L1.bi _ (.tail _ (.head _)),hTT,N.dat _ (i:=1) rfl,hRR,rfl,Nat.zero_le _,Nat.le_refl _,fun j r hj=>by simp at hj,fun l s hs=>?_,fun s hs=>?_,rfl⟩
    ·show sm (wy un (cnt w1.bk p) l s)
     rw [L1.bk];exact Ybn un hok'.2 (by omega) l hs
    ·show sB (cnt w1.bk p s)
     rw [L1.bk];exact Ybo hok'.2 (by omega) hok'.1 hs
   obtain ⟨r1,r2,r3,r4⟩:=L.fin L1 G1 fr1 s3 N (fun b hb=>by
    simp only [List.mem_cons,List.not_mem_nil,or_false] at hb
    rcases hb with (rfl | rfl) | rfl | rfl
    ·exact L1.back fr1 (fr hc)
    ·exact L1.back fr1 (fr hR)
    ·exact L1.back fr1 hx
    ·exact L1.back fr1 (fr hT3)) hm
   exact ⟨rfl,q x H3 _ _ xs1 r1 r2 r3 r4 (by rw [show kc (.cho un p)=2*wt (.cho un p) from rfl];omega) nk1⟩
  cases un with
  | true =>
   have:ks="unlike":=hks
   subst this
   obtain ⟨a0,rfl,fin⟩:=go D as H1 w1 U1 xs1 L1 G1 fr1 gD hU1 hD1 hra hxl1 nk1
   refine (YW (by decide +kernel) (YW (by decide +kernel) (YW (by decide +kernel) (YW (by decide +kernel) ⟨_,SqL.of hD1,_,Yy (j:=0) rfl,?_⟩))))
   rw [decide_eq_true (by rfl)]
   exact fun x dx' hx hdx hne=>fin x dx' hx hdx hne
  | false =>
   have:ks="rising":=hks
   subst this
   obtain ⟨a0,rfl,fin⟩:=go D as H1 w1 U1 xs1 L1 G1 fr1 gD hU1 hD1 hra hxl1 nk1
   refine (YW (by decide +kernel) (YW (by decide +kernel) (YW (by decide +kernel) (YW (by decide +kernel) ⟨_,SqL.of hD1,_,Yy (j:=0) rfl,?_⟩))))
   rw [decide_eq_false (by decide +kernel)]
   exact fun x dx' hx hdx hne=>fin x dx' hx hdx hne
 | _=>simp [kind] at h3k
theorem XM.updp {C:Cs} {w:Wo} {t:Sw} {H:Hp} {p r cl dxp:Addr} {fp:List (Str×V)} {o:HO} {sh:Sh} {cp:Addr} (hp:H p=some (.ins cl dxp (mf cp fp))) (hD:w.D p=none) (n:r≠p) (h:XM C w t H r sh):XM C w t (upd H p o) r sh:=by
 obtain ⟨dx,c,fs,h1,h2,h3,h4,h5,h6,h7,h8⟩:=h
 have no:∀ {b:Addr} {x:Addr×Nat},w.D b=some x→b≠p:=fun e z=>by rw [z,hD] at e;cases e
 have nl:∀ {b:Addr} {vs:List V},H b=some (.lst vs)→b≠p:=fun e z=>by rw [z,hp] at e;cases e
 refine ⟨dx,c,fs,h1,h2,h3,h4,(Yd n).trans h5,h6,(Yd (no h6)).trans h7,?_⟩
 cases sh with
 | w lo span=>exact h8
 | t sg=>exact h8
 | row ps =>
  obtain ⟨P,T,dt,L,as,ws,k1,k2,k3,k4,k5,k6,k7,k8,k9,k10,k11,k12⟩:=h8
  have nT:T≠p:=fun z=>by
   rw [z,hp] at k8
   have e:=Option.some.inj k8
   injection e with _ _ e
   unfold mf W2 at e
   injection e with e _
   injection e with e _
   exact n1 (a:=("counts":Str)) (b:=("parts":Str)) (by decide +kernel) e
  refine ⟨P,T,dt,L,as,ws,k1,k2,k3,k4,(Yd (nl k5)).trans k5,k6,k7,(Yd nT).trans k8,(Yd (nl k9)).trans k9,k10,fun i x hx=>?_,k12⟩
  obtain ⟨j1,j2,j3,j4⟩:=k11 i x hx
  exact ⟨j1,j2,j3,(Yd (no j1)).trans j4⟩
 | pick mk ps =>
  obtain ⟨M,P,as,k1,k2,k3,k4,k5,k6,k7⟩:=h8
  exact ⟨M,P,as,k1,k2,k3,(Yd (nl k4)).trans k4,(Yd (nl k5)).trans k5,k6,k7⟩
 | many q=>exact h8
 | alike _ _=>exact h8
 | use x=>exact h8
 | cho un q =>
  obtain ⟨a,T,dt,R,rs,k1,k2,k3,k4,k5,k6,k7,k8,k9,k10,k11⟩:=h8
  have nT:T≠p:=fun z=>by
   rw [z,hp] at k4
   have e:=Option.some.inj k4
   injection e with _ _ e
   unfold mf fCt at e
   injection e with e _
   injection e with e _
   exact n1 (a:=("counts":Str)) (b:=("part":Str)) (by decide +kernel) e
  exact ⟨a,T,dt,R,rs,k1,k2,k3,(Yd nT).trans k4,k5,(Yd (nl k6)).trans k6,k7,k8,k9,fun j r hr hj=>⟨(k10 j r hr hj).1,(Yd (nl (k10 j r hr hj).2)).trans (k10 j r hr hj).2⟩,k11⟩
theorem BI.close {C:Cs} {w:Wo} {U O O':Addr→Prop} {H:Hp} (B:BI C w U O' H) {p q:Addr} {x:List Nat} (hO:∀ r,r≠p→(O' r↔O r)) (hp':O' p) (hr:w.reg p=some (.use x)) (hq:w.reg q=some (w.bk x)) (hd0:dep (w.bk x)=0):∃ dx c,H p=some (.ins C.use dx (mf c (fU .non)))∧(¬ O p→BI C w U O (upd H p (.ins C.use dx (mf c (fU (.ref q)))))):=by
 obtain ⟨x',dx,c,e1,e2,e3,e4,e5,e6⟩:=B.op p hp'
 rw [hr] at e1
 have:=Sh.use.inj (Option.some.inj e1)
 subst this
 refine ⟨dx,c,e4,fun nO=>⟨fun r s hrs ho=>?_,fun r hor=>?_,fun b hb=>?_,B.ow,B.oo,B.inj⟩⟩
 ·by_cases cc:r=p
  ·subst cc
   rw [hr] at hrs
   have:=Option.some.inj hrs
   subst this
   have ncp:c≠r:=fun z=>by rw [z,e2.1] at e5;cases e5
   exact ⟨dx,c,_,e2,by simp [dep],e3,Nat.zero_le _,Ye,e5,(Yd ncp).trans e6,q,rfl,hq,hd0⟩
  ·exact (B.at_ r s hrs fun z=>ho ((hO r cc).mp z)).updp e4 e2.1 cc
 ·have cc:r≠p:=fun z=>nO (by rw [← z];exact hor)
  obtain ⟨y,dy,cy,f1,f2,f3,f4,f5,f6⟩:=B.op r ((hO r cc).mpr hor)
  have ncp:cy≠p:=fun z=>by rw [z,e2.1] at f5;cases f5
  exact ⟨y,dy,cy,f1,f2,f3,(Yd cc).trans f4,f5,(Yd ncp).trans f6⟩
 ·by_cases cc:b=p
  ·rw [cc,Ye];intro z;cases z
  ·rw [Yd cc];exact B.al b hb
section
variable {P0:Program} {w0:World} {K:PySem.W.Frag} {C:Cs} {CL:Addr} {prs:Prs} {w:Wo} {U O O':Addr→Prop} {H H':Hp} {ls dx d B:Addr} {xs:Dx}
theorem LS.close (L:LS P0 w0 K C CL prs w U O' H ls dx d B xs) {p q:Addr} {x:List Nat} (hO:∀ r,r≠p→(O' r↔O r)) (hp':O' p) (nO:¬ O p) (hr:w.reg p=some (.use x)) (hq:w.reg q=some (w.bk x)) (hd0:dep (w.bk x)=0) (nls:ls≠p):∃ dxp c,H p=some (.ins C.use dxp (mf c (fU .non)))∧LS P0 w0 K C CL prs w U O (upd H p (.ins C.use dxp (mf c (fU (.ref q))))) ls dx d B xs:=by
 obtain ⟨dxp,c,h1,h2⟩:=L.bi.close hO hp' hr hq hd0
 have hk:∀ b o,b≠p→H b=some o→upd H p (.ins C.use dxp (mf c (fU (.ref q)))) b=some o:=fun b o n e=>(Yd n).trans e
 have tk:Wr H (upd H p (.ins C.use dxp (mf c (fU (.ref q))))):=WM hk h1 (by intro xs z;cases z) (by intro o v z;cases z)
 obtain ⟨vs,hB,_⟩:=L.hb
 exact ⟨dxp,c,h1,hk _ _ nls L.hl,L.hb.tupk tk fun o e=>hk _ _ (XD hB h1 (by intro z;cases z)) e,L.hd.keep tk (hk _ _ (XD L.hd.at_ h1 (by intro z;cases z)) L.hd.at_),h2 nO,L.nd,L.nl,L.keys,L.bk⟩
theorem LS.put (L:LS P0 w0 K C CL prs w U O H ls dx d B xs) {a p:Addr} {sh:Sh} (hk:DK K H a (kd sh)) (hok:okS prs sh) (hn:lookD xs (kd sh)=none) (hl:xs.length<1000) (hr:w.reg p=some sh):LS P0 w0 K C CL prs w U O (upd H d (DDi P0 w0 d (xs++[(kd sh,a,p)]))) ls dx d B (xs++[(kd sh,a,p)]):=by
 have hkk:∀ b o,b≠d→H b=some o→upd H d (DDi P0 w0 d (xs++[(kd sh,a,p)])) b=some o:=fun b o n e=>(Yd n).trans e
 have tk:Wr H (upd H d (DDi P0 w0 d (xs++[(kd sh,a,p)]))):=WM hkk L.hd.at_ (by intro xs z;cases z) (by intro o v z;cases z)
 obtain ⟨vs,hB,_⟩:=L.hb
 refine ⟨hkk _ _ (XD L.hl L.hd.at_ (by intro z;cases z)) L.hl,L.hb.tupk tk fun o e=>hkk _ _ (XD hB L.hd.at_ (by intro z;cases z)) e,L.hd.put hk hn hl,L.bi.keep fun b o hb e=>hkk b o (fun z=>L.nd (by rw [← z];exact hb)) e,L.nd,L.nl,fun e he=>?_,L.bk⟩
 rcases List.mem_append.mp he with he | he
 ·exact L.keys e he
 ·have:=List.mem_singleton.mp he
  subst this
  exact ⟨sh,rfl,hok,hr⟩
theorem LS.opened (L:LS P0 w0 K C CL prs w U O H ls dx d B xs) (s:Yq H H') {p dxp c:Addr} {x:List Nat} (hx:H p=none) (hc:H c=none) (hok:okS prs (.use x)) (h3:H' p=some (.ins C.use dxp (mf c (fU .non)))) (h4:H' c=some (.lst [])) :
  LS P0 w0 K C CL prs (w.add p (.use x) [c]) (Ua U [c] [p]) (fun r=>O r∨r=p) H' ls dx d B xs∧WG w (w.add p (.use x) [c]) U (Ua U [c] [p]) H∧(w.add p (.use x) [c]).reg p=some (.use x):=by
 have nU:∀ {b:Addr},H b=none→¬ U b:=fun e z=>L.bi.al _ z e
 have N:New H H' U p [c] [p]:=by
  refine ⟨fun b hb=>?_,.head _,by simp,fun b hb hb'=>?_,fun b o _ e=>s _ _ e,fun b hb=>?_⟩
  ·rcases hb with hb | hb
   ·rw [List.mem_singleton.mp hb];exact nU hc
   ·rw [List.mem_singleton.mp hb];exact nU hx
  ·have e1:=List.mem_singleton.mp hb
   have e2:=List.mem_singleton.mp hb'
   rw [← e1,e2,h3] at h4
   cases h4
  ·rcases hb with hb | hb
   ·rw [List.mem_singleton.mp hb,h4];intro z;cases z
   ·rw [List.mem_singleton.mp hb,h3];intro z;cases z
 have h0:∀ b,b∈[c]∨b∈[p]→H b=none:=fun b hb=>by
  rcases hb with hb | hb
  ·rw [List.mem_singleton.mp hb];exact hc
  ·rw [List.mem_singleton.mp hb];exact hx
 have G:=N.wg L.bi (.use x) h0
 have nd:∀ {z:Addr} {o:HO},H z=some o→¬ (z=c∨z=p):=fun e h=>by
  rcases h with h | h
  ·rw [h,hc] at e;cases e
  ·rw [h,hx] at e;cases e
 have bi:BI C (w.add p (.use x) [c]) (Ua U [c] [p]) (fun r=>O r∨r=p) H':=N.bi L.bi (fun r hr=>⟨fun z=>z.resolve_right hr,.inl⟩) (fun z=>absurd (.inr rfl) z) (fun _=>⟨x,dxp,c,rfl,N.un L.bi _ (.head _),fun s' hs=>by rw [L.bk];exact WX hok (by simp [wt]) hs,h3,N.dat _ (i:=0) rfl,h4⟩)
 have out:∀ {z:Addr} {o:HO},H z=some o→¬ U z→¬ Ua U [c] [p] z:=fun e hU h=>by
  rcases h with h | h | h
  ·exact hU h
  ·exact nd e (.inl (List.mem_singleton.mp h))
  ·exact nd e (.inr (List.mem_singleton.mp h))
 refine ⟨⟨s _ _ L.hl,L.hb.tupk (Ws s) fun o e=>s _ _ e,L.hd.keep (Ws s) (s _ _ L.hd.at_),bi,out L.hd.at_ L.nd,out L.hl L.nl,fun e he=>?_,L.bk⟩,G,if_pos rfl⟩
 obtain ⟨s',h1,h2,h3⟩:=L.keys e he
 exact ⟨s',h1,h2,G.reg _ _ h3⟩
end
theorem Ycb {prs:Prs} {xs:Dx} {sh:Sh} {a p:Addr} {n:Nat} (hok:okS prs sh) (hn:lookD xs (kd sh)=none) (hd:dep sh<n):NK prs xs (xs++[(kd sh,a,p)]) n:=⟨fun e v h=>by
 rw [WD _ _ _ _ _ hn,if_neg fun z=>by rw [z,hn] at h;cases h]
 exact h,fun e h=>by
 rw [WD _ _ _ _ _ hn] at h
 by_cases c:e=kd sh
 ·exact .inr ⟨sh,c,hok,hd⟩
 ·rw [if_neg c] at h;exact .inl h⟩
theorem Ycc (c:Addr) (v v':V):Y3 "named" v' (mf c (fU v))=mf c (fU v'):=by
 show Y3 "named" v' [(("counts":Str),V.ref c),(("named":Str),v)]=_
 simp only [Y3,if_neg (n1 (a:=("counts":Str)) (b:=("named":Str)) (by decide +kernel))];rfl
theorem Z2P {k:Nat} {Z3 Z0 Z1 Za Z5 Z4 Z7 Z9 Z6 Z8 Z2:Addr} (R:g.RawM Za "add_use" "Lister.add_use" Z24 ["self","shape"]) (F_shape_of:g.Fn k "shape_of" ["book","name"] (Z5s g.K)) (Z0G:g.Me k Za "maker_of" ["self","shape"] (Z0P g.P g.w g.K (Cs.mk Z2 Z6 Z7 Z9 Z5 Z4 Z8 Z3 Z0 Z1) Za m)) {j_UseMaker___init__:Nat} (Z4P:g.Ma j_UseMaker___init__ "UseMaker" Z8 ["self"] (Z5I (Cs.mk Z2 Z6 Z7 Z9 Z5 Z4 Z8 Z3 Z0 Z1))) (h_UseMaker___init__:j_UseMaker___init__+1≤k) (ZX:Cls g.K Za) (Z01:Yb g.K Za "book") (ZO:Yb g.K Za "makers") (Zt:Cls g.K Z8) (Zp:Yb g.K Z8 "counts") (Zl:Yb g.K Z8 "named"):g.Me (k+1) Za "add_use" ["self","shape"] (Z2Y g.P g.w g.K (Cs.mk Z2 Z6 Z7 Z9 Z5 Z4 Z8 Z3 Z0 Z1) Za (m+1)):=by
 refine R.me Z2O (fun vs H Q E h=>by obtain ⟨prs,w,U,O,ls,dx,d,B,a,x,xs,rfl,L,hk,hok,hno,hxl,hl3,q⟩:=h;rfl) fun f_ cdv A outer s H vs Q E hr h=>?_
 obtain ⟨prs,w,U,O,ls,dx,d,B,a,x,xs,rfl,L,hk,hok,hno,hxl,hl3,q⟩:=h
 refine ⟨_,(@Yh _ _ _ _ _ (@YA _ _ (2) _ _ _ _ Z2O.nd rfl (.inl rfl) (@Yd6 _ _ _ _ _ _ _ _ _ _ Z4P hr (by omega) (by rfl) (by rfl) (by decide)) (by rfl) (by first | exact .inl rfl | exact .inr rfl | assumption)) (@Yh _ _ _ _ _ (@Qx _ _ _ _ _ _ _ _ _ _ hr (@Yl _ _ _ _ _ (@pv _ 0 _ _ (by rfl) (by first | exact .inl rfl | exact .inr (.inl rfl) | exact .inr (.inr rfl)) (by decide) (by decide)) rfl) (@pv _ 1 _ _ (by rfl) (by first | exact .inl rfl | exact .inr (.inl rfl) | exact .inr (.inr rfl)) (by decide) (by decide)) (@pv _ 2 _ _ (by rfl) (by first | exact .inl rfl | exact .inr (.inl rfl) | exact .inr (.inr rfl)) (by decide) (by decide)) rfl) (@Yg _ _ _ (@Y8 _ _ _ _ _ _ _ _ (@pv _ 2 _ _ (by rfl) (by first | exact .inl rfl | exact .inr (.inl rfl) | exact .inr (.inr rfl)) (by decide) (by decide)) (@Yn _ _ _ _ _ _ _ _ _ _ _ _ _ _ _ _ Z0G ZX hr (@pv _ 0 _ _ (by rfl) (by first | exact .inl rfl | exact .inr (.inl rfl) | exact .inr (.inr rfl)) (by decide) (by decide)) (@Ya _ _ _ _ _ (@Yx _ _ _ _ _ _ _ _ _ _ _ _ F_shape_of hr (@Ya _ _ _ _ _ (@Yl _ _ _ _ _ (@pv _ 0 _ _ (by rfl) (by first | exact .inl rfl | exact .inr (.inl rfl) | exact .inr (.inr rfl)) (by decide) (by decide)) rfl) (@Ya _ _ _ _ _ (@YE _ _ _ _ _ _ _ Xx (@pv _ 1 _ _ (by rfl) (by first | exact .inl rfl | exact .inr (.inl rfl) | exact .inr (.inr rfl)) (by decide) (by decide)) Yf (fun _ _=>rfl)) Yc (by rfl)) (by rfl)) (by omega) (by rfl) (by rfl) (by decide) (by rfl) (by rfl)) Yc (by rfl)) (by omega) (by rfl) (by rfl) (by rfl) (by rfl)) rfl)))),?_⟩
 walk_at "rd"
 intro p dxp gp gdx hne
 refine ⟨p,dxp,rfl,Ye,fun c H1 hc sb h3 h4=>⟨rfl,?_⟩⟩
 have s1:=Xz gp gdx sb
 have hcH:=Y0 (Y0 hc)
 obtain ⟨L1,G1,hr1⟩:=L.opened (x:=x) s1 gp hcH hok h3 h4
 have dk1:=hk.keep s1
 have L2:=L1.put dk1 hok hno (by omega) hr1
 have fr2:FrB d H (upd H1 d (DDi g.P g.w d (xs++[(kd (.use x),a,p)]))):=fun b o hb e=>by rw [Yd hb];exact s1 _ _ e
 have dk2:=WP hk fr2 L.hd.at_
 have hkd:=dk2.den
 rw [kd] at hkd
 obtain ⟨v,hT2,hv⟩:=VW hkd
 have:=Wd hv
 subst this
 have hok':=hok
 rw [okS] at hok'
 obtain ⟨q0,hf0,hleaf⟩:=hok'
 have eb:bkO prs x=q0.2:=by rw [bkO,hf0];rfl
 unfold Qv
 walk_at "rd"
 refine ⟨_,_,_,L1.hl,ZX,ZO,_,We _ _,d,rfl,xs,L1.hd,kd (.use x),dk1,hno,by omega,?_⟩
 refine ⟨_,_,L2.hl,Ug _ _ (by decide +kernel) (by decide +kernel),_,_,_,L2.hl,ZX,Z01,_,YdD _ _,_,hT2,_,Yy (j:=1) rfl,prs,B,x,q0,rfl,L2.hb,hf0,fun b dkb=>?_⟩
 have hw0:wt q0.2=1:=Wc hleaf
 have hd0:dep q0.2=0:=XV hleaf
 have hkc0:kc q0.2=1:=by
  unfold kc
  rw [if_pos]
  revert hleaf
  cases q0.2<;>intro hleaf<;>first | exact Nat.zero_le _ | exact Nat.le_refl _ | cases hleaf
 have hnm0:nm q0.2=0:=by
  unfold nm
  rw [if_pos]
  revert hleaf
  cases q0.2<;>intro hleaf<;>first | exact Nat.zero_le _ | exact Nat.le_refl _ | cases hleaf
 refine ⟨prs,_,_,_,ls,dx,d,B,b,q0.2,_,rfl,L2,dkb,Wb hleaf,by omega,by omega,by rw [List.length_append,List.length_singleton];omega,by omega,fun q' H3 w3 U3 xs3 L3 G3 fr3 hr3 hl3' nk3=>?_⟩
 have np:p≠d:=fun z=>by rw [z,L.hd.at_] at gp;cases gp
 have nOp:¬ O p:=fun z=>by
  obtain ⟨_,_,_,_,h,_⟩:=L.bi.op p z
  exact L.bi.al _ h.2 gp
 have hg3:=G3.reg _ _ hr1
 obtain ⟨dxp',c',hp3,L4⟩:=L3.close (p:=p) (q:=q') (x:=x) (O:=O) (fun r hr'=>⟨fun z=>z.resolve_right hr',.inl⟩) (.inr rfl) nOp hg3 (by rw [L3.bk,eb];exact hr3) (by rw [L3.bk,eb];exact hd0) (Yk L.hl gp)
 have nk:=(Ycb (a:=a) (p:=p) hok hno (show dep (.use x)<1 by simp [dep])).trans (nk3.mono (by omega))
 refine ⟨_,_,_,hp3,Zt,Zl,Xj (show 2≤3 by decide),?_⟩
 rw [Ycc]
 refine q p _ w3 U3 xs3 L4 (G1.trans G3 fun z hz=>?_) (fun z o hz e=>?_) (nk3.1 _ _ (by rw [WD _ _ _ _ _ hno,if_pos rfl])) ?_ nk
 ·intro e
  exact hz (L2.back fr2 e)
 ·rw [Yd (Yk e gp)]
  exact fr3 _ _ hz (fr2 _ _ hz e)
 ·rw [List.length_append,List.length_singleton] at hl3'
  omega
theorem YdG {K:PySem.W.Frag} {H:Hp} {a:Addr} {sh:Sh} (h:Den K H (.ref a) (kd sh)):∃ r,SqT K H a (.str (kdm (kd sh))::r):=by
 obtain ⟨ds,hd⟩:=Vc sh
 have hm:∃ r,ds = .str (kdm (kd sh))::r:=by
  cases sh<;>(rw [kd] at hd ⊢;injection hd with hd;exact ⟨_,hd.symm⟩)
 obtain ⟨r,rfl⟩:=hm
 rw [hd] at h
 obtain ⟨b,vs,e,h1,h2⟩:=Xl h
 have:=V.ref.inj e
 subst this
 obtain ⟨u,r',rfl,h3,_⟩:=Xa h2
 have:=Wd h3
 subst this
 exact ⟨r',h1⟩
theorem Z2J {k:Nat} {Z3 Z0 Z1 Za Z5 Z4 Z7 Z9 Z6 Z8 Z2:Addr} (R:g.RawM Za "maker_of" "Lister.maker_of" Z1K ["self","shape"]) (Z5z:g.Me k Za "add_use" ["self","shape"] (Z2Y g.P g.w g.K (Cs.mk Z2 Z6 Z7 Z9 Z5 Z4 Z8 Z3 Z0 Z1) Za m)) (Z52:g.Me k Za "new_maker" ["self","shape"] (Uh g.P g.w g.K (Cs.mk Z2 Z6 Z7 Z9 Z5 Z4 Z8 Z3 Z0 Z1) Za m)) (ZX:Cls g.K Za) (Z01:Yb g.K Za "book") (ZO:Yb g.K Za "makers"):g.Me (k+1) Za "maker_of" ["self","shape"] (Z0P g.P g.w g.K (Cs.mk Z2 Z6 Z7 Z9 Z5 Z4 Z8 Z3 Z0 Z1) Za (m+1)):=by
 refine R.me Z50 (fun vs H Q E h=>by obtain ⟨prs,w,U,O,ls,dx,d,B,a,sh,xs,rfl,L,hk,hok,hdp,hwt,hxl,hnm,q⟩:=h;rfl) fun f_ cdv A outer s H vs Q E hr h=>?_
 obtain ⟨prs,w,U,O,ls,dx,d,B,a,sh,xs,rfl,L,hk,hok,hdp,hwt,hxl,hnm,q⟩:=h
 refine ⟨_,(@Yh _ _ _ _ _ (@YO _ _ _ _ _ _ _ _ (@Yt _ _ _ _ _ _ _ _ (Ya9 hr) (@pv _ 1 _ _ (by rfl) (by first | exact .inl rfl | exact .inr (.inl rfl) | exact .inr (.inr rfl)) (by decide) (by decide)) (@Yl _ _ _ _ _ (@pv _ 0 _ _ (by rfl) (by first | exact .inl rfl | exact .inr (.inl rfl) | exact .inr (.inr rfl)) (by decide) (by decide)) rfl) rfl) (@Yg _ _ _ (@YO _ _ _ _ _ _ _ _ (@Yt _ _ _ _ _ _ _ _ Y4 (@YE _ _ _ _ _ _ _ Xx (@pv _ 1 _ _ (by rfl) (by first | exact .inl rfl | exact .inr (.inl rfl) | exact .inr (.inr rfl)) (by decide) (by decide)) Yf (fun _ _=>rfl)) Y1 (Yw _)) (@Yg _ _ _ (@YS _ _ _ _ (@Yn _ _ _ _ _ _ _ _ _ _ _ _ _ _ _ _ Z5z ZX hr (@pv _ 0 _ _ (by rfl) (by first | exact .inl rfl | exact .inr (.inl rfl) | exact .inr (.inr rfl)) (by decide) (by decide)) (@Ya _ _ _ _ _ (@pv _ 1 _ _ (by rfl) (by first | exact .inl rfl | exact .inr (.inl rfl) | exact .inr (.inr rfl)) (by decide) (by decide)) Yc (by rfl)) (by omega) (by rfl) (by rfl) (by rfl) (by rfl)) (by rfl))) (@Yg _ _ _ (@Qx _ _ _ _ _ _ _ _ _ _ hr (@Yl _ _ _ _ _ (@pv _ 0 _ _ (by rfl) (by first | exact .inl rfl | exact .inr (.inl rfl) | exact .inr (.inr rfl)) (by decide) (by decide)) rfl) (@pv _ 1 _ _ (by rfl) (by first | exact .inl rfl | exact .inr (.inl rfl) | exact .inr (.inr rfl)) (by decide) (by decide)) (@Yn _ _ _ _ _ _ _ _ _ _ _ _ _ _ _ _ Z52 ZX hr (@pv _ 0 _ _ (by rfl) (by first | exact .inl rfl | exact .inr (.inl rfl) | exact .inr (.inr rfl)) (by decide) (by decide)) (@Ya _ _ _ _ _ (@pv _ 1 _ _ (by rfl) (by first | exact .inl rfl | exact .inr (.inl rfl) | exact .inr (.inr rfl)) (by decide) (by decide)) Yc (by rfl)) (by omega) (by rfl) (by rfl) (by rfl) (by rfl)) rfl)))) YC) (@Yg _ _ _ (@Yo _ _ _ _ (@YcA _ _ _ _ _ _ _ hr (@Yl _ _ _ _ _ (@pv _ 0 _ _ (by rfl) (by first | exact .inl rfl | exact .inr (.inl rfl) | exact .inr (.inr rfl)) (by decide) (by decide)) rfl) (@pv _ 1 _ _ (by rfl) (by first | exact .inl rfl | exact .inr (.inl rfl) | exact .inr (.inr rfl)) (by decide) (by decide)) (fun _ _=>rfl))))),?_⟩
 walk_at "rd"
 refine ⟨_,_,_,L.hl,ZX,ZO,_,We _ _,d,rfl,xs,L.hd,kd sh,hk,?_⟩
 have wp:=XZ sh
 cases hlk:lookD xs (kd sh) with
 | some p =>
  refine YW (by simp) ?_
  unfold V9
  walk_at "rd"
  exact ⟨_,_,_,L.hl,ZX,ZO,_,We _ _,d,rfl,xs,L.hd,kd sh,hk,p,hlk,q p H w U xs L (.refl _ _ _) (fun _ _ _ e=>e) (L.reg hok hlk) (by omega) (.refl _ _ _)⟩
 | none =>
  refine X2 rfl ?_
  obtain ⟨r,hT⟩:=YdG hk.den
  refine ⟨_,hT,_,Yy (j:=0) rfl,YU _ _,?_⟩
  by_cases c:∃ x,sh = .use x
  ·obtain ⟨x,rfl⟩:=c
   have e5:nm (.use x)=2:=by simp [nm,kind,dep]
   have e6:wt (.use x)=1:=by simp [wt]
   have e8:kc (.use x)=2:=by simp [kc,kind,wt]
   have e7:dep (.use x)=0:=by simp [dep]
   refine X2 (by rw [kd];rfl) ⟨_,_,L.hl,Ug _ _ (by decide +kernel) (by decide +kernel),prs,w,U,O,ls,dx,d,B,a,x,xs,rfl,L,hk,hok,hlk,by omega,by omega,fun p H' w' U' xs' L' G' fr' hl' hlen nk=>?_⟩
   unfold V9
   walk_at "rd"
   exact ⟨_,_,_,L'.hl,ZX,ZO,_,We _ _,d,rfl,xs',L'.hd,kd (.use x),WP hk fr' L.hd.at_,p,hl',q p H' w' U' xs' L' G' fr' (L'.reg hok hl') (by omega) (nk.mono (by omega))⟩
  ·have hki:kind sh≠5:=by
    cases sh with
    | use x=>exact absurd ⟨x,rfl⟩ c
    | _=>simp [kind]
   refine YW (fun z=>c ?_) ?_
   ·have z:=V.str.inj z
    cases sh with
    | use x=>exact ⟨x,rfl⟩
    | cho un p=>cases un<;>exact absurd z (by simp only [kd,kdm];decide +kernel)
    | _=>exact absurd z (by simp only [kd,kdm];decide +kernel)
   ·unfold Qv
    walk_at "rd"
    refine ⟨_,_,L.hl,Ug _ _ (by decide +kernel) (by decide +kernel),prs,w,U,O,ls,dx,d,B,a,sh,xs,rfl,L,hk,hok,hki,hdp,hwt,hxl,by omega,fun p H1 w1 U1 xs1 L1 G1 fr1 hr1 hl1 nk1=>?_⟩
    have dk1:=WP hk fr1 L.hd.at_
    have hn1:lookD xs1 (kd sh)=none:=by
     cases e:lookD xs1 (kd sh) with
     | none=>rfl
     | some p' =>
      exfalso
      rcases nk1.2 (kd sh) (by rw [e];intro z;cases z) with z | ⟨s',z1,z2,z3⟩
      ·exact z hlk
      ·rw [WO hok z2 z1] at z3;omega
    have L2:=L1.put dk1 hok hn1 (by omega) hr1
    have fr2:FrB d H (upd H1 d (DDi g.P g.w d (xs1++[(kd sh,a,p)]))):=fun b o hb e=>by rw [Yd hb];exact fr1 _ _ hb e
    refine ⟨_,_,_,L1.hl,ZX,ZO,_,We _ _,d,a,xs1,kd sh,p,rfl,rfl,rfl,L1.hd,dk1,hn1,by omega,?_⟩
    unfold V9
    walk_at "rd"
    refine ⟨_,_,_,L2.hl,ZX,ZO,_,We _ _,d,rfl,_,L2.hd,kd sh,WP hk fr2 L.hd.at_,p,by rw [WD _ _ _ _ _ hn1,if_pos rfl],q p _ w1 U1 _ L2 G1 fr2 hr1 ?_ ((nk1.mono (by omega)).trans (Ycb hok hn1 (by omega)))⟩
    rw [List.length_append,List.length_singleton]
    omega
def MW (C:Cs) (prs:Prs) (M:Nat) (H H':Hp) (p:Addr) (sh:Sh):Prop:=∃ (w:Wo) (U:Addr→Prop),WI C w (t0 U) H'∧w.reg p=some sh∧w.bk=bkO prs∧w.M=M∧Yq H H'∧∀ b,U b→H b=none
def Z34 (K:PySem.W.Frag) (C:Cs):Sp:=fun vs H Q _=>∃ (prs:Prs) (B a:Addr) (sh:Sh),vs=[.ref B,.ref a]∧Vn K H B prs∧DK K H a (kd sh)∧okS prs sh∧wt sh≤20∧nm sh+2≤20∧∀ p H',MW C prs (dep sh) H H' p sh→Q (.ref p) H'
theorem QR {k:Nat} {Z3 Z0 Z1 Za Z5 Z4 Z7 Z9 Z6 Z8 Z2:Addr} (R:g.Raw "maker_for" "maker_for" Z3k ["book","shape"]) {j_Lister___init__:Nat} (Z5i:g.Ma j_Lister___init__ "Lister" Za ["self","book"] (Z5M g.P g.w Za)) (h_Lister___init__:j_Lister___init__+1≤k) (Z0G:g.Me k Za "maker_of" ["self","shape"] (Z0P g.P g.w g.K (Cs.mk Z2 Z6 Z7 Z9 Z5 Z4 Z8 Z3 Z0 Z1) Za 20)) (ZX:Cls g.K Za) (Z01:Yb g.K Za "book") (ZO:Yb g.K Za "makers"):g.Fn (k+1) "maker_for" ["book","shape"] (Z34 g.K (Cs.mk Z2 Z6 Z7 Z9 Z5 Z4 Z8 Z3 Z0 Z1)):=by
 refine R.fn Qy (fun vs H Q E h=>by obtain ⟨prs,B,a,sh,rfl,hB,hk,hok,hwt,hnm,q⟩:=h;rfl) fun f_ cdv A outer s H vs Q E hr h=>?_
 obtain ⟨prs,B,a,sh,rfl,hB,hk,hok,hwt,hnm,q⟩:=h
 refine ⟨_,(@Yg _ _ _ (@Yo _ _ _ _ (@Yn _ _ _ _ _ _ _ _ _ _ _ _ _ _ _ _ Z0G ZX hr (@Wz _ _ _ _ _ _ _ _ _ _ _ _ _ Z5i hr (@Ya _ _ _ _ _ (@pv _ 0 _ _ (by rfl) (by first | exact .inl rfl | exact .inr (.inl rfl) | exact .inr (.inr rfl)) (by decide) (by decide)) Yc (by rfl)) (by omega) (by rfl) (by rfl) (by decide) (by rfl) (by rfl)) (@Ya _ _ _ _ _ (@pv _ 1 _ _ (by rfl) (by first | exact .inl rfl | exact .inr (.inl rfl) | exact .inr (.inr rfl)) (by decide) (by decide)) Yc (by rfl)) (by omega) (by rfl) (by rfl) (by rfl) (by rfl)))),?_⟩
 walk_at "rd"
 intro ls dxl gl gdl hne
 refine ⟨ls,dxl,.ref B,rfl,Ye,fun d H1 gd sb h1 h2=>⟨rfl,_,_,h1,Ug _ _ (by decide +kernel) (by decide +kernel),?_⟩⟩
 have s1:=Xz gl gdl sb
 have gd':=Y0 (Y0 gd)
 have hkc:=Yc5 sh
 have bi:BI (Cs.mk Z2 Z6 Z7 Z9 Z5 Z4 Z8 Z3 Z0 Z1) ⟨bkO prs,fun _=>none,fun _=>none,dep sh⟩ (fun _=>False) (fun _=>False) H1:=⟨fun p s' h=>(by cases h),fun p h=>h.elim,fun b h=>h.elim,fun b x h=>(by cases h),fun b q i h=>(by cases h),fun b b' x h=>(by cases h)⟩
 have L1:LS g.P g.w g.K (Cs.mk Z2 Z6 Z7 Z9 Z5 Z4 Z8 Z3 Z0 Z1) Za prs ⟨bkO prs,fun _=>none,fun _=>none,dep sh⟩ (fun _=>False) (fun _=>False) H1 ls dxl d B []:=⟨h1,hB.tupk (Ws s1) fun o e=>s1 _ _ e,Yb4 h2,bi,fun z=>z,fun z=>z,fun e he=>(by cases he),rfl⟩
 refine ⟨prs,_,_,_,ls,dxl,d,B,a,sh,[],rfl,L1,hk.keep s1,hok,Nat.le_refl _,by omega,by rw [List.length_nil];omega,hnm,fun p H2 w2 U2 xs2 L2 G2 fr2 hr2 _ _=>q p H2 ⟨w2,U2,L2.bi.wi fun _ h=>h,hr2,L2.bk,G2.M,fun b o e=>fr2 _ _ (Yk e gd') (s1 _ _ e),fun b hb=>?_⟩⟩
 rcases G2.u2 b hb with z | z
 ·exact z.elim
 ·exact s1.free z
theorem Ycd (w:Wo) (U:Addr→Prop) (s d:Nat):YZ w (t0 U) s d:=fun p sh _ _ i=>rfl
def Z53 (K:PySem.W.Frag) (C:Cs) (lv:Nat):Sp:=fun vs H Q _=>∃ (prs:Prs) (B a:Addr) (sh:Sh) (n:Nat),vs=[.ref B,.ref a,.int n]∧Vn K H B prs∧DK K H a (kd sh)∧okS prs sh∧wt sh≤20∧nm sh+2≤20∧n≤40∧6*(n+dep sh)+5≤lv ∧
 ∀ D H',Yq H H'→H D=none→H' D=some (.lst (YR (cnt (bkO prs) sh) (n+1)))→Q (.ref D) H'
theorem QS {k:Nat} {Z3 Z0 Z1 Za Z5 Z4 Z7 Z9 Z6 Z8 Z2:Addr} (R:g.Raw "counts_to" "counts_to" Z3l ["book","shape","size"]) (Z0t:g.Fn k "maker_for" ["book","shape"] (Z34 g.K (Cs.mk Z2 Z6 Z7 Z9 Z5 Z4 Z8 Z3 Z0 Z1))) (ZR:g.Me k Z2 "count_at" ["self","size"] (Zs (Cs.mk Z2 Z6 Z7 Z9 Z5 Z4 Z8 Z3 Z0 Z1) 0 100)) (ZM:g.Me k Z6 "count_at" ["self","size"] (Zs (Cs.mk Z2 Z6 Z7 Z9 Z5 Z4 Z8 Z3 Z0 Z1) 1 100)) (ZV:g.Me k Z7 "count_at" ["self","size"] (Zs (Cs.mk Z2 Z6 Z7 Z9 Z5 Z4 Z8 Z3 Z0 Z1) 2 100)) (ZQ:g.Me k Z5 "count_at" ["self","size"] (Zs (Cs.mk Z2 Z6 Z7 Z9 Z5 Z4 Z8 Z3 Z0 Z1) 4 100)) (ZT:g.Me k Z4 "count_at" ["self","size"] (Zs (Cs.mk Z2 Z6 Z7 Z9 Z5 Z4 Z8 Z3 Z0 Z1) 3 100)) (ZW:g.Me k Z8 "count_at" ["self","size"] (Zs (Cs.mk Z2 Z6 Z7 Z9 Z5 Z4 Z8 Z3 Z0 Z1) 5 100)) (ZS:g.Me k Z3 "count_at" ["self","size"] (Zs (Cs.mk Z2 Z6 Z7 Z9 Z5 Z4 Z8 Z3 Z0 Z1) 6 100)) (ZN:g.Me k Z0 "count_at" ["self","size"] (Zs (Cs.mk Z2 Z6 Z7 Z9 Z5 Z4 Z8 Z3 Z0 Z1) 7 100)) (ZP:g.mg "range"=none) (Zb:Cls g.K Z3) (Zk:Yb g.K Z3 "counts") (Zq:Yb g.K Z3 "part") (Ze:Yb g.K Z3 "times") (Zf:Cls g.K Z0) (Zc:Yb g.K Z0 "counts") (Zv:Yb g.K Z0 "part") (Zn:Yb g.K Z0 "table") (Zj:Cls g.K Z5) (Zi:Yb g.K Z5 "counts") (Zm:Yb g.K Z5 "part") (Zu:Cls g.K Z4) (Zh:Yb g.K Z4 "counts") (ZA:Yb g.K Z4 "marks") (Zz:Yb g.K Z4 "parts") (ZD:Cls g.K Z7) (Zo:Yb g.K Z7 "counts") (ZF:Yb g.K Z7 "parts") (ZC:Yb g.K Z7 "table") (Zw:Cls g.K Z6) (Zg:Yb g.K Z6 "counts") (Zy:Yb g.K Z6 "signs") (Zt:Cls g.K Z8) (Zp:Yb g.K Z8 "counts") (Zl:Yb g.K Z8 "named") (Zr:Cls g.K Z2) (Zd:Yb g.K Z2 "counts") (ZE:Yb g.K Z2 "low") (Zx:Yb g.K Z2 "span"):g.Fn (k+1) "counts_to" ["book","shape","size"] (Z53 g.K (Cs.mk Z2 Z6 Z7 Z9 Z5 Z4 Z8 Z3 Z0 Z1) 100):=by
 refine R.fn Z4W (fun vs H Q E h=>by obtain ⟨prs,B,a,sh,n,rfl,hB,hk,hok,hwt,hnm,hn,hlv,q⟩:=h;rfl) fun f_ cdv A outer s H vs Q E hr h=>?_
 obtain ⟨prs,B,a,sh,n,rfl,hB,hk,hok,hwt,hnm,hn,hlv,q⟩:=h
 refine ⟨_,(@Yh _ _ _ _ _ (@YA _ _ (3) _ _ _ _ Z4W.nd rfl (.inr rfl) (@Yx _ _ _ _ _ _ _ _ _ _ _ _ Z0t hr (@Ya _ _ _ _ _ (@pv _ 0 _ _ (by rfl) (by first | exact .inl rfl | exact .inr (.inl rfl) | exact .inr (.inr rfl)) (by decide) (by decide)) (@Ya _ _ _ _ _ (@pv _ 1 _ _ (by rfl) (by first | exact .inl rfl | exact .inr (.inl rfl) | exact .inr (.inr rfl)) (by decide) (by decide)) Yc (by rfl)) (by rfl)) (by omega) (by rfl) (by rfl) (by decide) (by rfl) (by rfl)) (by rfl) (by first | exact .inl rfl | exact .inr rfl | assumption)) (@Yg _ _ _ (@Yo _ _ _ _ (@Wj _ _ _ _ _ _ _ ([none,some 3]) ((["each","maker"]:List Str)) _ (YL 0) _ _ (.own (.cap (i:=3) rfl rfl (by first | exact .inl rfl | exact .inr rfl) .nil)) rfl (@Xd _ _ _ _ _ _ rfl ZP (@Ya _ _ _ _ _ (@Yi _ _ _ _ _ _ _ _ YI (@pv _ 2 _ _ (by rfl) (by first | exact .inl rfl | exact .inr (.inl rfl) | exact .inr (.inr rfl)) (by decide) (by decide)) Yf) Yc (by rfl)) (by rfl)) (fun cl C s₀ H₀ fp pn=>(@YF _ _ (0) _ (show List.Nodup (["each","maker"]:List Str) by decide +kernel) rfl (.inl rfl) (.inr rfl))) (fun cl C s₀ H₀ fp pn=>Xs) (fun cl C s₀ H₀ fp pn=>(@Ym _ _ _ _ (@Yn _ _ _ _ _ _ _ _ _ _ _ _ _ _ _ _ ZR Zr hr (@pv _ 1 _ _ (by rfl) (by first | exact .inl rfl | exact .inr (.inl rfl) | exact .inr (.inr rfl)) (by decide) (by decide)) (@Ya _ _ _ _ _ (@pv _ 0 _ _ (by rfl) (by first | exact .inl rfl | exact .inr (.inl rfl) | exact .inr (.inr rfl)) (by decide) (by decide)) Yc (by rfl)) (by omega) (by rfl) (by rfl) (by rfl) (by rfl)) (@Ym _ _ _ _ (@Yn _ _ _ _ _ _ _ _ _ _ _ _ _ _ _ _ ZM Zw hr (@pv _ 1 _ _ (by rfl) (by first | exact .inl rfl | exact .inr (.inl rfl) | exact .inr (.inr rfl)) (by decide) (by decide)) (@Ya _ _ _ _ _ (@pv _ 0 _ _ (by rfl) (by first | exact .inl rfl | exact .inr (.inl rfl) | exact .inr (.inr rfl)) (by decide) (by decide)) Yc (by rfl)) (by omega) (by rfl) (by rfl) (by rfl) (by rfl)) (@Ym _ _ _ _ (@Yn _ _ _ _ _ _ _ _ _ _ _ _ _ _ _ _ ZV ZD hr (@pv _ 1 _ _ (by rfl) (by first | exact .inl rfl | exact .inr (.inl rfl) | exact .inr (.inr rfl)) (by decide) (by decide)) (@Ya _ _ _ _ _ (@pv _ 0 _ _ (by rfl) (by first | exact .inl rfl | exact .inr (.inl rfl) | exact .inr (.inr rfl)) (by decide) (by decide)) Yc (by rfl)) (by omega) (by rfl) (by rfl) (by rfl) (by rfl)) (@Ym _ _ _ _ (@Yn _ _ _ _ _ _ _ _ _ _ _ _ _ _ _ _ ZQ Zj hr (@pv _ 1 _ _ (by rfl) (by first | exact .inl rfl | exact .inr (.inl rfl) | exact .inr (.inr rfl)) (by decide) (by decide)) (@Ya _ _ _ _ _ (@pv _ 0 _ _ (by rfl) (by first | exact .inl rfl | exact .inr (.inl rfl) | exact .inr (.inr rfl)) (by decide) (by decide)) Yc (by rfl)) (by omega) (by rfl) (by rfl) (by rfl) (by rfl)) (@Ym _ _ _ _ (@Yn _ _ _ _ _ _ _ _ _ _ _ _ _ _ _ _ ZT Zu hr (@pv _ 1 _ _ (by rfl) (by first | exact .inl rfl | exact .inr (.inl rfl) | exact .inr (.inr rfl)) (by decide) (by decide)) (@Ya _ _ _ _ _ (@pv _ 0 _ _ (by rfl) (by first | exact .inl rfl | exact .inr (.inl rfl) | exact .inr (.inr rfl)) (by decide) (by decide)) Yc (by rfl)) (by omega) (by rfl) (by rfl) (by rfl) (by rfl)) (@Ym _ _ _ _ (@Yn _ _ _ _ _ _ _ _ _ _ _ _ _ _ _ _ ZW Zt hr (@pv _ 1 _ _ (by rfl) (by first | exact .inl rfl | exact .inr (.inl rfl) | exact .inr (.inr rfl)) (by decide) (by decide)) (@Ya _ _ _ _ _ (@pv _ 0 _ _ (by rfl) (by first | exact .inl rfl | exact .inr (.inl rfl) | exact .inr (.inr rfl)) (by decide) (by decide)) Yc (by rfl)) (by omega) (by rfl) (by rfl) (by rfl) (by rfl)) (@Ym _ _ _ _ (@Yn _ _ _ _ _ _ _ _ _ _ _ _ _ _ _ _ ZS Zb hr (@pv _ 1 _ _ (by rfl) (by first | exact .inl rfl | exact .inr (.inl rfl) | exact .inr (.inr rfl)) (by decide) (by decide)) (@Ya _ _ _ _ _ (@pv _ 0 _ _ (by rfl) (by first | exact .inl rfl | exact .inr (.inl rfl) | exact .inr (.inr rfl)) (by decide) (by decide)) Yc (by rfl)) (by omega) (by rfl) (by rfl) (by rfl) (by rfl)) (@Yn _ _ _ _ _ _ _ _ _ _ _ _ _ _ _ _ ZN Zf hr (@pv _ 1 _ _ (by rfl) (by first | exact .inl rfl | exact .inr (.inl rfl) | exact .inr (.inr rfl)) (by decide) (by decide)) (@Ya _ _ _ _ _ (@pv _ 0 _ _ (by rfl) (by first | exact .inl rfl | exact .inr (.inl rfl) | exact .inr (.inr rfl)) (by decide) (by decide)) Yc (by rfl)) (by omega) (by rfl) (by rfl) (by rfl) (by rfl)))))))))) (by intro x hx;simp at hx;first | (subst hx;exact .inl rfl) | (rcases hx with rfl | rfl<;>exact .inl rfl) | (rcases hx with rfl | rfl | rfl<;>exact .inl rfl) | (rcases hx with rfl | rfl | rfl | rfl<;>exact .inl rfl) | (rcases hx with rfl | rfl | rfl | rfl | rfl<;>exact .inl rfl)) (by rfl) (by decide) (by decide +kernel) (by intro _;rfl))))),?_⟩
 walk_at "rd"
 refine ⟨prs,B,a,sh,rfl,hB,hk,hok,hwt,hnm,fun p H1 ⟨w,U,W,hg,hbk,hM,s1,hU⟩=>?_⟩
 refine XI (n:=n+1) (fun D i zs H'=>∃ t',Tr (Cs.mk Z2 Z6 Z7 Z9 Z5 Z4 Z8 Z3 Z0 Z1) w (t0 U) H1 t' H' n (dep sh+1)∧zs=YR (cnt (bkO prs) sh) i∧H' D=some (.lst zs)∧¬ t'.U D) (fun R r=>by walk_at "rd";exact r) (by omega) ?_ ?_ ?_ ?_
 ·intro D hD
  exact ⟨t0 U,(Tr.refl W _ _).put hD (W.new hD).2 _,rfl,Ye,(W.new hD).2⟩
 ·rintro D i zs H' ⟨t',_,rfl,h2,_⟩
  exact ⟨Yr _ _,h2⟩
 ·rintro D i zs H' hD hi ⟨t',T1,rfl,hd,hUD⟩ R r
  have dD:w.D D=none:=(W.new hD).1
  have hf:fu w i (dep sh)+5≤100:=by
   have:=Wm (w:=w) (d:=dep sh) (show i≤n by omega)
   unfold fu at this ⊢
   omega
  walk_at "rd"
  refine X3 T1.wi hg (by omega) hf (T1.ready (Ycd _ _ _ _)) fun t2 H2 T2 hn2=>?_
  have T12:=T1.trans (T2.mono (by omega))
  have hd2:=T2.fr _ _ dD hd
  have hUD2:=T2.ours hUD hd
  exact r _ _ hd2 ⟨t2,T12.put hD hUD2 _,by rw [Y2,hbk],Ye,hUD2⟩
 ·rintro D zs H' hD ⟨t',T1,rfl,hd,hUD⟩
  refine q D H' (fun b o e=>T1.fr b o ?_ (s1 _ _ e)) (s1.free hD) hd
  cases z:w.D b with
  | none=>rfl
  | some x =>
   have:=hU b (W.ow b x z)
   rw [e] at this
   cases this
def Z5N (K:PySem.W.Frag) (C:Cs) (lv:Nat):Sp:=fun vs H Q _=>∃ (prs:Prs) (B a:Addr) (sh:Sh) (n:Nat),vs=[.ref B,.ref a,.int n]∧Vn K H B prs∧DK K H a (kd sh)∧okS prs sh∧wt sh≤20∧nm sh+2≤20∧n≤40∧6*(n+dep sh)+5≤lv ∧
 ∀ H',Yq H H'→Q (.int (cnt (bkO prs) sh n)) H'
theorem Ybp {k:Nat} {Z3 Z0 Z1 Za Z5 Z4 Z7 Z9 Z6 Z8 Z2:Addr} (R:g.Raw "counted" "counted" Z4V ["book","shape","size"]) (Z0t:g.Fn k "maker_for" ["book","shape"] (Z34 g.K (Cs.mk Z2 Z6 Z7 Z9 Z5 Z4 Z8 Z3 Z0 Z1))) (ZR:g.Me k Z2 "count_at" ["self","size"] (Zs (Cs.mk Z2 Z6 Z7 Z9 Z5 Z4 Z8 Z3 Z0 Z1) 0 100)) (ZM:g.Me k Z6 "count_at" ["self","size"] (Zs (Cs.mk Z2 Z6 Z7 Z9 Z5 Z4 Z8 Z3 Z0 Z1) 1 100)) (ZV:g.Me k Z7 "count_at" ["self","size"] (Zs (Cs.mk Z2 Z6 Z7 Z9 Z5 Z4 Z8 Z3 Z0 Z1) 2 100)) (ZQ:g.Me k Z5 "count_at" ["self","size"] (Zs (Cs.mk Z2 Z6 Z7 Z9 Z5 Z4 Z8 Z3 Z0 Z1) 4 100)) (ZT:g.Me k Z4 "count_at" ["self","size"] (Zs (Cs.mk Z2 Z6 Z7 Z9 Z5 Z4 Z8 Z3 Z0 Z1) 3 100)) (ZW:g.Me k Z8 "count_at" ["self","size"] (Zs (Cs.mk Z2 Z6 Z7 Z9 Z5 Z4 Z8 Z3 Z0 Z1) 5 100)) (ZS:g.Me k Z3 "count_at" ["self","size"] (Zs (Cs.mk Z2 Z6 Z7 Z9 Z5 Z4 Z8 Z3 Z0 Z1) 6 100)) (ZN:g.Me k Z0 "count_at" ["self","size"] (Zs (Cs.mk Z2 Z6 Z7 Z9 Z5 Z4 Z8 Z3 Z0 Z1) 7 100)) (Zb:Cls g.K Z3) (Zk:Yb g.K Z3 "counts") (Zq:Yb g.K Z3 "part") (Ze:Yb g.K Z3 "times") (Zf:Cls g.K Z0) (Zc:Yb g.K Z0 "counts") (Zv:Yb g.K Z0 "part") (Zn:Yb g.K Z0 "table") (Zj:Cls g.K Z5) (Zi:Yb g.K Z5 "counts") (Zm:Yb g.K Z5 "part") (Zu:Cls g.K Z4) (Zh:Yb g.K Z4 "counts") (ZA:Yb g.K Z4 "marks") (Zz:Yb g.K Z4 "parts") (ZD:Cls g.K Z7) (Zo:Yb g.K Z7 "counts") (ZF:Yb g.K Z7 "parts") (ZC:Yb g.K Z7 "table") (Zw:Cls g.K Z6) (Zg:Yb g.K Z6 "counts") (Zy:Yb g.K Z6 "signs") (Zt:Cls g.K Z8) (Zp:Yb g.K Z8 "counts") (Zl:Yb g.K Z8 "named") (Zr:Cls g.K Z2) (Zd:Yb g.K Z2 "counts") (ZE:Yb g.K Z2 "low") (Zx:Yb g.K Z2 "span"):g.Fn (k+1) "counted" ["book","shape","size"] (Z5N g.K (Cs.mk Z2 Z6 Z7 Z9 Z5 Z4 Z8 Z3 Z0 Z1) 100):=by
 refine R.fn Ybb (fun vs H Q E h=>by obtain ⟨prs,B,a,sh,n,rfl,hB,hk,hok,hwt,hnm,hn,hlv,q⟩:=h;rfl) fun f_ cdv A outer s H vs Q E hr h=>?_
 obtain ⟨prs,B,a,sh,n,rfl,hB,hk,hok,hwt,hnm,hn,hlv,q⟩:=h
 refine ⟨_,(@Yg _ _ _ (@Yo _ _ _ _ (@Ym _ _ _ _ (@Yn _ _ _ _ _ _ _ _ _ _ _ _ _ _ _ _ ZR Zr hr (@Yx _ _ _ _ _ _ _ _ _ _ _ _ Z0t hr (@Ya _ _ _ _ _ (@pv _ 0 _ _ (by rfl) (by first | exact .inl rfl | exact .inr (.inl rfl) | exact .inr (.inr rfl)) (by decide) (by decide)) (@Ya _ _ _ _ _ (@pv _ 1 _ _ (by rfl) (by first | exact .inl rfl | exact .inr (.inl rfl) | exact .inr (.inr rfl)) (by decide) (by decide)) Yc (by rfl)) (by rfl)) (by omega) (by rfl) (by rfl) (by decide) (by rfl) (by rfl)) (@Ya _ _ _ _ _ (@pv _ 2 _ _ (by rfl) (by first | exact .inl rfl | exact .inr (.inl rfl) | exact .inr (.inr rfl)) (by decide) (by decide)) Yc (by rfl)) (by omega) (by rfl) (by rfl) (by rfl) (by rfl)) (@Ym _ _ _ _ (@Yn _ _ _ _ _ _ _ _ _ _ _ _ _ _ _ _ ZM Zw hr (@Yx _ _ _ _ _ _ _ _ _ _ _ _ Z0t hr (@Ya _ _ _ _ _ (@pv _ 0 _ _ (by rfl) (by first | exact .inl rfl | exact .inr (.inl rfl) | exact .inr (.inr rfl)) (by decide) (by decide)) (@Ya _ _ _ _ _ (@pv _ 1 _ _ (by rfl) (by first | exact .inl rfl | exact .inr (.inl rfl) | exact .inr (.inr rfl)) (by decide) (by decide)) Yc (by rfl)) (by rfl)) (by omega) (by rfl) (by rfl) (by decide) (by rfl) (by rfl)) (@Ya _ _ _ _ _ (@pv _ 2 _ _ (by rfl) (by first | exact .inl rfl | exact .inr (.inl rfl) | exact .inr (.inr rfl)) (by decide) (by decide)) Yc (by rfl)) (by omega) (by rfl) (by rfl) (by rfl) (by rfl)) (@Ym _ _ _ _ (@Yn _ _ _ _ _ _ _ _ _ _ _ _ _ _ _ _ ZV ZD hr (@Yx _ _ _ _ _ _ _ _ _ _ _ _ Z0t hr (@Ya _ _ _ _ _ (@pv _ 0 _ _ (by rfl) (by first | exact .inl rfl | exact .inr (.inl rfl) | exact .inr (.inr rfl)) (by decide) (by decide)) (@Ya _ _ _ _ _ (@pv _ 1 _ _ (by rfl) (by first | exact .inl rfl | exact .inr (.inl rfl) | exact .inr (.inr rfl)) (by decide) (by decide)) Yc (by rfl)) (by rfl)) (by omega) (by rfl) (by rfl) (by decide) (by rfl) (by rfl)) (@Ya _ _ _ _ _ (@pv _ 2 _ _ (by rfl) (by first | exact .inl rfl | exact .inr (.inl rfl) | exact .inr (.inr rfl)) (by decide) (by decide)) Yc (by rfl)) (by omega) (by rfl) (by rfl) (by rfl) (by rfl)) (@Ym _ _ _ _ (@Yn _ _ _ _ _ _ _ _ _ _ _ _ _ _ _ _ ZQ Zj hr (@Yx _ _ _ _ _ _ _ _ _ _ _ _ Z0t hr (@Ya _ _ _ _ _ (@pv _ 0 _ _ (by rfl) (by first | exact .inl rfl | exact .inr (.inl rfl) | exact .inr (.inr rfl)) (by decide) (by decide)) (@Ya _ _ _ _ _ (@pv _ 1 _ _ (by rfl) (by first | exact .inl rfl | exact .inr (.inl rfl) | exact .inr (.inr rfl)) (by decide) (by decide)) Yc (by rfl)) (by rfl)) (by omega) (by rfl) (by rfl) (by decide) (by rfl) (by rfl)) (@Ya _ _ _ _ _ (@pv _ 2 _ _ (by rfl) (by first | exact .inl rfl | exact .inr (.inl rfl) | exact .inr (.inr rfl)) (by decide) (by decide)) Yc (by rfl)) (by omega) (by rfl) (by rfl) (by rfl) (by rfl)) (@Ym _ _ _ _ (@Yn _ _ _ _ _ _ _ _ _ _ _ _ _ _ _ _ ZT Zu hr (@Yx _ _ _ _ _ _ _ _ _ _ _ _ Z0t hr (@Ya _ _ _ _ _ (@pv _ 0 _ _ (by rfl) (by first | exact .inl rfl | exact .inr (.inl rfl) | exact .inr (.inr rfl)) (by decide) (by decide)) (@Ya _ _ _ _ _ (@pv _ 1 _ _ (by rfl) (by first | exact .inl rfl | exact .inr (.inl rfl) | exact .inr (.inr rfl)) (by decide) (by decide)) Yc (by rfl)) (by rfl)) (by omega) (by rfl) (by rfl) (by decide) (by rfl) (by rfl)) (@Ya _ _ _ _ _ (@pv _ 2 _ _ (by rfl) (by first | exact .inl rfl | exact .inr (.inl rfl) | exact .inr (.inr rfl)) (by decide) (by decide)) Yc (by rfl)) (by omega) (by rfl) (by rfl) (by rfl) (by rfl)) (@Ym _ _ _ _ (@Yn _ _ _ _ _ _ _ _ _ _ _ _ _ _ _ _ ZW Zt hr (@Yx _ _ _ _ _ _ _ _ _ _ _ _ Z0t hr (@Ya _ _ _ _ _ (@pv _ 0 _ _ (by rfl) (by first | exact .inl rfl | exact .inr (.inl rfl) | exact .inr (.inr rfl)) (by decide) (by decide)) (@Ya _ _ _ _ _ (@pv _ 1 _ _ (by rfl) (by first | exact .inl rfl | exact .inr (.inl rfl) | exact .inr (.inr rfl)) (by decide) (by decide)) Yc (by rfl)) (by rfl)) (by omega) (by rfl) (by rfl) (by decide) (by rfl) (by rfl)) (@Ya _ _ _ _ _ (@pv _ 2 _ _ (by rfl) (by first | exact .inl rfl | exact .inr (.inl rfl) | exact .inr (.inr rfl)) (by decide) (by decide)) Yc (by rfl)) (by omega) (by rfl) (by rfl) (by rfl) (by rfl)) (@Ym _ _ _ _ (@Yn _ _ _ _ _ _ _ _ _ _ _ _ _ _ _ _ ZS Zb hr (@Yx _ _ _ _ _ _ _ _ _ _ _ _ Z0t hr (@Ya _ _ _ _ _ (@pv _ 0 _ _ (by rfl) (by first | exact .inl rfl | exact .inr (.inl rfl) | exact .inr (.inr rfl)) (by decide) (by decide)) (@Ya _ _ _ _ _ (@pv _ 1 _ _ (by rfl) (by first | exact .inl rfl | exact .inr (.inl rfl) | exact .inr (.inr rfl)) (by decide) (by decide)) Yc (by rfl)) (by rfl)) (by omega) (by rfl) (by rfl) (by decide) (by rfl) (by rfl)) (@Ya _ _ _ _ _ (@pv _ 2 _ _ (by rfl) (by first | exact .inl rfl | exact .inr (.inl rfl) | exact .inr (.inr rfl)) (by decide) (by decide)) Yc (by rfl)) (by omega) (by rfl) (by rfl) (by rfl) (by rfl)) (@Yn _ _ _ _ _ _ _ _ _ _ _ _ _ _ _ _ ZN Zf hr (@Yx _ _ _ _ _ _ _ _ _ _ _ _ Z0t hr (@Ya _ _ _ _ _ (@pv _ 0 _ _ (by rfl) (by first | exact .inl rfl | exact .inr (.inl rfl) | exact .inr (.inr rfl)) (by decide) (by decide)) (@Ya _ _ _ _ _ (@pv _ 1 _ _ (by rfl) (by first | exact .inl rfl | exact .inr (.inl rfl) | exact .inr (.inr rfl)) (by decide) (by decide)) Yc (by rfl)) (by rfl)) (by omega) (by rfl) (by rfl) (by decide) (by rfl) (by rfl)) (@Ya _ _ _ _ _ (@pv _ 2 _ _ (by rfl) (by first | exact .inl rfl | exact .inr (.inl rfl) | exact .inr (.inr rfl)) (by decide) (by decide)) Yc (by rfl)) (by omega) (by rfl) (by rfl) (by rfl) (by rfl))))))))))),?_⟩
 have key:∀ p H1,MW (Cs.mk Z2 Z6 Z7 Z9 Z5 Z4 Z8 Z3 Z0 Z1) prs (dep sh) H H1 p sh→Cal (Cs.mk Z2 Z6 Z7 Z9 Z5 Z4 Z8 Z3 Z0 Z1) (WN (Cs.mk Z2 Z6 Z7 Z9 Z5 Z4 Z8 Z3 Z0 Z1) sh) (kind sh) 100 H1 p n Q:=fun p H1 ⟨w,U,W,hg,hbk,hM,s1,hU⟩=>by
  obtain ⟨dx,c,fs,hU',hd,hsm,hns,hp,hDc,hc,hsub⟩:=W.at_ p sh hg
  have hf:fu w n (dep sh)+5≤100:=by
   unfold fu
   omega
  refine ⟨dx,_,hp,Xy (by decide +kernel) hsub,w,t0 U,p,sh,n,rfl,rfl,W,hg,by omega,hn,fun h=>absurd h (Nat.not_lt_zero _),fun _=>⟨hf,Ycd _ _ _ _,fun t' H' T1 _=>?_⟩⟩
  rw [hbk]
  refine q H' fun b o e=>T1.fr b o ?_ (s1 _ _ e)
  cases z:w.D b with
  | none=>rfl
  | some x =>
   have:=hU b (W.ow b x z)
   rw [e] at this
   cases this
 walk_at "rd"
 cases sh with
 | w lo span=>exact .inl ⟨prs,B,a,_,rfl,hB,hk,hok,hwt,hnm,fun p H1 mw=>⟨p,rfl,key p H1 mw⟩⟩
 | t sg=>exact .inr (.inl ⟨prs,B,a,_,rfl,hB,hk,hok,hwt,hnm,fun p H1 mw=>⟨p,rfl,key p H1 mw⟩⟩)
 | row ps=>exact .inr (.inr (.inl ⟨prs,B,a,_,rfl,hB,hk,hok,hwt,hnm,fun p H1 mw=>⟨p,rfl,key p H1 mw⟩⟩))
 | many p=>exact .inr (.inr (.inr (.inl ⟨prs,B,a,_,rfl,hB,hk,hok,hwt,hnm,fun p H1 mw=>⟨p,rfl,key p H1 mw⟩⟩)))
 | pick mk ps=>exact .inr (.inr (.inr (.inr (.inl ⟨prs,B,a,_,rfl,hB,hk,hok,hwt,hnm,fun p H1 mw=>⟨p,rfl,key p H1 mw⟩⟩))))
 | use x=>exact .inr (.inr (.inr (.inr (.inr (.inl ⟨prs,B,a,_,rfl,hB,hk,hok,hwt,hnm,fun p H1 mw=>⟨p,rfl,key p H1 mw⟩⟩)))))
 | alike p n=>exact .inr (.inr (.inr (.inr (.inr (.inr (.inl ⟨prs,B,a,_,rfl,hB,hk,hok,hwt,hnm,fun p H1 mw=>⟨p,rfl,key p H1 mw⟩⟩))))))
 | cho un p=>exact .inr (.inr (.inr (.inr (.inr (.inr (.inr ⟨prs,B,a,_,rfl,hB,hk,hok,hwt,hnm,fun p H1 mw=>⟨p,rfl,key p H1 mw⟩⟩))))))
theorem SameBut.upd {p:Addr} {H H':Hp} (a:SameBut p H H') (o:HO):SameBut p H (L2.upd H' p o):=fun q u n h=>by rw [Yd n];exact a q u n h
theorem Ybq {g:TG} {tb:TS} {D:Ends} {σ:St} {H:Hp} {K:PySem.W.Frag} {tl:TE} (Pv:List V→Addr→Nat→St→Hp→Prop) (ha:∀ R:V→Hp→Prop,(∀ ys c H1,Pv ys c 0 σ H1→R (.ref c) H1)→tl σ H R) (hl:∀ ys c i σ H,i≤ys.length→Pv ys c i σ H→SqL K H c ys)
  (hs:∀ ys c (i:Nat) x σ H,ys[i]?=some x→Pv ys c i σ H→g x σ H fun σ2 H2=>tb { D with nx:=Pv ys c (i+1),ct:=Pv ys c (i+1),bk:=D.nx } σ2 H2) (hd:∀ ys c σ H,Pv ys c ys.length σ H→D.nx σ H):Uj (Vj K tl) g tb D σ H:=by
 refine ha _ fun ys c H1 h0=>⟨c,rfl,⟨ys,hl ys c 0 σ H1 (Nat.zero_le _) h0⟩,?_⟩
 exact Qh (Pv ys c) h0 (hl ys c) (hs ys c) (hd ys c)
def Z54:Sp:=fun vs H Q _=>∃ i:Int,vs=[.int i]∧Q (.bl true) H
theorem QT {Z3 Z0 Z1 Za Z5 Z4 Z7 Z9 Z6 Z8 Z2:Addr} (R:g.Raw "_law_whole" "_law_whole" Z3m ["_law_found"]) (b_bool:g.mg "bool"=none) (b_int:g.mg "int"=none) (Z0u:g.mg "isinstance"=none):g.Fn (1) "_law_whole" ["_law_found"] (Z54):=by
 refine R.fn Qz (fun vs H Q E h=>by obtain ⟨i,rfl,q⟩:=h;rfl) fun f_ cdv A outer s H vs Q E hr h=>?_
 obtain ⟨i,rfl,q⟩:=h
 refine ⟨_,(@Yg _ _ _ (@Yo _ _ _ _ (@YdT _ _ _ _ _ _ _ (@YT _ _ _ _ _ _ _ _ _ _ Z0u W0 (@Ya _ _ _ _ _ (@pv _ 0 _ _ (by rfl) (by first | exact .inl rfl | exact .inr (.inl rfl) | exact .inr (.inr rfl)) (by decide) (by decide)) (@Ya _ _ _ _ _ (@Ya2 _ _ _ _ ("int") b_int (by decide +kernel) (by rfl) (by rfl) (by decide) (by decide)) Yc (by rfl)) (by rfl)) (by decide +kernel) (by rfl) (by rfl) (by decide) (by decide) (by rfl) (by rfl)) (@YdS _ _ _ _ _ (@YdU _ _ _ _ (@YT _ _ _ _ _ _ _ _ _ _ Z0u W0 (@Ya _ _ _ _ _ (@pv _ 0 _ _ (by rfl) (by first | exact .inl rfl | exact .inr (.inl rfl) | exact .inr (.inr rfl)) (by decide) (by decide)) (@Ya _ _ _ _ _ (@Ya2 _ _ _ _ ("bool") b_bool (by decide +kernel) (by rfl) (by rfl) (by decide) (by decide)) Yc (by rfl)) (by rfl)) (by decide +kernel) (by rfl) (by rfl) (by decide) (by decide) (by rfl) (by rfl))))))),?_⟩
 walk_at "rd"
 exact ⟨_,rfl,_,.int _,true,rfl,iteT ⟨_,rfl,_,.int _,false,rfl,q⟩⟩
def Z5O (K:PySem.W.Frag):Sp:=fun vs H Q _=>∃ (a:Addr) (ns:List Int) (k st:Nat),vs=[.ref a,.int k,.int st]∧SqL K H a (ns.map V.int)∧ns.length≤63∧k≤60∧0<st∧st≤60∧∀ (x:Nat) H',x<2^210→Yq H H'→Q (.int x) H'
theorem Ybr {Z3 Z0 Z1 Za Z5 Z4 Z7 Z9 Z6 Z8 Z2:Addr} (R:g.Raw "_law_mix" "_law_mix" Z4X ["_law_script","_law_k","_law_step"]):g.Fn (1) "_law_mix" ["_law_script","_law_k","_law_step"] (Z5O g.K):=by
 refine R.fn Z2S (fun vs H Q E h=>by obtain ⟨a,ns,k,st,rfl,hS,hl,hk,h0,hst,q⟩:=h;rfl) fun f_ cdv A outer s H vs Q E hr h=>?_
 obtain ⟨a,ns,k,st,rfl,hS,hl,hk,h0,hst,q⟩:=h
 refine ⟨_,(@Yh _ _ _ _ _ (@YA _ _ (3) _ _ _ _ Z2S.nd rfl (.inl rfl) (@Yi _ _ _ _ _ _ _ _ YI (@Yi _ _ _ _ _ _ _ _ Xt (@pv _ 1 _ _ (by rfl) (by first | exact .inl rfl | exact .inr (.inl rfl) | exact .inr (.inr rfl)) (by decide) (by decide)) (@pv _ 1 _ _ (by rfl) (by first | exact .inl rfl | exact .inr (.inl rfl) | exact .inr (.inr rfl)) (by decide) (by decide))) Yf) (by rfl) (by first | exact .inl rfl | exact .inr rfl | assumption)) (@Yh _ _ _ _ _ (@XR _ _ _ _ _ _ _ _ PassesOwn.never rfl (@W4 _ _ _ _ (@Yb1 _ _ _ _ _ _ _ _ _ (@pv _ 0 _ _ (by rfl) (by first | exact .inl rfl | exact .inr (.inl rfl) | exact .inr (.inr rfl)) (by decide) (by decide)) (@pv _ 1 _ _ (by rfl) (by first | exact .inl rfl | exact .inr (.inl rfl) | exact .inr (.inr rfl)) (by decide) (by decide)) (@pv _ 2 _ _ (by rfl) (by first | exact .inl rfl | exact .inr (.inl rfl) | exact .inr (.inr rfl)) (by decide) (by decide)))) (@YF _ _ (4) _ Z2S.nd rfl (.inl rfl) (by first | exact .inl rfl | exact .inr rfl | assumption)) (@Yg _ _ _ (@YA _ _ (3) _ _ _ _ Z2S.nd rfl (.inl rfl) (@Yi _ _ _ _ _ _ _ _ Y7 (@Yi _ _ _ _ _ _ _ _ YI (@Yi _ _ _ _ _ _ _ _ Xt (@pv _ 3 _ _ (by rfl) (by first | exact .inl rfl | exact .inr (.inl rfl) | exact .inr (.inr rfl)) (by decide) (by decide)) Yf) (@Yi _ _ _ _ _ _ _ _ Y7 (@pv _ 4 _ _ (by rfl) (by first | exact .inl rfl | exact .inr (.inl rfl) | exact .inr (.inr rfl)) (by decide) (by decide)) (@Yi _ _ _ _ _ _ _ _ YI (@Yi _ _ _ _ _ _ _ _ Vu Yf Yf) Yf))) (@Yi _ _ _ _ _ _ _ _ YI (@Yi _ _ _ _ _ _ _ _ Vu Yf Yf) Yf)) (by rfl) (by first | exact .inl rfl | exact .inr rfl | assumption))) (by intro _;rfl)) (@Yg _ _ _ (@Yo _ _ _ _ (@pv _ 3 _ _ (by rfl) (by first | exact .inl rfl | exact .inr (.inl rfl) | exact .inr (.inr rfl)) (by decide) (by decide)))))),?_⟩
 walk_at "rd"
 refine ⟨.inl (cm (m:=8) (n:=8) (by rw [Int.natAbs_natCast];omega) (by rw [Int.natAbs_natCast];omega)),?_⟩
 refine Ybq (K:=g.K) (fun ys c i σ H'=>(∀ v∈ys,v∈ns.map V.int)∧Yq H H'∧H' c=some (.lst ys)∧∃ (x:Nat) (o:Option V),σ=[some (.ref a),some (.int k),some (.int st),some (.int x),o]∧x<2^210) (fun R r=>?_) (fun ys c i σ H' _ h=>SqL.of h.2.2.1) ?_ ?_
 ·walk_at "rd"
  refine ⟨by omega,by omega,_,hS,fun p ys hp hm hle=>r ys p _ ⟨hm,.upd_new hp _,Ye,k*k+3,none,by rw [Int.natCast_add,Int.natCast_mul];rfl,?_⟩⟩
  have:k*k≤60*60:=Nat.mul_le_mul hk hk
  exact Nat.lt_of_le_of_lt (show k*k+3≤3603 by omega) (by decide)
 ·rintro ys c i v σ H' hv ⟨hm,sm,hc,x,o,rfl,hx⟩
  obtain ⟨z,_,rfl⟩:=List.mem_map.mp (hm v (List.mem_of_getElem? hv))
  walk_at "rd"
  have hp:(0:Int)<10^Int.toNat 61+51:=by decide +kernel
  obtain ⟨r,hr1,hr2⟩:=X7 ((x:Int)*48271+z%(10^Int.toNat 60+7)) hp
  refine ⟨.inl (cm (m:=210) (n:=16) (by rw [Int.natAbs_natCast];exact hx) (by decide)),QA,by decide +kernel,QA,hp,hm,sm,hc,r,hr1,?_⟩
  have hb:(10:Int)^Int.toNat 61+51<((2^210:Nat):Int):=by decide +kernel
  exact Int.ofNat_lt.mp (Int.lt_trans hr2 hb)
 ·rintro ys c σ H' ⟨hm,sm,hc,x,o,rfl,hx⟩
  walk_at "rd"
  exact q x H' hx sm
def Vq (xs:List Nat):List V:=xs.map fun (x:Nat)=>V.int (x:Int)
theorem UP (xs:List Nat):(Vq xs).length=xs.length:=by simp [Vq]
def Xn (H:Hp) (D:Addr):Prop:=∃ xs:List Nat,H D=some (.lst (Vq xs))∧(∀ x∈xs,x<2^210)∧xs.length≤60
def Z5u (K:PySem.W.Frag):Sp:=fun vs H Q _=>∃ (a:Addr) (ns:List Int) (n:Nat),vs=[.ref a,.int n]∧SqL K H a (ns.map V.int)∧ns.length≤63∧n≤60∧∀ (D:Addr) H',Xn H' D→Q (.ref D) H'
theorem Q7 {k:Nat} {Z3 Z0 Z1 Za Z5 Z4 Z7 Z9 Z6 Z8 Z2:Addr} (R:g.Raw "_law_feed" "_law_feed" Z4a ["_law_script","_law_many"]) (F_law_mix:g.Fn k "_law_mix" ["_law_script","_law_k","_law_step"] (Z5O g.K)) (ZP:g.mg "range"=none):g.Fn (k+1) "_law_feed" ["_law_script","_law_many"] (Z5u g.K):=by
 refine R.fn Q1 (fun vs H Q E h=>by obtain ⟨a,ns,n,rfl,hS,hl,hn,q⟩:=h;rfl) fun f_ cdv A outer s H vs Q E hr h=>?_
 obtain ⟨a,ns,n,rfl,hS,hl,hn,q⟩:=h
 refine ⟨_,(@Yg _ _ _ (@Yo _ _ _ _ (@Wj _ _ _ _ _ _ _ ([none,some 0,some 1]) ((["_law_k","_law_script","_law_many"]:List Str)) _ (YL 0) _ _ (.own (.cap (i:=0) rfl rfl (by first | exact .inl rfl | exact .inr rfl) (.cap (i:=1) rfl rfl (by first | exact .inl rfl | exact .inr rfl) .nil))) rfl (@Xd _ _ _ _ _ _ rfl ZP (@Ya _ _ _ _ _ (@pv _ 1 _ _ (by rfl) (by first | exact .inl rfl | exact .inr (.inl rfl) | exact .inr (.inr rfl)) (by decide) (by decide)) Yc (by rfl)) (by rfl)) (fun cl C s₀ H₀ fp pn=>(@YF _ _ (0) _ (show List.Nodup (["_law_k","_law_script","_law_many"]:List Str) by decide +kernel) rfl (.inl rfl) (.inr rfl))) (fun cl C s₀ H₀ fp pn=>Xs) (fun cl C s₀ H₀ fp pn=>(@Yx _ _ _ _ _ _ _ _ _ _ _ _ F_law_mix hr (@Ya _ _ _ _ _ (@pv _ 1 _ _ (by rfl) (by first | exact .inl rfl | exact .inr (.inl rfl) | exact .inr (.inr rfl)) (by decide) (by decide)) (@Ya _ _ _ _ _ (@Yi _ _ _ _ _ _ _ _ YD (@Yi _ _ _ _ _ _ _ _ YD (@pv _ 2 _ _ (by rfl) (by first | exact .inl rfl | exact .inr (.inl rfl) | exact .inr (.inr rfl)) (by decide) (by decide)) Yf) (@pv _ 0 _ _ (by rfl) (by first | exact .inl rfl | exact .inr (.inl rfl) | exact .inr (.inr rfl)) (by decide) (by decide))) (@Ya _ _ _ _ _ (@pv _ 2 _ _ (by rfl) (by first | exact .inl rfl | exact .inr (.inl rfl) | exact .inr (.inr rfl)) (by decide) (by decide)) Yc (by rfl)) (by rfl)) (by rfl)) (by omega) (by rfl) (by rfl) (by decide) (by rfl) (by rfl))) (by intro x hx;simp at hx;first | (subst hx;exact .inl rfl) | (rcases hx with rfl | rfl<;>exact .inl rfl) | (rcases hx with rfl | rfl | rfl<;>exact .inl rfl) | (rcases hx with rfl | rfl | rfl | rfl<;>exact .inl rfl) | (rcases hx with rfl | rfl | rfl | rfl | rfl<;>exact .inl rfl)) (by rfl) (by decide) (by decide +kernel) (by intro _;rfl)))),?_⟩
 walk_at "rd"
 refine XI (n:=n) (fun D i zs H'=>Yq H H'∧H' D=some (.lst zs)∧∃ xs:List Nat,zs=Vq xs∧(∀ x∈xs,x<2^210)∧xs.length=i) (fun R r=>by walk_at "rd";exact r) (by omega) ?_ ?_ ?_ ?_
 ·intro D hD
  exact ⟨.upd_new hD _,Ye,[],rfl,fun x hx=>absurd hx (by simp),rfl⟩
 ·rintro D i zs H' ⟨sm,hd,xs,rfl,hx,he⟩
  exact ⟨by rw [UP];exact he,hd⟩
 ·rintro D i zs H' hD hi ⟨sm,hd,xs,rfl,hx,he⟩ R r
  walk_at "rd"
  refine ⟨a,ns,n - 1 - i,n,by rw [show (n:Int) - 1 - (i:Int)=((n - 1 - i:Nat):Int) by omega],Yq.seq sm hS,hl,by omega,by omega,hn,fun y H2 hy s2=>r _ _ (s2 _ _ hd) ⟨.upd_over hD (sm.trans s2) _,Ye,xs++[y],by simp [Vq],?_,by rw [List.length_append,he];rfl⟩⟩
  intro x hx'
  rcases List.mem_append.mp hx' with h | h
  ·exact hx x h
  ·rw [List.mem_singleton.mp h];exact hy
 ·rintro D zs H' hD ⟨sm,hd,xs,rfl,hx,he⟩
  exact q D H' ⟨xs,hd,hx,by omega⟩
theorem Xn.new {H:Hp} {D p:Addr} {o:HO} (h:Xn H D) (hp:H p=none):Xn (upd H p o) D:=by
 obtain ⟨xs,h1,h2⟩:=h
 exact ⟨xs,by rw [Yd (Yk h1 hp)];exact h1,h2⟩
def Z1l (K:PySem.W.Frag):Sp:=fun vs H Q _=>∃ (D:Addr),vs=[.ref D]∧Xn H D∧∀ (y:Nat) H',y<2^210→SameBut D H H'→Xn H' D→Q (.int y) H'
theorem Q8 {Z3 Z0 Z1 Za Z5 Z4 Z7 Z9 Z6 Z8 Z2:Addr} (R:g.Raw "_law_next" "_law_next" Z4b ["_law_feed_here"]) (b_len:g.mg "len"=none):g.Fn (1) "_law_next" ["_law_feed_here"] (Z1l g.K):=by
 refine R.fn Q2 (fun vs H Q E h=>by obtain ⟨D,rfl,⟨xs,hD,hx,hl⟩,q⟩:=h;rfl) fun f_ cdv A outer s H vs Q E hr h=>?_
 obtain ⟨D,rfl,⟨xs,hD,hx,hl⟩,q⟩:=h
 refine ⟨_,(@Yh _ _ _ _ _ (@YO _ _ _ _ _ _ _ _ (@Yt _ _ _ _ _ _ _ _ Y4 (@YT _ _ _ _ _ _ _ _ _ _ b_len Yu (@Ya _ _ _ _ _ (@pv _ 0 _ _ (by rfl) (by first | exact .inl rfl | exact .inr (.inl rfl) | exact .inr (.inr rfl)) (by decide) (by decide)) Yc (by rfl)) (by decide +kernel) (by rfl) (by rfl) (by decide) (by decide) (by rfl) (by rfl)) Yf (Yw _)) (@Yg _ _ _ (@Yo _ _ _ _ Yf)) YC) (@Yg _ _ _ (@Yo _ _ _ _ (@YdY _ _ _ _ _ _ _ _ _ PySem.F.plainAttrs_list PySem.F.slot_list_pop PySem.F.type_list_pop YdZ (@pv _ 0 _ _ (by rfl) (by first | exact .inl rfl | exact .inr (.inl rfl) | exact .inr (.inr rfl)) (by decide) (by decide)) (by rfl) (by rfl))))),?_⟩
 walk_at "rd"
 refine ⟨_,.inl (SqL.of hD),?_⟩
 rw [UP]
 refine XB (fun c=>?_) (fun c=>?_)
 ·exact q 0 H (by decide) (.refl _ _) ⟨xs,hD,hx,hl⟩
 ·obtain ⟨ys,y,rfl⟩:∃ ys y,xs=ys++[y]:=⟨xs.dropLast,xs.getLast (by intro e;subst e;exact c rfl),(List.dropLast_concat_getLast _).symm⟩
  refine ⟨.inl ⟨rfl,_,SqL.of hD⟩,D,_,.int y,rfl,rfl,hD,by simp [Vq],?_⟩
  refine q y _ (hx y (by simp)) (SameBut.upd (.refl _ _) _) ⟨ys,?_,fun x h=>hx x (List.mem_append_left _ h),by rw [List.length_append] at hl;omega⟩
  rw [Ye]
  simp [Vq]
def Z2K (K:PySem.W.Frag):Sp:=fun vs H Q _=>∃ (D:Addr),vs=[.ref D]∧Xn H D∧∀ (p:Addr) (lo:Int) (span:Nat) H',SameBut D H H'→Xn H' D→H' p=some (.tup [.str "whole",.int lo,.int (lo+span)])→Q (.ref p) H'
theorem Z55 {k:Nat} {Z3 Z0 Z1 Za Z5 Z4 Z7 Z9 Z6 Z8 Z2:Addr} (R:g.Raw "_law_whole_shape" "_law_whole_shape" Z1I ["_law_feed_here"]) (Z0v:g.Fn k "_law_next" ["_law_feed_here"] (Z1l g.K)) (b_max:g.mg "max"=none):g.Fn (k+1) "_law_whole_shape" ["_law_feed_here"] (Z2K g.K):=by
 refine R.fn Z0d (fun vs H Q E h=>by obtain ⟨D,rfl,hD,q⟩:=h;rfl) fun f_ cdv A outer s H vs Q E hr h=>?_
 obtain ⟨D,rfl,hD,q⟩:=h
 refine ⟨_,(@Yh _ _ _ _ _ (@YA _ _ (1) _ _ _ _ Z0d.nd rfl (.inl rfl) (@Yx _ _ _ _ _ _ _ _ _ _ _ _ Z0v hr (@Ya _ _ _ _ _ (@pv _ 0 _ _ (by rfl) (by first | exact .inl rfl | exact .inr (.inl rfl) | exact .inr (.inr rfl)) (by decide) (by decide)) Yc (by rfl)) (by omega) (by rfl) (by rfl) (by decide) (by rfl) (by rfl)) (by rfl) (by first | exact .inl rfl | exact .inr rfl | assumption)) (@Yh _ _ _ _ _ (@YA _ _ (2) _ _ _ _ Z0d.nd rfl (.inl rfl) (@Yi _ _ _ _ _ _ _ _ YD (@Yi _ _ _ _ _ _ _ _ Y7 (@Yx _ _ _ _ _ _ _ _ _ _ _ _ Z0v hr (@Ya _ _ _ _ _ (@pv _ 0 _ _ (by rfl) (by first | exact .inl rfl | exact .inr (.inl rfl) | exact .inr (.inr rfl)) (by decide) (by decide)) Yc (by rfl)) (by omega) (by rfl) (by rfl) (by decide) (by rfl) (by rfl)) (@Yi _ _ _ _ _ _ _ _ Vu Yf Yf)) (@Yi _ _ _ _ _ _ _ _ Xt Yf (@Yi _ _ _ _ _ _ _ _ Vu Yf Yf))) (by rfl) (by first | exact .inl rfl | exact .inr rfl | assumption)) (@Yh _ _ _ _ _ (@YO _ _ _ _ _ _ _ _ (@Yt _ _ _ _ _ _ _ _ Y4 (@Yi _ _ _ _ _ _ _ _ Y7 (@pv _ 1 _ _ (by rfl) (by first | exact .inl rfl | exact .inr (.inl rfl) | exact .inr (.inr rfl)) (by decide) (by decide)) Yf) Yf (Yw _)) (@Yg _ _ _ (@YA _ _ (2) _ _ _ _ Z0d.nd rfl (.inl rfl) (@Yi _ _ _ _ _ _ _ _ YD (@Yi _ _ _ _ _ _ _ _ Y7 (@Yi _ _ _ _ _ _ _ _ YH (@pv _ 1 _ _ (by rfl) (by first | exact .inl rfl | exact .inr (.inl rfl) | exact .inr (.inr rfl)) (by decide) (by decide)) Yf) Yf) Yf) (by rfl) (by first | exact .inl rfl | exact .inr rfl | assumption))) YC) (@Yh _ _ _ _ _ (@YA _ _ (3) _ _ _ _ Z0d.nd rfl (.inl rfl) (@Yi _ _ _ _ _ _ _ _ Y7 (@Yi _ _ _ _ _ _ _ _ YH (@pv _ 1 _ _ (by rfl) (by first | exact .inl rfl | exact .inr (.inl rfl) | exact .inr (.inr rfl)) (by decide) (by decide)) Yf) Yf) (by rfl) (by first | exact .inl rfl | exact .inr rfl | assumption)) (@Yh _ _ _ _ _ (@YO _ _ _ _ _ _ _ _ (@Yt _ _ _ _ _ _ _ _ Y4 (@Yi _ _ _ _ _ _ _ _ Y7 (@Yi _ _ _ _ _ _ _ _ YH (@pv _ 1 _ _ (by rfl) (by first | exact .inl rfl | exact .inr (.inl rfl) | exact .inr (.inr rfl)) (by decide) (by decide)) Yf) Yf) Yf (Yw _)) (@Yg _ _ _ (@YA _ _ (3) _ _ _ _ Z0d.nd rfl (.inl rfl) (@YT _ _ _ _ _ _ _ _ _ _ b_max (UA rfl) (@Ya _ _ _ _ _ Yf (@Ya _ _ _ _ _ (@Yi _ _ _ _ _ _ _ _ YI (@Yi _ _ _ _ _ _ _ _ YD (@Yi _ _ _ _ _ _ _ _ Qi Yf (@Yi _ _ _ _ _ _ _ _ Y7 (@Yi _ _ _ _ _ _ _ _ YH (@pv _ 1 _ _ (by rfl) (by first | exact .inl rfl | exact .inr (.inl rfl) | exact .inr (.inr rfl)) (by decide) (by decide)) Yf) Yf)) Yf) (@Yi _ _ _ _ _ _ _ _ Y7 (@Yi _ _ _ _ _ _ _ _ YH (@pv _ 1 _ _ (by rfl) (by first | exact .inl rfl | exact .inr (.inl rfl) | exact .inr (.inr rfl)) (by decide) (by decide)) Yf) Yf)) Yc (by rfl)) (by rfl)) (by decide +kernel) (by rfl) (by rfl) (by decide) (by decide) (by rfl) (by rfl)) (by rfl) (by first | exact .inl rfl | exact .inr rfl | assumption))) YC) (@Yh _ _ _ _ _ (@YO _ _ _ _ _ _ _ _ (@Yt _ _ _ _ _ _ _ _ Y4 (@Yi _ _ _ _ _ _ _ _ Y7 (@Yi _ _ _ _ _ _ _ _ YH (@pv _ 1 _ _ (by rfl) (by first | exact .inl rfl | exact .inr (.inl rfl) | exact .inr (.inr rfl)) (by decide) (by decide)) Yf) Yf) Yf (Yw _)) (@Yg _ _ _ (@YA _ _ (3) _ _ _ _ Z0d.nd rfl (.inl rfl) (@Yi _ _ _ _ _ _ _ _ Y7 (@Yx _ _ _ _ _ _ _ _ _ _ _ _ Z0v hr (@Ya _ _ _ _ _ (@pv _ 0 _ _ (by rfl) (by first | exact .inl rfl | exact .inr (.inl rfl) | exact .inr (.inr rfl)) (by decide) (by decide)) Yc (by rfl)) (by omega) (by rfl) (by rfl) (by decide) (by rfl) (by rfl)) (@Yi _ _ _ _ _ _ _ _ Vu Yf Yf)) (by rfl) (by first | exact .inl rfl | exact .inr rfl | assumption))) YC) (@Yg _ _ _ (@Yo _ _ _ _ (@Xg _ _ _ _ _ (@Ya _ _ _ _ _ Y1 (@Ya _ _ _ _ _ (@pv _ 2 _ _ (by rfl) (by first | exact .inl rfl | exact .inr (.inl rfl) | exact .inr (.inr rfl)) (by decide) (by decide)) (@Ya _ _ _ _ _ (@Yi _ _ _ _ _ _ _ _ YI (@pv _ 2 _ _ (by rfl) (by first | exact .inl rfl | exact .inr (.inl rfl) | exact .inr (.inr rfl)) (by decide) (by decide)) (@pv _ 3 _ _ (by rfl) (by first | exact .inl rfl | exact .inr (.inl rfl) | exact .inr (.inr rfl)) (by decide) (by decide))) Yc (by rfl)) (by rfl)) (by rfl))))))))))),?_⟩
 refine cut2 (fun σ H'=>∃ (c:Nat) (lo:Int),σ=[some (.ref D),some (.int c),some (.int lo),none]∧c<2^210∧SameBut D H H'∧Xn H' D) ?_ (fun N hN=>?_)
 rotate_left
 ·walk_at "rd"
  exact ⟨D,rfl,hD,fun c H1 hc s1 f1=>⟨D,rfl,f1,fun y H2 hy s2 f2=>⟨QA,_,rfl,by decide +kernel,QA,.inl (cm (m:=3) (n:=200) (by decide) (by decide +kernel)),hN _ _ ⟨c,_,rfl,hc,s1.trans s2,f2⟩⟩⟩⟩
 rintro σ H1 ⟨c,lo,rfl,hc,s1,f1⟩
 refine Up (fun σ H'=>∃ (lo:Int),σ=[some (.ref D),some (.int c),some (.int lo),none]∧SameBut D H H'∧Xn H' D) ?_ (fun N hN=>?_)
 rotate_left
 ·walk_at "rd"
  exact ⟨by decide,XB (fun _=>⟨YX (by decide) (by decide),by decide,hN _ _ ⟨_,rfl,s1,f1⟩⟩) (fun _=>hN _ _ ⟨_,rfl,s1,f1⟩)⟩
 rintro σ H2 ⟨lo,rfl,s2,f2⟩
 refine Up (fun σ H'=>∃ (n:Nat),σ=[some (.ref D),some (.int c),some (.int lo),some (.int n)]∧SameBut D H H'∧Xn H' D) ?_ (fun N hN=>?_)
 rotate_left
 ·walk_at "rd"
  obtain ⟨r,h1,h2⟩:=X7 ((c:Int) / 21) (j:=9) (by decide)
  exact ⟨YX (by decide) (by decide),by decide,hN _ _ ⟨r,by rw [h1],s2,f2⟩⟩
 rintro σ H3 ⟨n,rfl,s3,f3⟩
 refine Up (fun σ H'=>∃ (n:Nat),σ=[some (.ref D),some (.int c),some (.int lo),some (.int n)]∧SameBut D H H'∧Xn H' D) ?_ (fun N hN=>?_)
 rotate_left
 ·walk_at "rd"
  refine ⟨YX (by decide) (by decide),by decide,XB (fun _=>?_) (fun _=>hN _ _ ⟨n,rfl,s3,f3⟩)⟩
  refine ⟨YX (by decide) (by decide),by decide,⟨by omega,by omega,by decide⟩,YX (by decide) (by decide),by decide,?_⟩
  have e:∀ z:Int,∃ r:Nat,(if z>0 then z else 0)=(r:Int):=fun z=>⟨z.toNat,by split<;>omega⟩
  obtain ⟨r,hr1⟩:=e (1*2^((c:Int) / 756%18).toNat - 2+(c:Int) / 13608%4)
  exact hN _ _ ⟨r,by rw [hr1],s3,f3⟩
 rintro σ H4 ⟨n,rfl,s4,f4⟩
 refine Up (fun σ H'=>∃ (n:Nat),σ=[some (.ref D),some (.int c),some (.int lo),some (.int n)]∧SameBut D H H'∧Xn H' D) ?_ (fun N hN=>?_)
 rotate_left
 ·walk_at "rd"
  refine ⟨YX (by decide) (by decide),by decide,XB (fun _=>?_) (fun _=>hN _ _ ⟨n,rfl,s4,f4⟩)⟩
  refine ⟨D,rfl,f4,fun y H5 hy s5 f5=>⟨QA,_,rfl,by decide +kernel,?_⟩⟩
  obtain ⟨r,h1,h2⟩:=X7 (y:Int) (j:=10^Int.toNat 59) (by decide +kernel)
  exact hN _ _ ⟨r,by rw [h1],s4.trans s5,f5⟩
 rintro σ H5 ⟨n,rfl,s5,f5⟩
 walk_at "rd"
 exact ⟨few (by decide),fun p hp=>q p lo n _ (fun x o h1 h2=>by rw [Yd (Yk (s5 _ _ h1 h2) hp)];exact s5 _ _ h1 h2) (f5.new hp) Ye⟩
theorem UQ:∀ cs:List Nat,U6 [] (cs.map fun c=>[c])=cs
 | []=>rfl
 | [x]=>rfl
 | x::y::r=>by
  have:=UQ (y::r)
  show [x]++[]++U6 [] ((y::r).map fun c=>[c])=_
  rw [this];rfl
theorem Ybs (cs:List Nat):Txt.join ("":Str) (cs.map fun c=>S [c])=S cs:=by
 have:=Yd2 [] (cs.map fun c=>[c])
 rw [List.map_map,UQ] at this
 exact this
abbrev abc:Str:="abcdefghijklmnopqrstuvwxyzABCDEFGHIJKLMNOPQRSTUVWXYZ0123456789"
theorem YdH:abc.length=62:=by decide +kernel
theorem Yce:abc.cps.toList.all (fun c=>decide (c<1000))=true:=by decide +kernel
theorem Yee (x:Int):∃ c,atI abc.cps.toList (x%62)=some c∧c<1000:=by
 obtain ⟨r,h1,h2⟩:=X7 x (j:=62) (by decide)
 rw [h1]
 have hl:abc.cps.toList.length=62:=by decide +kernel
 have h3:abc.cps.toList[r]?=some (abc.cps.toList[r]'(by omega)):=List.getElem?_eq_getElem (by omega)
 exact ⟨_,Yy h3,of_decide_eq_true (List.all_eq_true.mp Yce _ (List.mem_of_getElem? h3))⟩
theorem Yef {l:List Nat} (h:∀ c∈l,c<1000):PyData.strOk (S l)=true:=by
 simp only [PyData.strOk,S,Array.all_eq_true',decide_eq_true_eq]
 intro x hx
 have:=h x (by simpa using hx)
 omega
theorem at6 (n:Nat) (h:n≤62) (h1:1≤n) (x:Int):∃ m:Nat,atI [V.int 1,V.int 2,V.int 3,V.int 5,V.int 62,V.int n] (x%6)=some (.int m)∧m≤62:=by
 have:x%6=0∨x%6=1∨x%6=2∨x%6=3∨x%6=4∨x%6=5:=by omega
 rcases this with h | h | h | h | h | h<;>rw [h]
 ·exact ⟨1,rfl,by omega⟩
 ·exact ⟨2,rfl,by omega⟩
 ·exact ⟨3,rfl,by omega⟩
 ·exact ⟨5,rfl,by omega⟩
 ·exact ⟨62,rfl,by omega⟩
 ·exact ⟨n,rfl,by omega⟩
theorem at5 (x:Int):∃ m:Nat,atI [V.int 1,V.int 61,V.int 3,V.int 13,V.int 25] (x%5)=some (.int m)∧m≤62:=by
 have:x%5=0∨x%5=1∨x%5=2∨x%5=3∨x%5=4:=by omega
 rcases this with h | h | h | h | h<;>rw [h]
 ·exact ⟨1,rfl,by omega⟩
 ·exact ⟨61,rfl,by omega⟩
 ·exact ⟨3,rfl,by omega⟩
 ·exact ⟨13,rfl,by omega⟩
 ·exact ⟨25,rfl,by omega⟩
theorem SameBut.upd_new {D:Addr} {H H':Hp} {p:Addr} (s:SameBut D H H') (hp:H' p=none) (o:HO):SameBut D H (L2.upd H' p o):=fun x u h1 h2=>by rw [Yd (Yk (s _ _ h1 h2) hp)];exact s _ _ h1 h2
def Z2Q (K:PySem.W.Frag):Sp:=fun vs H Q _=>∃ (D:Addr),vs=[.ref D]∧Xn H D∧∀ (p:Addr) (sg:List Nat) H',sg.length≤62→(∀ c∈sg,c<1000)→SameBut D H H'→Xn H' D→H' p=some (.tup [.str "text",.str (S sg)])→Q (.ref p) H'
theorem Z5j {k:Nat} {Z3 Z0 Z1 Za Z5 Z4 Z7 Z9 Z6 Z8 Z2:Addr} (R:g.Raw "_law_text_shape" "_law_text_shape" Z22 ["_law_feed_here"]) (Z0v:g.Fn k "_law_next" ["_law_feed_here"] (Z1l g.K)) (ZP:g.mg "range"=none):g.Fn (k+1) "_law_text_shape" ["_law_feed_here"] (Z2Q g.K):=by
 refine R.fn Z0A (fun vs H Q E h=>by obtain ⟨D,rfl,hD,q⟩:=h;rfl) fun f_ cdv A outer s H vs Q E hr h=>?_
 obtain ⟨D,rfl,hD,q⟩:=h
 refine ⟨_,(@Yh _ _ _ _ _ (@YA _ _ (1) _ _ _ _ Z0A.nd rfl (.inr rfl) Y1 (by rfl) (by first | exact .inl rfl | exact .inr rfl | assumption)) (@Yh _ _ _ _ _ (@YA _ _ (2) _ _ _ _ Z0A.nd rfl (.inl rfl) (@Yx _ _ _ _ _ _ _ _ _ _ _ _ Z0v hr (@Ya _ _ _ _ _ (@pv _ 0 _ _ (by rfl) (by first | exact .inl rfl | exact .inr (.inl rfl) | exact .inr (.inr rfl)) (by decide) (by decide)) Yc (by rfl)) (by omega) (by rfl) (by rfl) (by decide) (by rfl) (by rfl)) (by rfl) (by first | exact .inl rfl | exact .inr rfl | assumption)) (@Yh _ _ _ _ _ (@YA _ _ (3) _ _ _ _ Z0A.nd rfl (.inl rfl) (@YE _ _ _ _ _ _ _ YJ (@Xv _ _ _ _ (@Ya _ _ _ _ _ Yf (@Ya _ _ _ _ _ Yf (@Ya _ _ _ _ _ Yf (@Ya _ _ _ _ _ Yf (@Ya _ _ _ _ _ Yf (@Ya _ _ _ _ _ (@Yi _ _ _ _ _ _ _ _ YI Yf (@Yi _ _ _ _ _ _ _ _ Y7 (@Yi _ _ _ _ _ _ _ _ YH (@pv _ 2 _ _ (by rfl) (by first | exact .inl rfl | exact .inr (.inl rfl) | exact .inr (.inr rfl)) (by decide) (by decide)) Yf) Yf)) Yc (by rfl)) (by rfl)) (by rfl)) (by rfl)) (by rfl)) (by rfl))) (@Yi _ _ _ _ _ _ _ _ Y7 (@pv _ 2 _ _ (by rfl) (by first | exact .inl rfl | exact .inr (.inl rfl) | exact .inr (.inr rfl)) (by decide) (by decide)) Yf) (fun _ _=>rfl)) (by rfl) (by first | exact .inl rfl | exact .inr rfl | assumption)) (@Yh _ _ _ _ _ (@YA _ _ (4) _ _ _ _ Z0A.nd rfl (.inr rfl) (@YE _ _ _ _ _ _ _ YJ (@Xv _ _ _ _ (@Ya _ _ _ _ _ Yf (@Ya _ _ _ _ _ Yf (@Ya _ _ _ _ _ Yf (@Ya _ _ _ _ _ Yf (@Ya _ _ _ _ _ Yf Yc (by rfl)) (by rfl)) (by rfl)) (by rfl)) (by rfl))) (@Yi _ _ _ _ _ _ _ _ Y7 (@Yi _ _ _ _ _ _ _ _ YH (@pv _ 2 _ _ (by rfl) (by first | exact .inl rfl | exact .inr (.inl rfl) | exact .inr (.inr rfl)) (by decide) (by decide)) Yf) Yf) (fun _ _=>rfl)) (by rfl) (by first | exact .inl rfl | exact .inr rfl | assumption)) (@Yh _ _ _ _ _ (@YA _ _ (5) _ _ _ _ Z0A.nd rfl (.inr rfl) (@Yi _ _ _ _ _ _ _ _ Y7 (@Yi _ _ _ _ _ _ _ _ YH (@pv _ 2 _ _ (by rfl) (by first | exact .inl rfl | exact .inr (.inl rfl) | exact .inr (.inr rfl)) (by decide) (by decide)) Yf) Yf) (by rfl) (by first | exact .inl rfl | exact .inr rfl | assumption)) (@Yg _ _ _ (@Yo _ _ _ _ (@Xg _ _ _ _ _ (@Ya _ _ _ _ _ Y1 (@Ya _ _ _ _ _ (@XN _ _ _ _ _ _ _ _ _ _ _ _ PySem.F.plainAttrs_str PySem.F.slot_str_join PySem.F.type_str_join Ydn Y1 (@Ya _ _ _ _ _ (@Wj _ _ _ _ _ _ _ ([none,some 1,some 5,some 4]) ((["_law_k","_law_some","_law_start","_law_step"]:List Str)) _ (YL 0) _ _ (.own (.cap (i:=1) rfl rfl (by first | exact .inl rfl | exact .inr rfl) (.cap (i:=5) rfl rfl (by first | exact .inl rfl | exact .inr rfl) (.cap (i:=4) rfl rfl (by first | exact .inl rfl | exact .inr rfl) .nil)))) rfl (@Xd _ _ _ _ _ _ rfl ZP (@Ya _ _ _ _ _ (@pv _ 3 _ _ (by rfl) (by first | exact .inl rfl | exact .inr (.inl rfl) | exact .inr (.inr rfl)) (by decide) (by decide)) Yc (by rfl)) (by rfl)) (fun cl C s₀ H₀ fp pn=>(@YF _ _ (0) _ (show List.Nodup (["_law_k","_law_some","_law_start","_law_step"]:List Str) by decide +kernel) rfl (.inl rfl) (.inr rfl))) (fun cl C s₀ H₀ fp pn=>Xs) (fun cl C s₀ H₀ fp pn=>(@YE _ _ _ _ _ _ _ YdW (@pv _ 1 _ _ (by rfl) (by first | exact .inl rfl | exact .inr (.inl rfl) | exact .inr (.inr rfl)) (by decide) (by decide)) (@Yi _ _ _ _ _ _ _ _ Y7 (@Yi _ _ _ _ _ _ _ _ YI (@pv _ 2 _ _ (by rfl) (by first | exact .inl rfl | exact .inr (.inl rfl) | exact .inr (.inr rfl)) (by decide) (by decide)) (@Yi _ _ _ _ _ _ _ _ Xt (@pv _ 0 _ _ (by rfl) (by first | exact .inl rfl | exact .inr (.inl rfl) | exact .inr (.inr rfl)) (by decide) (by decide)) (@pv _ 3 _ _ (by rfl) (by first | exact .inl rfl | exact .inr (.inl rfl) | exact .inr (.inr rfl)) (by decide) (by decide)))) Yf) (fun _ _=>rfl))) (by intro x hx;simp at hx;first | (subst hx;exact .inl rfl) | (rcases hx with rfl | rfl<;>exact .inl rfl) | (rcases hx with rfl | rfl | rfl<;>exact .inl rfl) | (rcases hx with rfl | rfl | rfl | rfl<;>exact .inl rfl) | (rcases hx with rfl | rfl | rfl | rfl | rfl<;>exact .inl rfl)) (by rfl) (by decide) (by decide +kernel) (by intro _;rfl)) Yc (by rfl)) (by rfl) (by rfl) (by rfl) (by rfl) (by rfl)) Yc (by rfl)) (by rfl)))))))))),?_⟩
 refine cut2 (fun σ H'=>∃ (c:Nat),σ=[some (.ref D),some (.str abc),some (.int c),none,none,none]∧SameBut D H H'∧Xn H' D) ?_ (fun N hN=>?_)
 rotate_left
 ·walk_at "rd"
  exact ⟨D,rfl,hD,fun c H1 hc s1 f1=>hN _ _ ⟨c,rfl,s1,f1⟩⟩
 rintro σ H1 ⟨c,rfl,s1,f1⟩
 refine Up (fun σ H'=>∃ (m:Nat),σ=[some (.ref D),some (.str abc),some (.int c),some (.int m),none,none]∧m≤62∧SameBut D H H'∧Xn H' D) ?_ (fun N hN=>?_)
 rotate_left
 ·walk_at "rd"
  refine ⟨YX (by decide) (by decide),by decide,few (by decide),fun p hp=>⟨by decide,_,SqL.of Ye,?_⟩⟩
  obtain ⟨r,h1,h2⟩:=X7 ((c:Int) / 6) (j:=62) (by decide)
  rw [h1,show (1:Int)+(r:Int)=((1+r:Nat):Int) by omega]
  obtain ⟨m,hm,hm2⟩:=at6 (1+r) (by omega) (by omega) (c:Int)
  exact ⟨_,hm,hN _ _ ⟨m,rfl,hm2,s1.upd_new hp _,f1.new hp⟩⟩
 rintro σ H2 ⟨m,rfl,hm,s2,f2⟩
 refine cut2 (fun σ H'=>∃ (a b:Nat),σ=[some (.ref D),some (.str abc),some (.int c),some (.int m),some (.int a),some (.int b)]∧a≤62∧SameBut D H H'∧Xn H' D) ?_ (fun N hN=>?_)
 rotate_left
 ·walk_at "rd"
  refine ⟨few (by decide),fun p hp=>⟨YX (by decide) (by decide),by decide,_,SqL.of Ye,?_⟩⟩
  obtain ⟨a,ha,ha2⟩:=at5 ((c:Int) / 372)
  obtain ⟨b,h1,h2⟩:=X7 ((c:Int) / 1860) (j:=62) (by decide)
  exact ⟨_,ha,YX (by decide) (by decide),by decide,hN _ _ ⟨a,b,by rw [h1],ha2,s2.upd_new hp _,f2.new hp⟩⟩
 rintro σ H3 ⟨a,b,rfl,ha,s3,f3⟩
 walk_at "rd"
 refine ⟨rfl,?_⟩
 refine XI (n:=m) (fun F i zs H'=>SameBut D H H'∧Xn H' D∧D≠F∧H' F=some (.lst zs)∧∃ cs:List Nat,zs=cs.map (fun c=>V.str (S [c]))∧cs.length=i∧∀ c∈cs,c<1000) (fun R r=>by walk_at "rd";exact r) (by omega) ?_ ?_ ?_ ?_
 ·intro F hF
  obtain ⟨xs,hx,_⟩:=id f3
  exact ⟨s3.upd_new hF _,f3.new hF,Yk hx hF,Ye,[],rfl,rfl,fun c hc=>by cases hc⟩
 ·rintro F i zs H' ⟨sm,_,_,hd,cs,rfl,he,_⟩
  exact ⟨by rw [List.length_map];exact he,hd⟩
 ·rintro F i zs H' hF hi ⟨sm,ff,nDF,hd,cs,rfl,he,hcs⟩ R r
  walk_at "rd"
  obtain ⟨x,hx,hx1⟩:=Yee ((b:Int)+(i:Int)*(a:Int))
  refine ⟨.inl (cm (m:=8) (n:=8) (by rw [Int.natAbs_natCast];omega) (by rw [Int.natAbs_natCast];omega)),by decide,_,_,x,rfl,rfl,by rw [YdH];exact few (by decide),hx,r _ _ hd ⟨fun y o h1 h2=>?_,?_,nDF,Ye,cs++[x],by rw [List.map_append];rfl,by rw [List.length_append,he];rfl,fun c hc=>?_⟩⟩
  rotate_left
  ·obtain ⟨xs,h1,h2⟩:=ff
   exact ⟨xs,by rw [Yd nDF];exact h1,h2⟩
  ·rcases List.mem_append.mp hc with hc | hc
   ·exact hcs c hc
   ·rw [List.mem_singleton.mp hc];exact hx1
  rw [Yd (Yk (s3 _ _ h1 h2) hF)];exact sm _ _ h1 h2
 ·rintro F zs H' hF ⟨sm,ff,nDF,hd,cs,rfl,he,hcs⟩
  refine ⟨"",F,cs.map fun c=>S [c],rfl,rfl,by rw [List.map_map];exact SqL.of hd,?_,?_⟩
  ·rw [List.map_map,List.length_map,he]
   have:((fun x:Str=>x.length) ∘ fun c=>S [c])=fun _=>1:=by funext c;simp [U5]
   rw [this,List.map_const',List.sum_replicate_nat]
   have:("":Str).length=0:=by decide +kernel
   rw [this];omega
  ·rw [Ybs]
   exact ⟨few (by decide),fun p hp=>q p cs _ (by omega) hcs (sm.upd_new hp _) (ff.new hp) Ye⟩
theorem Vr (f:Nat→Int) {n i:Nat} {x:V} (h:(YR f n)[i]?=some x):∃ z:Int,x = .int z:=by
 obtain ⟨k,_,rfl⟩:=List.mem_map.mp (List.mem_of_getElem? h)
 exact ⟨_,rfl⟩
def Z4H (K:PySem.W.Frag):Sp:=fun vs H Q _=>∃ (a b:Addr) (zs:List V),vs=[.ref a,.ref b]∧H a=some (.lst zs)∧H b=some (.lst zs)∧(∀ (i:Nat) x,zs[i]?=some x→∃ z:Int,x = .int z)∧∀ H',Yq H H'→Q (.bl true) H'
theorem UW {k:Nat} {Z3 Z0 Z1 Za Z5 Z4 Z7 Z9 Z6 Z8 Z2:Addr} (R:g.Raw "_law_counts" "_law_counts" Z31 ["_law_found","_law_due_here"]) (F_law_whole:g.Fn k "_law_whole" ["_law_found"] (Z54)) (Z0u:g.mg "isinstance"=none) (b_len:g.mg "len"=none) (b_list:g.mg "list"=none) (b_zip:g.mg "zip"=none):g.Fn (k+1) "_law_counts" ["_law_found","_law_due_here"] (Z4H g.K):=by
 refine R.fn Z2M (fun vs H Q E h=>by obtain ⟨a,b,zs,rfl,ha,hb,hz,q⟩:=h;rfl) fun f_ cdv A outer s H vs Q E hr h=>?_
 obtain ⟨a,b,zs,rfl,ha,hb,hz,q⟩:=h
 refine ⟨_,(@Yh _ _ _ _ _ (@YO _ _ _ _ _ _ _ _ (@VX _ _ _ _ _ _ _ (@WH _ _ _ _ (@Wg _ _ _ (@YT _ _ _ _ _ _ _ _ _ _ Z0u W0 (@Ya _ _ _ _ _ (@pv _ 0 _ _ (by rfl) (by first | exact .inl rfl | exact .inr (.inl rfl) | exact .inr (.inr rfl)) (by decide) (by decide)) (@Ya _ _ _ _ _ (@Ya2 _ _ _ _ ("list") b_list (by decide +kernel) (by rfl) (by rfl) (by decide) (by decide)) Yc (by rfl)) (by rfl)) (by decide +kernel) (by rfl) (by rfl) (by decide) (by decide) (by rfl) (by rfl)) (by intro _;rfl))) (@Vt _ _ _ _ (@Yt _ _ _ _ _ _ _ _ UY (@YT _ _ _ _ _ _ _ _ _ _ b_len Yu (@Ya _ _ _ _ _ (@pv _ 0 _ _ (by rfl) (by first | exact .inl rfl | exact .inr (.inl rfl) | exact .inr (.inr rfl)) (by decide) (by decide)) Yc (by rfl)) (by decide +kernel) (by rfl) (by rfl) (by decide) (by decide) (by rfl) (by rfl)) (@YT _ _ _ _ _ _ _ _ _ _ b_len Yu (@Ya _ _ _ _ _ (@pv _ 1 _ _ (by rfl) (by first | exact .inl rfl | exact .inr (.inl rfl) | exact .inr (.inr rfl)) (by decide) (by decide)) Yc (by rfl)) (by decide +kernel) (by rfl) (by rfl) (by decide) (by decide) (by rfl) (by rfl)) (Yw _)))).pt (@Yg _ _ _ (@Yo _ _ _ _ Ww)) YC) (@Yh _ _ _ _ _ (@XR _ _ _ _ _ _ _ _ PassesOwn.never rfl (@Ydq _ _ _ _ _ _ _ _ _ rfl b_zip (@Ya _ _ _ _ _ (@pv _ 0 _ _ (by rfl) (by first | exact .inl rfl | exact .inr (.inl rfl) | exact .inr (.inr rfl)) (by decide) (by decide)) (@Ya _ _ _ _ _ (@pv _ 1 _ _ (by rfl) (by first | exact .inl rfl | exact .inr (.inl rfl) | exact .inr (.inr rfl)) (by decide) (by decide)) Yc (by rfl)) (by rfl)) (by rfl) (by rfl)) (@VY _ _ _ _ _ (2) rfl (@XQ _ _ _ _ _ (@YF _ _ (2) _ Z2M.nd rfl (.inl rfl) (by first | exact .inl rfl | exact .inr rfl | assumption)) (@XQ _ _ _ _ _ (@YF _ _ (3) _ Z2M.nd rfl (.inl rfl) (by first | exact .inl rfl | exact .inr rfl | assumption)) VI (by rfl)) (by rfl)) (by rfl) (by rfl)) (@Yg _ _ _ (@YO _ _ _ _ _ _ _ _ (@VX _ _ _ _ _ _ _ (@WH _ _ _ _ (@Wg _ _ _ (@Yx _ _ _ _ _ _ _ _ _ _ _ _ F_law_whole hr (@Ya _ _ _ _ _ (@pv _ 2 _ _ (by rfl) (by first | exact .inl rfl | exact .inr (.inl rfl) | exact .inr (.inr rfl)) (by decide) (by decide)) Yc (by rfl)) (by omega) (by rfl) (by rfl) (by decide) (by rfl) (by rfl)) (by intro _;rfl))) (@Vt _ _ _ _ (@Yt _ _ _ _ _ _ _ _ UY (@pv _ 2 _ _ (by rfl) (by first | exact .inl rfl | exact .inr (.inl rfl) | exact .inr (.inr rfl)) (by decide) (by decide)) (@pv _ 3 _ _ (by rfl) (by first | exact .inl rfl | exact .inr (.inl rfl) | exact .inr (.inr rfl)) (by decide) (by decide)) (Yw _)))).pt (@Yg _ _ _ (@Yo _ _ _ _ Ww)) YC)) (by intro _;rfl)) (@Yg _ _ _ (@Yo _ _ _ _ Ww)))),?_⟩
 walk_at "rd"
 refine ⟨_,rfl,_,.lst ha,true,rfl,YW (by decide) ⟨_,.inl (SqL.of ha),_,.inl (SqL.of hb),YW (fun h=>h rfl) ?_⟩⟩
 refine Yb0 (K:=g.K) 2 3 (xs:=zs) (ys:=zs) (fun a' b' n σ H'=>a'=a∧b'=b∧(∃ o2 o3,σ=[some (.ref a),some (.ref b),o2,o3])∧Yq H H') (fun R r=>by walk_at "rd";exact r a b H ⟨rfl,rfl,⟨_,_,rfl⟩,.refl _⟩) (fun a' b' n σ H' _ ⟨e1,e2,_,s⟩=>by subst e1 e2;exact ⟨SqL.of (s _ _ ha),SqL.of (s _ _ hb)⟩) ?_ ?_
 ·rintro a' b' n x y σ H' T hx hy ⟨rfl,rfl,⟨o2,o3,rfl⟩,s1⟩ hT
  obtain ⟨z,rfl⟩:=hz n x hx
  rw [hx] at hy
  cases hy
  walk_at "rd"
  exact ⟨z,rfl,_,rfl,YW (by decide) (s1.trans (.upd_new hT _))⟩
 ·rintro a' b' σ H' ⟨rfl,rfl,⟨o2,o3,rfl⟩,s1⟩
  walk_at "rd"
  exact q H' s1
def nT:List Nat:=[116,114,101,101]
def nO:List Nat:=[111,110,101]
theorem YcZ:S nO=("one":Str):=by decide +kernel
def nW:List Nat:=[116,119,111]
theorem S_two:S nW=("two":Str):=by decide +kernel
theorem YaD {D:Addr} {H H':Hp} (s:SameBut D H H') {xs:List V} (h:H D=some (.lst xs)):Wr H H':=WM s h (by intro xs z;cases z) (by intro o v z;cases z)
theorem Xn.lst {H:Hp} {D:Addr} (h:Xn H D):∃ xs,H D=some (.lst xs):=by
 obtain ⟨xs,h,_⟩:=h
 exact ⟨_,h⟩
theorem dk_w {K:PySem.W.Frag} {H:Hp} {p:Addr} {lo:Int} {span:Nat} (h:H p=some (.tup [.str "whole",.int lo,.int (lo+span)])):DK K H p (kd (.w lo span)):=by
 refine ⟨?_,XO _,by simp [kd,PyData.depth,PyData.depthAll]⟩
 rw [kd]
 exact .tup (SqT.of h) (.cons (.str _ (by decide +kernel)) (.cons (.int _) (.cons (.int _) .nil)))
theorem dk_t {K:PySem.W.Frag} {H:Hp} {p:Addr} {sg:List Nat} (h:H p=some (.tup [.str "text",.str (S sg)])) (hs:∀ c∈sg,c<1000):DK K H p (kd (.t sg)):=by
 refine ⟨?_,XO _,by simp [kd,PyData.depth,PyData.depthAll]⟩
 rw [kd]
 exact .tup (SqT.of h) (.cons (.str _ (by decide +kernel)) (.cons (.str _ (Yef hs)) .nil))
def Z5v (K:PySem.W.Frag):Sp:=fun vs H Q _=>∃ (D:Addr),vs=[.ref D]∧Xn H D∧∀ (p:Addr) (sh:Sh) H',VU sh→SameBut D H H'→Xn H' D→DK K H' p (kd sh)→Q (.ref p) H'
theorem Q9 {k:Nat} {Z3 Z0 Z1 Za Z5 Z4 Z7 Z9 Z6 Z8 Z2:Addr} (R:g.Raw "_law_leaf" "_law_leaf" Z4c ["_law_feed_here"]) (Z0v:g.Fn k "_law_next" ["_law_feed_here"] (Z1l g.K)) (Z5k:g.Fn k "_law_whole_shape" ["_law_feed_here"] (Z2K g.K)) (Z5A:g.Fn k "_law_text_shape" ["_law_feed_here"] (Z2Q g.K)):g.Fn (k+1) "_law_leaf" ["_law_feed_here"] (Z5v g.K):=by
 refine R.fn Q3 (fun vs H Q E h=>by obtain ⟨D,rfl,hD,q⟩:=h;rfl) fun f_ cdv A outer s H vs Q E hr h=>?_
 obtain ⟨D,rfl,hD,q⟩:=h
 refine ⟨_,(@Yh _ _ _ _ _ (@YO _ _ _ _ _ _ _ _ (@Yt _ _ _ _ _ _ _ _ Y4 (@Yi _ _ _ _ _ _ _ _ Y7 (@Yx _ _ _ _ _ _ _ _ _ _ _ _ Z0v hr (@Ya _ _ _ _ _ (@pv _ 0 _ _ (by rfl) (by first | exact .inl rfl | exact .inr (.inl rfl) | exact .inr (.inr rfl)) (by decide) (by decide)) Yc (by rfl)) (by omega) (by rfl) (by rfl) (by decide) (by rfl) (by rfl)) Yf) Yf (Yw _)) (@Yg _ _ _ (@Yo _ _ _ _ (@Yx _ _ _ _ _ _ _ _ _ _ _ _ Z5k hr (@Ya _ _ _ _ _ (@pv _ 0 _ _ (by rfl) (by first | exact .inl rfl | exact .inr (.inl rfl) | exact .inr (.inr rfl)) (by decide) (by decide)) Yc (by rfl)) (by omega) (by rfl) (by rfl) (by decide) (by rfl) (by rfl)))) YC) (@Yg _ _ _ (@Yo _ _ _ _ (@Yx _ _ _ _ _ _ _ _ _ _ _ _ Z5A hr (@Ya _ _ _ _ _ (@pv _ 0 _ _ (by rfl) (by first | exact .inl rfl | exact .inr (.inl rfl) | exact .inr (.inr rfl)) (by decide) (by decide)) Yc (by rfl)) (by omega) (by rfl) (by rfl) (by decide) (by rfl) (by rfl))))),?_⟩
 walk_at "rd"
 refine ⟨D,rfl,hD,fun y H1 hy s1 f1=>⟨_,rfl,by decide,XB (fun _=>?_) (fun _=>?_)⟩⟩
 ·exact ⟨D,rfl,f1,fun p lo span H2 s2 f2 h2=>q p (.w lo span) H2 trivial (s1.trans s2) f2 (dk_w h2)⟩
 ·exact ⟨D,rfl,f1,fun p sg H2 hl hc s2 f2 h2=>q p (.t sg) H2 hl (s1.trans s2) f2 (dk_t h2 hc)⟩
theorem Wf {sh:Sh} (h:VU sh):(kd sh).depth≤1:=by
 cases sh with
 | w lo span=>simp [kd,PyData.depth,PyData.depthAll]
 | t sg=>simp [kd,PyData.depth,PyData.depthAll]
 | _=>cases h
def Wn (prs:Prs) (sh:Sh):Prop:=okS prs sh∧dep sh≤1∧wt sh≤3∧(kd sh).depth≤4
theorem Ycf {prs:Prs} {sh:Sh} (h:VU sh):Wn prs sh:=⟨Wb h,by rw [XV h];omega,by rw [Wc h];omega,by have:=Wf h;omega⟩
def Z5w (K:PySem.W.Frag):Sp:=fun vs H Q _=>∃ (D:Addr),vs=[.ref D]∧Xn H D∧∀ (p:Addr) (sh:Sh) H',Wn [] sh→SameBut D H H'→Xn H' D→DK K H' p (kd sh)→Q (.ref p) H'
theorem Yaa {k:Nat} {Z3 Z0 Z1 Za Z5 Z4 Z7 Z9 Z6 Z8 Z2:Addr} (R:g.Raw "_law_part" "_law_part" Z4d ["_law_feed_here"]) (Z0v:g.Fn k "_law_next" ["_law_feed_here"] (Z1l g.K)) (Z1F:g.Fn k "_law_leaf" ["_law_feed_here"] (Z5v g.K)):g.Fn (k+1) "_law_part" ["_law_feed_here"] (Z5w g.K):=by
 refine R.fn Z5q (fun vs H Q E h=>by obtain ⟨D,rfl,hD,q⟩:=h;rfl) fun f_ cdv A outer s H vs Q E hr h=>?_
 obtain ⟨D,rfl,hD,q⟩:=h
 refine ⟨_,(@Yh _ _ _ _ _ (@YA _ _ (1) _ _ _ _ Z5q.nd rfl (.inl rfl) (@Yi _ _ _ _ _ _ _ _ Y7 (@Yx _ _ _ _ _ _ _ _ _ _ _ _ Z0v hr (@Ya _ _ _ _ _ (@pv _ 0 _ _ (by rfl) (by first | exact .inl rfl | exact .inr (.inl rfl) | exact .inr (.inr rfl)) (by decide) (by decide)) Yc (by rfl)) (by omega) (by rfl) (by rfl) (by decide) (by rfl) (by rfl)) Yf) (by rfl) (by first | exact .inl rfl | exact .inr rfl | assumption)) (@Yh _ _ _ _ _ (@YO _ _ _ _ _ _ _ _ (@Yt _ _ _ _ _ _ _ _ Y4 (@pv _ 1 _ _ (by rfl) (by first | exact .inl rfl | exact .inr (.inl rfl) | exact .inr (.inr rfl)) (by decide) (by decide)) Yf (Yw _)) (@Yg _ _ _ (@Yo _ _ _ _ (@Xg _ _ _ _ _ (@Ya _ _ _ _ _ Y1 (@Ya _ _ _ _ _ (@Xg _ _ _ _ _ (@Ya _ _ _ _ _ (@Xg _ _ _ _ _ (@Ya _ _ _ _ _ Y1 (@Ya _ _ _ _ _ (@Yx _ _ _ _ _ _ _ _ _ _ _ _ Z1F hr (@Ya _ _ _ _ _ (@pv _ 0 _ _ (by rfl) (by first | exact .inl rfl | exact .inr (.inl rfl) | exact .inr (.inr rfl)) (by decide) (by decide)) Yc (by rfl)) (by omega) (by rfl) (by rfl) (by decide) (by rfl) (by rfl)) Yc (by rfl)) (by rfl))) (@Ya _ _ _ _ _ (@Xg _ _ _ _ _ (@Ya _ _ _ _ _ Y1 (@Ya _ _ _ _ _ (@Yx _ _ _ _ _ _ _ _ _ _ _ _ Z1F hr (@Ya _ _ _ _ _ (@pv _ 0 _ _ (by rfl) (by first | exact .inl rfl | exact .inr (.inl rfl) | exact .inr (.inr rfl)) (by decide) (by decide)) Yc (by rfl)) (by omega) (by rfl) (by rfl) (by decide) (by rfl) (by rfl)) Yc (by rfl)) (by rfl))) Yc (XH _ _ _ _ _)) (XH _ _ _ _ _))) Yc (XH _ _ _ _ _)) (by rfl))))) YC) (@Yh _ _ _ _ _ (@YO _ _ _ _ _ _ _ _ (@Yt _ _ _ _ _ _ _ _ Y4 (@pv _ 1 _ _ (by rfl) (by first | exact .inl rfl | exact .inr (.inl rfl) | exact .inr (.inr rfl)) (by decide) (by decide)) Yf (Yw _)) (@Yg _ _ _ (@Yo _ _ _ _ (@Xg _ _ _ _ _ (@Ya _ _ _ _ _ Y1 (@Ya _ _ _ _ _ (@Xg _ _ _ _ _ (@Ya _ _ _ _ _ (@Yx _ _ _ _ _ _ _ _ _ _ _ _ Z1F hr (@Ya _ _ _ _ _ (@pv _ 0 _ _ (by rfl) (by first | exact .inl rfl | exact .inr (.inl rfl) | exact .inr (.inr rfl)) (by decide) (by decide)) Yc (by rfl)) (by omega) (by rfl) (by rfl) (by decide) (by rfl) (by rfl)) (@Ya _ _ _ _ _ (@Yx _ _ _ _ _ _ _ _ _ _ _ _ Z1F hr (@Ya _ _ _ _ _ (@pv _ 0 _ _ (by rfl) (by first | exact .inl rfl | exact .inr (.inl rfl) | exact .inr (.inr rfl)) (by decide) (by decide)) Yc (by rfl)) (by omega) (by rfl) (by rfl) (by decide) (by rfl) (by rfl)) Yc (by rfl)) (by rfl))) Yc (XH _ _ _ _ _)) (by rfl))))) YC) (@Yh _ _ _ _ _ (@YO _ _ _ _ _ _ _ _ (@Yt _ _ _ _ _ _ _ _ Y4 (@pv _ 1 _ _ (by rfl) (by first | exact .inl rfl | exact .inr (.inl rfl) | exact .inr (.inr rfl)) (by decide) (by decide)) Yf (Yw _)) (@Yg _ _ _ (@Yo _ _ _ _ (@Xg _ _ _ _ _ (@Ya _ _ _ _ _ Y1 (@Ya _ _ _ _ _ (@Yx _ _ _ _ _ _ _ _ _ _ _ _ Z1F hr (@Ya _ _ _ _ _ (@pv _ 0 _ _ (by rfl) (by first | exact .inl rfl | exact .inr (.inl rfl) | exact .inr (.inr rfl)) (by decide) (by decide)) Yc (by rfl)) (by omega) (by rfl) (by rfl) (by decide) (by rfl) (by rfl)) Yc (by rfl)) (by rfl))))) YC) (@Yg _ _ _ (@Yo _ _ _ _ (@Yx _ _ _ _ _ _ _ _ _ _ _ _ Z1F hr (@Ya _ _ _ _ _ (@pv _ 0 _ _ (by rfl) (by first | exact .inl rfl | exact .inr (.inl rfl) | exact .inr (.inr rfl)) (by decide) (by decide)) Yc (by rfl)) (by omega) (by rfl) (by rfl) (by decide) (by rfl) (by rfl)))))))),?_⟩
 walk_at "rd"
 refine ⟨D,rfl,hD,fun y H1 hy s1 f1=>⟨_,rfl,by decide,XB (fun _=>?_) (fun _=>XB (fun _=>?_) (fun _=>XB (fun _=>?_) (fun _=>?_)))⟩⟩
 ·refine ⟨D,rfl,f1,fun p1 q1 H2 l1 s2 f2 d1=>⟨few (by decide),fun t1 g1=>?_⟩⟩
  have w1:=Yq.upd_new g1 (.tup [.str "one",.ref p1])
  refine ⟨D,rfl,f2.new g1,fun p2 q2 H3 l2 s3 f3 d2=>⟨few (by decide),fun t2 g2=>⟨few (by decide),fun t3 g3=>⟨few (by decide),fun t4 g4=>?_⟩⟩⟩⟩
  have w2:=Yq.upd_new g2 (.tup [.str "two",.ref p2])
  have w3:=Yq.upd_new g3 (.tup [.ref t1,.ref t2])
  have w4:=Yq.upd_new g4 (.tup [.str "pick",.ref t3])
  obtain ⟨zs,hz⟩:=(f2.new (o := .tup [.str "one",.ref p1]) g1).lst
  have tk:=YaD s3 hz
  have nt1:t1≠D:=XD Ye hz (by intro z;cases z)
  have e1:H3 t1=some (.tup [.str "one",.ref p1]):=s3 _ _ nt1 Ye
  have d1':=((d1.keep w1).tupk tk).keep ((w2.trans w3).trans w4)
  have d2':=d2.keep ((w2.trans w3).trans w4)
  have hok:okS [] (.pick [nO,nW] [q1,q2]):=by
   rw [okS]
   exact ⟨rfl,(by simp:[q1,q2].length≤100),by rw [Xm,Xm,Xm];exact ⟨Wb l1,Wb l2,trivial⟩⟩
  have k1:=Wf l1
  have k2:=Wf l2
  have hdep:(kd (.pick [nO,nW] [q1,q2])).depth≤4:=by
   simp only [kd,kdp,PyData.depth,PyData.depthAll]
   omega
  refine q t4 (.pick [nO,nW] [q1,q2]) _ ⟨hok,?_,?_,hdep⟩ (fun z o hz1 e=>?_) (((f3.new g2).new g3).new g4) ⟨?_,XO _,by omega⟩
  ·simp only [dep,YQ,XV l1,XV l2];decide
  ·simp only [wt,wts,Wc l1,Wc l2];decide
  ·exact ((w2.trans w3).trans w4) _ _ (s3 _ _ hz1 (w1 _ _ (s2 _ _ hz1 (s1 _ _ hz1 e))))
  ·simp only [kd,kdp]
   rw [YcZ,S_two]
   exact .tup (SqT.of Ye) (.cons (.str _ (by decide +kernel)) (.cons (.tup (SqT.of (w4 _ _ Ye)) (.cons (.tup (SqT.of (((w2.trans w3).trans w4) _ _ e1)) (.cons (.str _ (by decide +kernel)) (.cons d1'.den .nil))) (.cons (.tup (SqT.of ((w3.trans w4) _ _ Ye)) (.cons (.str _ (by decide +kernel)) (.cons d2'.den .nil))) .nil))) .nil))
 ·refine ⟨D,rfl,f1,fun p1 q1 H2 l1 s2 f2 d1=>⟨D,rfl,f2,fun p2 q2 H3 l2 s3 f3 d2=>⟨few (by decide),fun t1 g1=>⟨few (by decide),fun t2 g2=>?_⟩⟩⟩⟩
  have w1:=Yq.upd_new g1 (.tup [.ref p1,.ref p2])
  have w2:=Yq.upd_new g2 (.tup [.str "row",.ref t1])
  obtain ⟨zs,hz⟩:=f2.lst
  have d1':=((d1.tupk (YaD s3 hz)).keep w1).keep w2
  have d2':=(d2.keep w1).keep w2
  have hok:okS [] (.row [q1,q2]):=by
   rw [okS]
   exact ⟨(by simp:[q1,q2].length≤100),by rw [Xm,Xm,Xm];exact ⟨Wb l1,Wb l2,trivial⟩⟩
  have k1:=Wf l1
  have k2:=Wf l2
  have hdep:(kd (.row [q1,q2])).depth≤4:=by
   simp only [kd,kds,PyData.depth,PyData.depthAll]
   omega
  refine q t2 (.row [q1,q2]) _ ⟨hok,?_,?_,hdep⟩ (fun z o hz1 e=>w2 _ _ (w1 _ _ (s3 _ _ hz1 (s2 _ _ hz1 (s1 _ _ hz1 e))))) ((f3.new g1).new g2) ⟨?_,XO _,by omega⟩
  ·simp only [dep,YQ,XV l1,XV l2];decide
  ·simp only [wt,wts,Wc l1,Wc l2];decide
  ·simp only [kd,kds]
   exact .tup (SqT.of Ye) (.cons (.str _ (by decide +kernel)) (.cons (.tup (SqT.of (w2 _ _ Ye)) (.cons d1'.den (.cons d2'.den .nil))) .nil))
 ·refine ⟨D,rfl,f1,fun p1 q1 H2 l1 s2 f2 d1=>⟨few (by decide),fun t1 g1=>?_⟩⟩
  have w1:=Yq.upd_new g1 (.tup [.str "many",.ref p1])
  have k1:=Wf l1
  have hdep:(kd (.many q1)).depth≤4:=by
   simp only [kd,PyData.depth,PyData.depthAll]
   omega
  refine q t1 (.many q1) _ ⟨by rw [okS];exact Wb l1,by simp only [dep,XV l1];decide,by simp only [wt,Wc l1];decide,hdep⟩ (fun z o hz1 e=>w1 _ _ (s2 _ _ hz1 (s1 _ _ hz1 e))) (f2.new g1) ⟨?_,XO _,by omega⟩
  rw [kd]
  exact .tup (SqT.of Ye) (.cons (.str _ (by decide +kernel)) (.cons (d1.keep w1).den .nil))
 ·exact ⟨D,rfl,f1,fun p1 q1 H2 l1 s2 f2 d1=>q p1 q1 H2 (Ycf l1) (s1.trans s2) f2 d1⟩
def Z56:Sp:=fun vs H Q _=>∃ (bags:Bool) (n k:Nat) (b:Nat),vs=[.bl bags,.int n,.int k]∧k≤60∧b≤90000∧n<2^b∧Q (.int (chI (!bags) n k)) H
theorem QU {Z3 Z0 Z1 Za Z5 Z4 Z7 Z9 Z6 Z8 Z2:Addr} (R:g.Raw "_law_among" "_law_among" Z3n ["_law_bags","_law_many","_law_chosen"]) (ZP:g.mg "range"=none):g.Fn (1) "_law_among" ["_law_bags","_law_many","_law_chosen"] (Z56):=by
 refine R.fn Z1y (fun vs H Q E h=>by obtain ⟨bags,n,k,b,rfl,hk,hb,hn,q⟩:=h;rfl) fun f_ cdv A outer s H vs Q E hr h=>?_
 obtain ⟨bags,n,k,b,rfl,hk,hb,hn,q⟩:=h
 refine ⟨_,(@Yh _ _ _ _ _ (@YA _ _ (3) _ _ _ _ Z1y.nd rfl (.inl rfl) Yf (by rfl) (by first | exact .inl rfl | exact .inr rfl | assumption)) (@Yh _ _ _ _ _ (@XR _ _ _ _ _ _ _ _ PassesOwn.never rfl (@Xd _ _ _ _ _ _ rfl ZP (@Ya _ _ _ _ _ (@pv _ 2 _ _ (by rfl) (by first | exact .inl rfl | exact .inr (.inl rfl) | exact .inr (.inr rfl)) (by decide) (by decide)) Yc (by rfl)) (by rfl)) (@YF _ _ (4) _ Z1y.nd rfl (.inl rfl) (by first | exact .inl rfl | exact .inr rfl | assumption)) (@Yg _ _ _ (@YO _ _ _ _ _ _ _ _ (@Wg _ _ _ (@pv _ 0 _ _ (by rfl) (by first | exact .inl rfl | exact .inr (.inl rfl) | exact .inr (.inr rfl)) (by decide) (by decide)) (by intro _;rfl)) (@Yg _ _ _ (@YA _ _ (3) _ _ _ _ Z1y.nd rfl (.inl rfl) (@Yi _ _ _ _ _ _ _ _ YH (@Yi _ _ _ _ _ _ _ _ Xt (@pv _ 3 _ _ (by rfl) (by first | exact .inl rfl | exact .inr (.inl rfl) | exact .inr (.inr rfl)) (by decide) (by decide)) (@Yi _ _ _ _ _ _ _ _ YI (@pv _ 1 _ _ (by rfl) (by first | exact .inl rfl | exact .inr (.inl rfl) | exact .inr (.inr rfl)) (by decide) (by decide)) (@pv _ 4 _ _ (by rfl) (by first | exact .inl rfl | exact .inr (.inl rfl) | exact .inr (.inr rfl)) (by decide) (by decide)))) (@Yi _ _ _ _ _ _ _ _ YI (@pv _ 4 _ _ (by rfl) (by first | exact .inl rfl | exact .inr (.inl rfl) | exact .inr (.inr rfl)) (by decide) (by decide)) Yf)) (by rfl) (by first | exact .inl rfl | exact .inr rfl | assumption))) (@Yg _ _ _ (@YA _ _ (3) _ _ _ _ Z1y.nd rfl (.inl rfl) (@Yi _ _ _ _ _ _ _ _ YH (@Yi _ _ _ _ _ _ _ _ Xt (@pv _ 3 _ _ (by rfl) (by first | exact .inl rfl | exact .inr (.inl rfl) | exact .inr (.inr rfl)) (by decide) (by decide)) (@Yi _ _ _ _ _ _ _ _ YD (@pv _ 1 _ _ (by rfl) (by first | exact .inl rfl | exact .inr (.inl rfl) | exact .inr (.inr rfl)) (by decide) (by decide)) (@pv _ 4 _ _ (by rfl) (by first | exact .inl rfl | exact .inr (.inl rfl) | exact .inr (.inr rfl)) (by decide) (by decide)))) (@Yi _ _ _ _ _ _ _ _ YI (@pv _ 4 _ _ (by rfl) (by first | exact .inl rfl | exact .inr (.inl rfl) | exact .inr (.inr rfl)) (by decide) (by decide)) Yf)) (by rfl) (by first | exact .inl rfl | exact .inr rfl | assumption))))) (by intro _;rfl)) (@Yg _ _ _ (@Yo _ _ _ _ (@pv _ 3 _ _ (by rfl) (by first | exact .inl rfl | exact .inr (.inl rfl) | exact .inr (.inr rfl)) (by decide) (by decide)))))),?_⟩
 walk_at "rd"
 refine XJ (n:=k) (fun i σ H'=>∃ o,σ=[some (.bl bags),some (.int n),some (.int k),some (.int (chI (!bags) n i)),o]∧H'=H) (fun R r=>by walk_at "rd";exact r) (by omega) ⟨none,?_,rfl⟩ ?_ ?_
 ·unfold chI
  rw [Int.toNat_natCast]
  cases bags<;>simp [X5,WE]
 ·rintro i σ H' hi ⟨o,rfl,rfl⟩
  walk_at "rd"
  have hB:sB (n:Int):=⟨by omega,b,hb,by rw [Int.toNat_natCast];exact hn⟩
  obtain ⟨e,he,hx⟩:=QJ (un := !bags) (k:=i) hB (by omega)
  have h256:=VM hn
  cases bags with
  | true =>
   rw [if_pos rfl]
   refine ⟨.inl (cm hx (n:=b+8) (by omega) (by omega)),YX (by omega) (by omega),?_⟩
   show ((bg (n:Int).toNat i:Nat):Int)*_ / _=((bg (n:Int).toNat (i+1):Nat):Int)
   rw [Int.toNat_natCast]
   exact Ydz n i
  | false =>
   rw [if_neg (by decide)]
   refine ⟨.inl (cm hx (n:=b+8) (by omega) (by omega)),YX (by omega) (by omega),?_⟩
   show ((ch (n:Int).toNat i:Nat):Int)*_ / _=((ch (n:Int).toNat (i+1):Nat):Int)
   rw [Int.toNat_natCast]
   exact Yas n i
 ·rintro σ H' ⟨o,rfl,rfl⟩
  walk_at "rd"
  exact q
def sg (n:Nat) (f:Nat→Int):Int:=((List.range n).map f).sum
theorem Xu (f:Nat→Int):sg 0 f=0:=rfl
theorem YN (n:Nat) (f:Nat→Int):sg (n+1) f=sg n f+f n:=by simp [sg,List.range_succ]
theorem Xp {n:Nat} {f g:Nat→Int} (h:∀ i,i<n→f i=g i):sg n f=sg n g:=by
 unfold sg
 rw [List.map_congr_left fun i hi=>h i (List.mem_range.mp hi)]
theorem Yeg (n:Nat) (f g:Nat→Int):sg n (fun i=>f i+g i)=sg n f+sg n g:=by
 induction n with
 | zero=>rfl
 | succ n ih=>rw [YN,YN,YN,ih];omega
theorem Ycg (n:Nat) (c:Int) (f:Nat→Int):sg n (fun i=>c*f i)=c*sg n f:=by
 induction n with
 | zero=>rw [Xu,Xu,Int.mul_zero]
 | succ n ih=>rw [YN,YN,ih,Int.mul_add]
theorem YdI (n:Nat) (c:Int) (f:Nat→Int):sg n (fun i=>f i*c)=sg n f*c:=by
 rw [Int.mul_comm,← Ycg]
 exact Xp fun i _=>Int.mul_comm _ _
theorem YcI (n:Nat) (f:Nat→Int):sg (n+1) f=f 0+sg n fun i=>f (i+1):=by
 induction n with
 | zero=>rw [YN,Xu,Xu];omega
 | succ n ih=>rw [YN,ih,YN];omega
def Vs (k:Nat):Int:=if k=0 then 1 else 0
theorem Ybt (n:Nat):YR Vs (n+1)=[V.int 1]++List.replicate n (.int 0):=by
 induction n with
 | zero=>rfl
 | succ n ih=>rw [Y2,ih,List.append_assoc,List.replicate_succ',Vs,if_neg (by omega)]
theorem QV (n:Nat):sg n (fun _=>0)=0:=by
 induction n with
 | zero=>rfl
 | succ n ih=>rw [YN,ih];rfl
theorem YdJ (A B:Nat) (X:Nat→Nat→Int):sg A (fun t=>sg B fun k=>X t k)=sg B fun k=>sg A fun t=>X t k:=by
 induction A with
 | zero=>rw [Xu,Xp (g:=fun _=>0) (fun i _=>Xu _),QV]
 | succ A ih=>rw [YN,ih,← Yeg];exact Xp fun i _=>(YN _ _).symm
theorem YaE (h:Nat→Int) {k:Nat}:∀ s:Nat,k≤s→sg (s+1) (fun t=>if k≤t then h (t - k) else 0)=sg (s - k+1) h
 | 0,hk=>by
  have:k=0:=by omega
  subst this
  rfl
 | s+1,hk=>by
  rw [YN,if_pos hk]
  by_cases c:k≤s
  ·rw [YaE h s c,show s+1 - k=s - k+1 by omega,YN (s - k+1)]
  ·have:k=s+1:=by omega
   subst this
   rw [Xp (g:=fun _=>0) (fun i hi=>if_neg (by omega)),QV,Nat.sub_self,YN,Xu]
theorem YaF (F:Nat→Nat→Int) {q:Nat} (hq:0<q):∀ u:Nat,sg (u+1) (fun d=>if d%q=0 then F (d / q) d else 0)=sg (u / q+1) fun m=>F m (m*q)
 | 0=>by
  rw [YN,Xu,Nat.zero_div,YN,Xu,if_pos (Nat.zero_mod q),Nat.zero_mul]
 | u+1=>by
  rw [YN,YaF F hq u]
  by_cases c:(u+1)%q=0
  ·have e:(u+1) / q=u / q+1:=by rw [Nat.succ_div,if_pos (Nat.dvd_of_mod_eq_zero c)]
   have e2:(u / q+1)*q=u+1:=by rw [← e];exact Nat.div_mul_cancel (Nat.dvd_of_mod_eq_zero c)
   rw [if_pos c,e,YN (u / q+1),e2]
  ·have e:(u+1) / q=u / q:=by rw [Nat.succ_div,if_neg (fun z=>c (Nat.mod_eq_zero_of_dvd z))];rfl
   rw [if_neg c,e,Int.add_zero]
theorem QW (un:Bool) (x:Int):chI un x 0=1:=by unfold chI;rw [X5,WE];cases un<;>rfl
theorem Ych (un:Bool) (c:Nat→Int) (l t:Nat):wy un c l t=sg (t / (l+1)+1) fun m=>chI un (c l) m*wy un c (l+1) (t - m*(l+1)):=by
 by_cases h:l<t
 ·rw [W9 h];rfl
 ·by_cases h0:t=0
  ·subst h0
   rw [XX,Nat.zero_div,YN,Xu,QW,Nat.zero_mul,Nat.sub_zero,XX];rfl
  ·rw [X8 (by omega) (by omega),Nat.div_eq_of_lt (by omega),YN,Xu,QW,Nat.zero_mul,Nat.sub_zero,X8 (by omega) (by omega)];rfl
def wz (un:Bool) (c:Nat→Int) (n:Nat):Nat→Nat→Int
 | 0,t=>Vs t
 | L+1,t=>sg (n+1) fun k=>if k≤t∧(t - k)%(L+1)=0 then wz un c n L k*chI un (c L) ((t - k) / (L+1)) else 0
theorem Ybu (un:Bool) (c:Nat→Int) (n:Nat):∀ (L s:Nat),s≤n→sg (s+1) (fun k=>wz un c n L k*wy un c L (s - k))=wy un c 0 s
 | 0,s,hs=>by
  rw [YcI,Xp (g:=fun _=>0) (fun i _=>by rw [wz,Vs,if_neg (by omega),Int.zero_mul]),QV,wz,Vs,if_pos rfl,Int.one_mul,Nat.sub_zero,Int.add_zero]
 | L+1,s,hs=>by
  rw [← Ybu un c n L s hs]
  have e1:sg (s+1) (fun t=>wz un c n (L+1) t*wy un c (L+1) (s - t))=sg (s+1) fun t=>sg (n+1) fun k=>if k≤t then (if (t - k)%(L+1)=0 then wz un c n L k*(chI un (c L) ((t - k) / (L+1))*wy un c (L+1) (s - k - (t - k))) else 0) else 0:=Xp fun t ht=>by
   rw [wz,← YdI]
   refine Xp fun k _=>?_
   by_cases h1:k≤t
   ·by_cases h2:(t - k)%(L+1)=0
    ·rw [if_pos ⟨h1,h2⟩,if_pos h1,if_pos h2,Int.mul_assoc,show s - k - (t - k)=s - t by omega]
    ·rw [if_neg (fun z=>h2 z.2),if_pos h1,if_neg h2,Int.zero_mul]
   ·rw [if_neg (fun z=>h1 z.1),if_neg h1,Int.zero_mul]
  rw [e1,YdJ]
  have e2:∀ k,sg (s+1) (fun t=>if k≤t then (if (t - k)%(L+1)=0 then wz un c n L k*(chI un (c L) ((t - k) / (L+1))*wy un c (L+1) (s - k - (t - k))) else 0) else 0)=if k≤s then wz un c n L k*wy un c L (s - k) else 0:=fun k=>by
   by_cases h:k≤s
   ·rw [if_pos h,YaE (fun d=>if d%(L+1)=0 then wz un c n L k*(chI un (c L) (d / (L+1))*wy un c (L+1) (s - k - d)) else 0) s h,YaF (fun m d=>wz un c n L k*(chI un (c L) m*wy un c (L+1) (s - k - d))) (by omega),Ycg,← Ych]
   ·rw [if_neg h,Xp (g:=fun _=>0) (fun i hi=>if_neg (by omega)),QV]
  rw [Xp fun k _=>e2 k]
  have e3:∀ j,s+1≤j→sg j (fun k=>if k≤s then wz un c n L k*wy un c L (s - k) else 0)=sg (s+1) fun k=>wz un c n L k*wy un c L (s - k):=fun j hj=>by
   induction j with
   | zero=>omega
   | succ j ih =>
    by_cases h:s+1≤j
    ·rw [YN,ih h,if_neg (by omega),Int.add_zero]
    ·have:j=s:=by omega
     subst this
     exact Xp fun k hk=>if_pos (by omega)
  exact e3 (n+1) (by omega)
theorem Yeh (un:Bool) (c:Nat→Int) {n s:Nat} (hs:s≤n):wz un c n n s=wy un c 0 s:=by
 rw [← Ybu un c n n s hs,YN,Nat.sub_self,XX,Int.mul_one,Xp (g:=fun _=>0) (fun k hk=>by rw [X8 (by omega) (by omega),Int.mul_zero]),QV,Int.zero_add]
theorem YcJ {f f':Nat→Int} {n j:Nat} {v:Int} (h:∀ i,i<n→f' i=if i=j then v else f i):(YR f n).set j (.int v)=YR f' n:=by
 refine List.ext_getElem? fun i=>?_
 unfold YR
 by_cases c:i<n
 ·by_cases e:j=i
  ·subst e
   rw [List.getElem?_set_self (by simp [c]),List.getElem?_map,List.getElem?_range c,Option.map_some,h j c,if_pos rfl]
  ·rw [List.getElem?_set_ne e,List.getElem?_map,List.getElem?_map,List.getElem?_range c,Option.map_some,Option.map_some,h i c,if_neg (Ne.symm e)]
 ·rw [List.getElem?_eq_none (by simp;omega),List.getElem?_eq_none (by simp;omega)]
def tm (un:Bool) (c:Nat→Int) (n L k t:Nat):Int:=if k≤t∧(t - k)%(L+1)=0 then wz un c n L k*chI un (c L) ((t - k) / (L+1)) else 0
def fo (un:Bool) (c:Nat→Int) (n L k m t:Nat):Int:=sg k (fun j=>tm un c n L j t)+if k≤t∧(t - k)%(L+1)=0∧(t - k) / (L+1)<m then wz un c n L k*chI un (c L) ((t - k) / (L+1)) else 0
theorem Uz (un:Bool) (c:Nat→Int) (n L k t:Nat):fo un c n L k 0 t=sg k fun j=>tm un c n L j t:=by
 unfold fo
 rw [if_neg (fun z=>Nat.not_lt_zero _ z.2.2),Int.add_zero]
theorem Yei (un:Bool) (c:Nat→Int) {n L k t:Nat} (h:t≤n):fo un c n L k ((n - k) / (L+1)+1) t=fo un c n L (k+1) 0 t:=by
 rw [Uz,YN]
 unfold fo tm
 have:=Nat.div_le_div_right (c:=L+1) (show t - k≤n - k by omega)
 by_cases z:k≤t∧(t - k)%(L+1)=0
 ·rw [if_pos ⟨z.1,z.2,by omega⟩,if_pos z]
 ·rw [if_neg z,if_neg fun y=>z ⟨y.1,y.2.1⟩]
theorem YdK (un:Bool) (c:Nat→Int) (n L k m t:Nat):fo un c n L k (m+1) t=if t=k+m*(L+1) then fo un c n L k m t+wz un c n L k*chI un (c L) m else fo un c n L k m t:=by
 by_cases e:t=k+m*(L+1)
 ·rw [if_pos e]
  have e1:t - k=m*(L+1):=by omega
  have e2:(t - k)%(L+1)=0:=by rw [e1];exact Nat.mul_mod_left _ _
  have e3:(t - k) / (L+1)=m:=by rw [e1];exact Nat.mul_div_cancel _ (by omega)
  unfold fo
  rw [if_pos ⟨by omega,e2,by omega⟩,if_neg (fun z=>by omega),e3,Int.add_zero]
 ·rw [if_neg e]
  unfold fo
  congr 1
  by_cases z:k≤t∧(t - k)%(L+1)=0∧(t - k) / (L+1)<m
  ·rw [if_pos z,if_pos ⟨z.1,z.2.1,by omega⟩]
  ·rw [if_neg z,if_neg fun y=>?_]
   have d:=Nat.div_add_mod (t - k) (L+1)
   have e4:(t - k) / (L+1)=m:=by
    by_cases q:(t - k) / (L+1)<m
    ·exact absurd ⟨y.1,y.2.1,q⟩ z
    ·omega
   rw [e4,y.2.1,Nat.add_zero,Nat.mul_comm] at d
   omega
theorem YcK (un:Bool) (c:Nat→Int) (n L:Nat):(List.replicate ((n:Int)+1).toNat [V.int 0]).flatten=YR (fo un c n L 0 0) (n+1):=by
 have e:((n:Int)+1).toNat=n+1:=by omega
 have:fo un c n L 0 0=fun _=>0:=funext fun t=>by rw [Uz,Xu]
 rw [e,this]
 unfold YR
 rw [List.map_const',List.length_range]
 simp
def Z5P (K:PySem.W.Frag):Sp:=fun vs H Q _=>∃ (bags:Bool) (a:Addr) (n:Nat) (c:Nat→Int),vs=[.bl bags,.ref a,.int n]∧n≤20∧H a=some (.lst (YR c (n+1)))∧(∀ s,s≤n→sB (c s))∧(∀ L k,L≤n→k≤n→sm (wz (!bags) c n L k)) ∧
 ∀ D H',Yq H H'→H D=none→H' D=some (.lst (YR (wz (!bags) c n n) (n+1)))→Q (.ref D) H'
theorem Ybv {k:Nat} {Z3 Z0 Z1 Za Z5 Z4 Z7 Z9 Z6 Z8 Z2:Addr} (R:g.Raw "_law_due" "_law_due" Z4Y ["_law_bags","_law_some","_law_size"]) (F_law_among:g.Fn k "_law_among" ["_law_bags","_law_many","_law_chosen"] (Z56)) (ZP:g.mg "range"=none):g.Fn (k+1) "_law_due" ["_law_bags","_law_some","_law_size"] (Z5P g.K):=by
 refine R.fn Z0J (fun vs H Q E h=>by obtain ⟨bags,a,n,c,rfl,hn,ha,hsB,hsm,q⟩:=h;rfl) fun f_ cdv A outer s H vs Q E hr h=>?_
 obtain ⟨bags,a,n,c,rfl,hn,ha,hsB,hsm,q⟩:=h
 refine ⟨_,(@Yh _ _ _ _ _ (@YA _ _ (3) _ _ _ _ Z0J.nd rfl (.inl rfl) (@Yi _ _ _ _ _ _ _ _ Yd0 (@Xv _ _ _ _ (@Ya _ _ _ _ _ Yf Yc (by rfl))) (@Yi _ _ _ _ _ _ _ _ Qr (@Xv _ _ _ _ (@Ya _ _ _ _ _ Yf Yc (by rfl))) (@pv _ 2 _ _ (by rfl) (by first | exact .inl rfl | exact .inr (.inl rfl) | exact .inr (.inr rfl)) (by decide) (by decide)))) (by rfl) (by first | exact .inl rfl | exact .inr rfl | assumption)) (@Yh _ _ _ _ _ (@XR _ _ _ _ _ _ _ _ PassesOwn.never rfl (@Xd _ _ _ _ _ _ rfl ZP (@Ya _ _ _ _ _ (@pv _ 2 _ _ (by rfl) (by first | exact .inl rfl | exact .inr (.inl rfl) | exact .inr (.inr rfl)) (by decide) (by decide)) Yc (by rfl)) (by rfl)) (@YF _ _ (4) _ Z0J.nd rfl (.inl rfl) (by first | exact .inl rfl | exact .inr rfl | assumption)) (@Yh _ _ _ _ _ (@YA _ _ (5) _ _ _ _ Z0J.nd rfl (.inl rfl) (@Yi _ _ _ _ _ _ _ _ Qr (@Xv _ _ _ _ (@Ya _ _ _ _ _ Yf Yc (by rfl))) (@Yi _ _ _ _ _ _ _ _ YI (@pv _ 2 _ _ (by rfl) (by first | exact .inl rfl | exact .inr (.inl rfl) | exact .inr (.inr rfl)) (by decide) (by decide)) Yf)) (by rfl) (by first | exact .inl rfl | exact .inr rfl | assumption)) (@Yh _ _ _ _ _ (@XR _ _ _ _ _ _ _ _ PassesOwn.never rfl (@Xd _ _ _ _ _ _ rfl ZP (@Ya _ _ _ _ _ (@Yi _ _ _ _ _ _ _ _ YI (@pv _ 2 _ _ (by rfl) (by first | exact .inl rfl | exact .inr (.inl rfl) | exact .inr (.inr rfl)) (by decide) (by decide)) Yf) Yc (by rfl)) (by rfl)) (@YF _ _ (6) _ Z0J.nd rfl (.inl rfl) (by first | exact .inl rfl | exact .inr rfl | assumption)) (@Yg _ _ _ (@XR _ _ _ _ _ _ _ _ PassesOwn.never rfl (@Xd _ _ _ _ _ _ rfl ZP (@Ya _ _ _ _ _ (@Yi _ _ _ _ _ _ _ _ YI (@Yi _ _ _ _ _ _ _ _ YH (@Yi _ _ _ _ _ _ _ _ YD (@pv _ 2 _ _ (by rfl) (by first | exact .inl rfl | exact .inr (.inl rfl) | exact .inr (.inr rfl)) (by decide) (by decide)) (@pv _ 6 _ _ (by rfl) (by first | exact .inl rfl | exact .inr (.inl rfl) | exact .inr (.inr rfl)) (by decide) (by decide))) (@Yi _ _ _ _ _ _ _ _ YI (@pv _ 4 _ _ (by rfl) (by first | exact .inl rfl | exact .inr (.inl rfl) | exact .inr (.inr rfl)) (by decide) (by decide)) Yf)) Yf) Yc (by rfl)) (by rfl)) (@YF _ _ (7) _ Z0J.nd rfl (.inl rfl) (by first | exact .inl rfl | exact .inr rfl | assumption)) (@Yh _ _ _ _ _ (@YA _ _ (8) _ _ _ _ Z0J.nd rfl (.inl rfl) (@Yi _ _ _ _ _ _ _ _ YI (@pv _ 6 _ _ (by rfl) (by first | exact .inl rfl | exact .inr (.inl rfl) | exact .inr (.inr rfl)) (by decide) (by decide)) (@Yi _ _ _ _ _ _ _ _ Xt (@pv _ 7 _ _ (by rfl) (by first | exact .inl rfl | exact .inr (.inl rfl) | exact .inr (.inr rfl)) (by decide) (by decide)) (@Yi _ _ _ _ _ _ _ _ YI (@pv _ 4 _ _ (by rfl) (by first | exact .inl rfl | exact .inr (.inl rfl) | exact .inr (.inr rfl)) (by decide) (by decide)) Yf))) (by rfl) (by first | exact .inl rfl | exact .inr rfl | assumption)) (@Yg _ _ _ (@YbD _ _ _ _ _ _ (@Yi _ _ _ _ _ _ _ _ YI (@YE _ _ _ _ _ _ _ YJ (@pv _ 5 _ _ (by rfl) (by first | exact .inl rfl | exact .inr (.inl rfl) | exact .inr (.inr rfl)) (by decide) (by decide)) (@pv _ 8 _ _ (by rfl) (by first | exact .inl rfl | exact .inr (.inl rfl) | exact .inr (.inr rfl)) (by decide) (by decide)) (fun _ _=>rfl)) (@Yi _ _ _ _ _ _ _ _ Xt (@YE _ _ _ _ _ _ _ YJ (@pv _ 3 _ _ (by rfl) (by first | exact .inl rfl | exact .inr (.inl rfl) | exact .inr (.inr rfl)) (by decide) (by decide)) (@pv _ 6 _ _ (by rfl) (by first | exact .inl rfl | exact .inr (.inl rfl) | exact .inr (.inr rfl)) (by decide) (by decide)) (fun _ _=>rfl)) (@Yx _ _ _ _ _ _ _ _ _ _ _ _ F_law_among hr (@Ya _ _ _ _ _ (@pv _ 0 _ _ (by rfl) (by first | exact .inl rfl | exact .inr (.inl rfl) | exact .inr (.inr rfl)) (by decide) (by decide)) (@Ya _ _ _ _ _ (@YE _ _ _ _ _ _ _ YJ (@pv _ 1 _ _ (by rfl) (by first | exact .inl rfl | exact .inr (.inl rfl) | exact .inr (.inr rfl)) (by decide) (by decide)) (@pv _ 4 _ _ (by rfl) (by first | exact .inl rfl | exact .inr (.inl rfl) | exact .inr (.inr rfl)) (by decide) (by decide)) (fun _ _=>rfl)) (@Ya _ _ _ _ _ (@pv _ 7 _ _ (by rfl) (by first | exact .inl rfl | exact .inr (.inl rfl) | exact .inr (.inr rfl)) (by decide) (by decide)) Yc (by rfl)) (by rfl)) (by rfl)) (by omega) (by rfl) (by rfl) (by decide) (by rfl) (by rfl)))) (@YbC _ _ _ _ _ _ _ (@pv _ 5 _ _ (by rfl) (by first | exact .inl rfl | exact .inr (.inl rfl) | exact .inr (.inr rfl)) (by decide) (by decide)) (@pv _ 8 _ _ (by rfl) (by first | exact .inl rfl | exact .inr (.inl rfl) | exact .inr (.inr rfl)) (by decide) (by decide)) Qn (by intro _;rfl)) (by rfl) (by rfl) (by rfl)))) (by intro _;rfl))) (by intro _;rfl)) (@Yg _ _ _ (@YA _ _ (3) _ _ _ _ Z0J.nd rfl (.inl rfl) (@pv _ 5 _ _ (by rfl) (by first | exact .inl rfl | exact .inr (.inl rfl) | exact .inr (.inr rfl)) (by decide) (by decide)) (by rfl) (by first | exact .inl rfl | exact .inr rfl | assumption))))) (by intro _;rfl)) (@Yg _ _ _ (@Yo _ _ _ _ (@pv _ 3 _ _ (by rfl) (by first | exact .inl rfl | exact .inr (.inl rfl) | exact .inr (.inr rfl)) (by decide) (by decide)))))),?_⟩
 have ez:wz (!bags) c n 0=Vs:=funext fun t=>by rw [wz]
 walk_at "rd"
 refine ⟨few (by decide),fun p1 g1=>⟨few (by decide),fun p2 g2=>?_⟩⟩
 have w1:=Yq.upd_new g1 (.lst [.int 1])
 have w2:=Yq.upd_new g2 (.lst [.int 0])
 refine ⟨p2,n,[.int 0],rfl,rfl,Ye,by omega,by omega,few (by simp;omega),fun p3 g3=>?_⟩
 rw [show (List.replicate (n:Int).toNat [V.int 0]).flatten=List.replicate n (.int 0) by simp]
 have w3:=Yq.upd_new g3 (.lst (List.replicate n (.int 0)))
 have w13:=(w1.trans w2).trans w3
 refine ⟨p3,rfl,_,(w2.trans w3) _ _ Ye,_,Ye,few (by simp;omega),fun p4 g4=>?_⟩
 have w4:=Yq.upd_new g4 (.lst ([V.int 1]++List.replicate n (.int 0)))
 have w14:=w13.trans w4
 refine XJ (n:=n) (fun i σ H'=>∃ (W:Addr) (o4 o5 o6 o7 o8:Option V),σ=[some (.bl bags),some (.ref a),some (.int n),some (.ref W),o4,o5,o6,o7,o8]∧Yq H H'∧H W=none∧H' W=some (.lst (YR (wz (!bags) c n i) (n+1)))) (fun R r=>by walk_at "rd";exact r) (by omega) ⟨p4,none,none,none,none,none,rfl,w14,w13.free g4,by rw [Ye,ez];exact congrArg (fun l=>some (HO.lst l)) (Ybt n).symm⟩ ?_ ?_
 ·rintro L σ H1 hL ⟨W,o4,o5,o6,o7,o8,rfl,s1,gW,hW⟩
  walk_at "rd"
  refine ⟨few (by decide),fun b1 gb1=>⟨b1,_,_,rfl,rfl,Ye,by omega,by omega,?_,fun F gF=>?_⟩⟩
  ·rw [List.length_singleton,Nat.one_mul,show ((n:Int)+1).toNat=n+1 by omega];exact few (by omega)
  rw [YcK (!bags) c n L]
  have gF1:=Y0 gF
  have s2:Yq H1 (upd (upd H1 b1 (.lst [V.int 0])) F (.lst (YR (fo (!bags) c n L 0 0) (n+1)))):=(Yq.upd_new gb1 _).trans (.upd_new gF _)
  refine XJ (n:=n+1) (fun k σ H'=>∃ (o6 o7 o8:Option V),σ=[some (.bl bags),some (.ref a),some (.int n),some (.ref W),some (.int L),some (.ref F),o6,o7,o8]∧Yq H1 H'∧H' F=some (.lst (YR (fo (!bags) c n L k 0) (n+1)))) (fun R r=>by walk_at "rd";exact r) (by omega) ⟨_,_,_,rfl,s2,Ye⟩ ?_ ?_
  ·rintro k σ H2 hk ⟨o6,o7,o8,rfl,t2,hF⟩
   have hdl:(n - k) / (L+1)≤n - k:=Nat.div_le_self _ _
   walk_at "rd"
   refine XJ (n:=(n - k) / (L+1)+1) (fun m σ H'=>∃ (o7 o8:Option V),σ=[some (.bl bags),some (.ref a),some (.int n),some (.ref W),some (.int L),some (.ref F),some (.int k),o7,o8]∧Yq H1 H'∧H' F=some (.lst (YR (fo (!bags) c n L k m) (n+1)))) (fun R r=>by
    walk_at "rd"
    refine ⟨YX (by omega) (by omega),?_⟩
    have e:((n:Int) - (k:Int)) / ((L:Int)+1)+1=(((n - k) / (L+1)+1:Nat):Int):=by
     rw [Int.natCast_add,Int.natCast_ediv,Int.natCast_sub (by omega)];rfl
    rw [e]
    exact r) (by omega) ⟨_,_,rfl,t2,hF⟩ ?_ ?_
   ·rintro m σ H3 hm ⟨o7,o8,rfl,t3,hF3⟩
    walk_at "rd"
    have hmt:k+m*(L+1)≤n:=by
     have:=Nat.mul_le_mul_right (L+1) (show m≤(n - k) / (L+1) by omega)
     have:=Nat.div_mul_le_self (n - k) (L+1)
     omega
    have ei:(k:Int)+(m:Int)*((L:Int)+1)=((k+m*(L+1):Nat):Int):=by rw [Int.natCast_add,Int.natCast_mul];rfl
    rw [ei]
    obtain ⟨hc0,b,hb,hcb⟩:=hsB L (by omega)
    obtain ⟨x,hx⟩:∃ x:Nat,c L=(x:Int):=⟨(c L).toNat,by omega⟩
    rw [hx,Int.toNat_natCast] at hcb
    obtain ⟨n1,b0,b1⟩:=hsm L k (by omega) (by omega)
    obtain ⟨n2,b2,b3⟩:=QJ (un := !bags) (k:=m) (hsB L (by omega)) (by omega)
    rw [hx] at b3
    refine ⟨.inl (cm (m:=7) (n:=7) (by omega) (by omega) (by decide)),_,SqL.of hF3,_,YY _ (by omega),_,SqL.of (t3 _ _ hW),_,YY _ (by omega),_,SqL.of (t3 _ _ (s1 _ _ ha)),_,YY _ (by omega),bags,x,m,b,by rw [hx],by omega,hb,hcb,_,rfl,_,rfl,.inl (cm b1 b3 (by omega)),_,rfl,_,hF3,_,Yaw (by rw [Yr];omega),.upd_over gF1 t3 _,?_⟩
    rw [Ye]
    refine congrArg (fun l=>some (HO.lst l)) (YcJ fun i hi=>?_)
    rw [YdK,hx]
    by_cases e:i=k+m*(L+1)
    ·rw [if_pos e,if_pos e,e]
    ·rw [if_neg e,if_neg e]
   ·rintro σ H3 ⟨o7,o8,rfl,t3,hF3⟩
    walk_at "rd"
    refine ⟨t3,?_⟩
    rw [hF3]
    refine congrArg (fun l=>some (HO.lst l)) (List.map_congr_left fun t ht=>?_)
    rw [Yei _ _ (by have:=List.mem_range.mp ht;omega)]
  ·rintro σ H2 ⟨o6,o7,o8,rfl,t2,hF⟩
   walk_at "rd"
   refine ⟨s1.trans t2,s1.free gF1,?_⟩
   rw [hF]
   refine congrArg (fun l=>some (HO.lst l)) (List.map_congr_left fun t ht=>?_)
   rw [Uz,wz]
   rfl
 ·rintro σ H1 ⟨W,o4,o5,o6,o7,o8,rfl,s1,gW,hW⟩
  walk_at "rd"
  exact q W H1 s1 gW hW
def al (c:Nat→Int) (t k:Nat):Int:=if k<t∨t=0∨k%t≠0 then 0 else c (k / t - 1)
theorem Yej (bk:List Nat→Sh) (p:Sh) (t:Nat):cnt bk (.alike p t)=al (cnt bk p) t:=funext fun k=>VB bk p t k
def Z35 (K:PySem.W.Frag):Sp:=fun vs H Q _=>∃ (a:Addr) (t n:Nat) (c:Nat→Int),vs=[.ref a,.int t,.int n]∧n≤20∧0<t∧t≤20∧H a=some (.lst (YR c (n+1))) ∧
 ∀ D H',Yq H H'→H D=none→H' D=some (.lst (YR (al c t) (n+1)))→Q (.ref D) H'
theorem Z5B {Z3 Z0 Z1 Za Z5 Z4 Z7 Z9 Z6 Z8 Z2:Addr} (R:g.Raw "_law_alike_due" "_law_alike_due" Z2m ["_law_some","_law_times","_law_size"]) (ZP:g.mg "range"=none):g.Fn (1) "_law_alike_due" ["_law_some","_law_times","_law_size"] (Z35 g.K):=by
 refine R.fn Z23 (fun vs H Q E h=>by obtain ⟨a,t,n,c,rfl,hn,ht,ht2,ha,q⟩:=h;rfl) fun f_ cdv A outer s H vs Q E hr h=>?_
 obtain ⟨a,t,n,c,rfl,hn,ht,ht2,ha,q⟩:=h
 refine ⟨_,(@Yh _ _ _ _ _ (@YA _ _ (3) _ _ _ _ Z23.nd rfl (.inl rfl) (@Xv _ _ _ _ Yc) (by rfl) (by first | exact .inl rfl | exact .inr rfl | assumption)) (@Yh _ _ _ _ _ (@XR _ _ _ _ _ _ _ _ PassesOwn.never rfl (@Xd _ _ _ _ _ _ rfl ZP (@Ya _ _ _ _ _ (@Yi _ _ _ _ _ _ _ _ YI (@pv _ 2 _ _ (by rfl) (by first | exact .inl rfl | exact .inr (.inl rfl) | exact .inr (.inr rfl)) (by decide) (by decide)) Yf) Yc (by rfl)) (by rfl)) (@YF _ _ (4) _ Z23.nd rfl (.inl rfl) (by first | exact .inl rfl | exact .inr rfl | assumption)) (@Yg _ _ _ (@YO _ _ _ _ _ _ _ _ (@YdR _ _ _ _ _ _ _ (@Yt _ _ _ _ _ _ _ _ Y4 (@Yi _ _ _ _ _ _ _ _ Y7 (@pv _ 4 _ _ (by rfl) (by first | exact .inl rfl | exact .inr (.inl rfl) | exact .inr (.inr rfl)) (by decide) (by decide)) (@pv _ 1 _ _ (by rfl) (by first | exact .inl rfl | exact .inr (.inl rfl) | exact .inr (.inr rfl)) (by decide) (by decide))) Yf (Yw _)) (@Ydb _ _ _ _ (@Yt _ _ _ _ _ _ _ _ YcS (@pv _ 4 _ _ (by rfl) (by first | exact .inl rfl | exact .inr (.inl rfl) | exact .inr (.inr rfl)) (by decide) (by decide)) Yf (Yw _)))).pt (@Yg _ _ _ (@YS _ _ _ _ (@XN _ _ _ _ _ _ _ _ _ _ _ _ PySem.F.plainAttrs_list PySem.F.slot_list_append PySem.F.type_list_append Y5 (@pv _ 3 _ _ (by rfl) (by first | exact .inl rfl | exact .inr (.inl rfl) | exact .inr (.inr rfl)) (by decide) (by decide)) (@Ya _ _ _ _ _ (@YE _ _ _ _ _ _ _ YJ (@pv _ 0 _ _ (by rfl) (by first | exact .inl rfl | exact .inr (.inl rfl) | exact .inr (.inr rfl)) (by decide) (by decide)) (@Yi _ _ _ _ _ _ _ _ YD (@Yi _ _ _ _ _ _ _ _ YH (@pv _ 4 _ _ (by rfl) (by first | exact .inl rfl | exact .inr (.inl rfl) | exact .inr (.inr rfl)) (by decide) (by decide)) (@pv _ 1 _ _ (by rfl) (by first | exact .inl rfl | exact .inr (.inl rfl) | exact .inr (.inr rfl)) (by decide) (by decide))) Yf) (fun _ _=>rfl)) Yc (by rfl)) (by rfl) (by rfl) (by rfl) (by rfl) (by rfl)) (by rfl))) (@Yg _ _ _ (@YS _ _ _ _ (@XN _ _ _ _ _ _ _ _ _ _ _ _ PySem.F.plainAttrs_list PySem.F.slot_list_append PySem.F.type_list_append Y5 (@pv _ 3 _ _ (by rfl) (by first | exact .inl rfl | exact .inr (.inl rfl) | exact .inr (.inr rfl)) (by decide) (by decide)) (@Ya _ _ _ _ _ Yf Yc (by rfl)) (by rfl) (by rfl) (by rfl) (by rfl) (by rfl)) (by rfl))))) (by intro _;rfl)) (@Yg _ _ _ (@Yo _ _ _ _ (@pv _ 3 _ _ (by rfl) (by first | exact .inl rfl | exact .inr (.inl rfl) | exact .inr (.inr rfl)) (by decide) (by decide)))))),?_⟩
 walk_at "rd"
 refine ⟨few (by decide),fun D gD=>?_⟩
 refine XJ (n:=n+1) (fun k σ H'=>∃ o,σ=[some (.ref a),some (.int t),some (.int n),some (.ref D),o]∧Yq H H'∧H' D=some (.lst (YR (al c t) k))) (fun R r=>by walk_at "rd";exact r) (by omega) ⟨none,rfl,.upd_new gD _,Ye⟩ ?_ ?_
 ·rintro k σ H' hk ⟨o,rfl,s1,hD⟩
  walk_at "rd"
  have close:∀ v,al c t k=v→Yq H (upd H' D (.lst (YR (al c t) k++[.int v])))∧upd H' D (.lst (YR (al c t) k++[.int v])) D=some (.lst (YR (al c t) (k+1))):=fun v e=>⟨.upd_over gD s1 _,by rw [Ye,Y2,e]⟩
  refine ⟨by omega,XB (fun c1=>XB (fun c2=>?_) (fun c2=>?_)) (fun c1=>?_)⟩
  ·have e1:k%t=0:=by exact_mod_cast c1
   have h1:1≤k / t:=(Nat.one_le_div_iff ht).mpr (Nat.le_of_dvd (by omega) (Nat.dvd_of_mod_eq_zero e1))
   have h2:k / t≤k:=Nat.div_le_self _ _
   have h3:t≤k:=(Nat.one_le_div_iff ht).mp h1
   have ev:(k:Int) / (t:Int) - 1=((k / t - 1:Nat):Int):=by
    rw [← Int.natCast_ediv]
    omega
   refine ⟨.inl ⟨rfl,_,SqL.of hD⟩,YX (by omega) (by omega),_,SqL.of (s1 _ _ ha),.int (c (k / t - 1)),by rw [ev];exact YY _ (by omega),_,hD,by rw [Yr];exact few (by omega),close _ ?_⟩
   unfold al
   rw [if_neg (by omega)]
  ·exact ⟨.inl ⟨rfl,_,SqL.of hD⟩,_,hD,by rw [Yr];exact few (by omega),close 0 (if_pos (.inl (by omega)))⟩
  ·exact ⟨.inl ⟨rfl,_,SqL.of hD⟩,_,hD,by rw [Yr];exact few (by omega),close 0 (if_pos (.inr (.inr fun z=>c1 (by exact_mod_cast z))))⟩
 ·rintro σ H' ⟨o,rfl,s1,hD⟩
  walk_at "rd"
  exact q D H' s1 gD hD
theorem YaG (xs:List V) (v:V):Ul (xs++[v]) (some (-1)) none=[v]:=by
 unfold Ul
 have e1:HT.sIx (xs++[v]).length 0 (some (-1))=xs.length:=by
  show (if (-1:Int)<0 then ((-1:Int)+((xs++[v]).length:Int)).toNat else min (-1:Int).toNat (xs++[v]).length)=_
  rw [if_pos (by decide),List.length_append]
  simp only [List.length_cons,List.length_nil]
  omega
 rw [e1,HT.sIx_none,List.drop_left,List.length_append]
 simp
theorem Yci (un:Bool) (x:Int) (m:Nat):0≤chI un x m:=by unfold chI;split<;>exact Int.natCast_nonneg _
theorem Qd {f:Nat→Int}:∀ {n:Nat},(∀ i,i<n→0≤f i)→0≤sg n f
 | 0,_=>Int.le_refl _
 | n+1,h=>by
  rw [YN]
  have:=Qd (n:=n) fun i hi=>h i (by omega)
  have:=h n (by omega)
  omega
theorem Yc6 (un:Bool) (c:Nat→Int):∀ (k l t:Nat),t - l≤k→0≤wy un c l t
 | k,l,t,hk=>by
  by_cases h0:t=0
  ·rw [h0,XX];decide
  ·by_cases h1:t≤l
   ·rw [X8 (by omega) h1];exact Int.le_refl _
   ·obtain ⟨k,rfl⟩:∃ j,k=j+1:=⟨k - 1,by omega⟩
    rw [Ych]
    exact Qd fun m _=>Int.mul_nonneg (Yci _ _ _) (Yc6 un c k (l+1) _ (by omega))
theorem Ybw (un:Bool) (c:Nat→Int) (n:Nat):∀ L t,0≤wz un c n L t
 | 0,t=>by rw [wz,Vs];split<;>decide
 | L+1,t=>by
  rw [wz]
  refine Qd fun k _=>?_
  split
  ·exact Int.mul_nonneg (Ybw un c n L k) (Yci _ _ _)
  ·exact Int.le_refl _
theorem wz_le (un:Bool) (c:Nat→Int) {n s:Nat} (L:Nat) (hs:s≤n):wz un c n L s≤wy un c 0 s:=by
 rw [← Ybu un c n L s hs,YN,Nat.sub_self,XX,Int.mul_one]
 have:=Qd (n:=s) (f:=fun k=>wz un c n L k*wy un c L (s - k)) fun k _=>Int.mul_nonneg (Ybw un c n L k) (Yc6 un c _ _ _ (Nat.le_refl _))
 omega
theorem Yc7 {un:Bool} {c:Nat→Int} {n s:Nat} (L:Nat) (hs:s≤n) (h:sm (wy un c 0 s)):sm (wz un c n L s):=by
 obtain ⟨e,h1,h2⟩:=h
 have:=Ybw un c n L s
 have:=wz_le un c L hs
 exact ⟨e,h1,by omega⟩
theorem YaH (bk:List Nat→Sh) (un:Bool) (p:Sh) (n:Nat):YR (wz un (cnt bk p) n n) (n+1)=YR (cnt bk (.cho un p)) (n+1):=by
 refine List.map_congr_left fun t ht=>?_
 have:=List.mem_range.mp ht
 rw [Yeh _ _ (by omega),Ut]
theorem Vf {sh:Sh} (h:dep sh≤2):nm sh+2≤20:=by unfold nm;split<;>omega
theorem Vg {sh:Sh} {z:Nat} (h:dep sh≤2) (hz:z≤12):6*(z+dep sh)+5≤100:=by omega
theorem Ycj {sh:Sh} (un:Bool) (h:Wn [] sh):okS [] (.cho un sh)∧dep (.cho un sh)≤2∧wt (.cho un sh)≤20:=by
 obtain ⟨h1,h2,h3,h4⟩:=h
 exact ⟨by rw [okS];exact ⟨by omega,h1⟩,by rw [dep];omega,by rw [wt];omega⟩
theorem YcL {sh:Sh} {t:Nat} (ht:0<t) (h:Wn [] sh):okS [] (.alike sh t)∧dep (.alike sh t)≤2∧wt (.alike sh t)≤20:=by
 obtain ⟨h1,h2,h3,h4⟩:=h
 exact ⟨by rw [okS];exact ⟨ht,h1⟩,by rw [dep];omega,by rw [wt];omega⟩
theorem dk_r {K:PySem.W.Frag} {H:Hp} {p b:Addr} {sh:Sh} (h:Wn [] sh) (hp:H p=some (.tup [.str "rising",.ref b])) (hb:DK K H b (kd sh)):DK K H p (kd (.cho false sh)):=by
 have:=h.2.2.2
 refine ⟨?_,XO _,by simp only [kd,PyData.depth,PyData.depthAll];omega⟩
 rw [kd]
 exact .tup (SqT.of hp) (.cons (.str _ (by decide +kernel)) (.cons hb.den .nil))
theorem dk_u {K:PySem.W.Frag} {H:Hp} {p b:Addr} {sh:Sh} (h:Wn [] sh) (hp:H p=some (.tup [.str "unlike",.ref b])) (hb:DK K H b (kd sh)):DK K H p (kd (.cho true sh)):=by
 have:=h.2.2.2
 refine ⟨?_,XO _,by simp only [kd,PyData.depth,PyData.depthAll];omega⟩
 rw [kd]
 exact .tup (SqT.of hp) (.cons (.str _ (by decide +kernel)) (.cons hb.den .nil))
theorem dk_a {K:PySem.W.Frag} {H:Hp} {p b:Addr} {sh:Sh} {t:Nat} (h:Wn [] sh) (hp:H p=some (.tup [.str "alike",.ref b,.int t])) (hb:DK K H b (kd sh)):DK K H p (kd (.alike sh t)):=by
 have:=h.2.2.2
 refine ⟨?_,XO _,by simp only [kd,PyData.depth,PyData.depthAll];omega⟩
 rw [kd]
 exact .tup (SqT.of hp) (.cons (.str _ (by decide +kernel)) (.cons hb.den (.cons (.int _) .nil)))
def LM1 (K:PySem.W.Frag) (a:Addr) (σ:St) (H:Hp):Prop:=∃ (D:Addr) (c:Int) (z t1:Nat) (p:Addr) (sh:Sh),σ=[some (.ref a),some (.ref D),some (.int c),some (.int z),some (.int ((1+t1:Nat):Int)),some (.ref p),none,none,none]∧z≤12∧t1≤5∧Wn [] sh∧DK K H p (kd sh)
def LM2 (K:PySem.W.Frag) (a:Addr) (σ:St) (H:Hp):Prop:=∃ (D:Addr) (c:Int) (z t1:Nat) (p:Addr) (sh:Sh) (B S:Addr) (o:Option V),σ=[some (.ref a),some (.ref D),some (.int c),some (.int z),some (.int ((1+t1:Nat):Int)),some (.ref p),some (.ref B),some (.ref S),o]∧z≤12∧t1≤5∧Wn [] sh∧DK K H p (kd sh)∧H B=some (.lst [])∧H S=some (.lst (YR (cnt (bkO []) sh) (z+1)))
theorem Vh {K:PySem.W.Frag} {H:Hp} {B:Addr} (h:H B=some (.lst [])):Vn K H B []:=⟨[],h,rfl,fun i v q h=>by simp at h⟩
theorem YaI (v:Int) (i:Nat) (x:V) (hx:[V.int v][i]?=some x):∃ w:Int,x = .int w:=by
 cases i with
 | zero=>exact ⟨_,(Option.some.inj hx).symm⟩
 | succ i=>simp at hx
theorem YcM {k:Nat} {Z3 Z0 Z1 Za Z5 Z4 Z7 Z9 Z6 Z8 Z2:Addr} (F_counted:g.Fn k "counted" ["book","shape","size"] (Z5N g.K (Cs.mk Z2 Z6 Z7 Z9 Z5 Z4 Z8 Z3 Z0 Z1) 100)) (Z2I:g.Fn k "counts_to" ["book","shape","size"] (Z53 g.K (Cs.mk Z2 Z6 Z7 Z9 Z5 Z4 Z8 Z3 Z0 Z1) 100)) (F_law_feed:g.Fn k "_law_feed" ["_law_script","_law_many"] (Z5u g.K)) (Z0v:g.Fn k "_law_next" ["_law_feed_here"] (Z1l g.K)) (Z14:g.Fn k "_law_counts" ["_law_found","_law_due_here"] (Z4H g.K)) (F_law_part:g.Fn k "_law_part" ["_law_feed_here"] (Z5w g.K)) (F_law_due:g.Fn k "_law_due" ["_law_bags","_law_some","_law_size"] (Z5P g.K)) (Z5Q:g.Fn k "_law_alike_due" ["_law_some","_law_times","_law_size"] (Z35 g.K)) (b_len:g.mg "len"=none):VT g k ["_law_script","_law_feed_here","_law_cell","_law_size","_law_times","_law_part_here","_law_book","_law_some","_law_due_here"] "law" Qa (V6 g.K):=by
 refine fun f_ cdv A outer s H vs Q E hr h=>?_
 obtain ⟨a,ns,rfl,hS,hl,q⟩:=h
 refine ⟨_,(@Yh _ _ _ _ _ (@YA _ _ (1) _ _ _ _ XY.nd rfl (.inl rfl) (@Yx _ _ _ _ _ _ _ _ _ _ _ _ F_law_feed hr (@Ya _ _ _ _ _ (@pv _ 0 _ _ (by rfl) (by first | exact .inl rfl | exact .inr (.inl rfl) | exact .inr (.inr rfl)) (by decide) (by decide)) (@Ya _ _ _ _ _ Yf Yc (by rfl)) (by rfl)) (by omega) (by rfl) (by rfl) (by decide) (by rfl) (by rfl)) (by rfl) (by first | exact .inl rfl | exact .inr rfl | assumption)) (@Yh _ _ _ _ _ (@YA _ _ (2) _ _ _ _ XY.nd rfl (.inl rfl) (@Yx _ _ _ _ _ _ _ _ _ _ _ _ Z0v hr (@Ya _ _ _ _ _ (@pv _ 1 _ _ (by rfl) (by first | exact .inl rfl | exact .inr (.inl rfl) | exact .inr (.inr rfl)) (by decide) (by decide)) Yc (by rfl)) (by omega) (by rfl) (by rfl) (by decide) (by rfl) (by rfl)) (by rfl) (by first | exact .inl rfl | exact .inr rfl | assumption)) (@Yh _ _ _ _ _ (@YA _ _ (3) _ _ _ _ XY.nd rfl (.inl rfl) (@Yi _ _ _ _ _ _ _ _ Y7 (@pv _ 2 _ _ (by rfl) (by first | exact .inl rfl | exact .inr (.inl rfl) | exact .inr (.inr rfl)) (by decide) (by decide)) Yf) (by rfl) (by first | exact .inl rfl | exact .inr rfl | assumption)) (@Yh _ _ _ _ _ (@YA _ _ (4) _ _ _ _ XY.nd rfl (.inl rfl) (@Yi _ _ _ _ _ _ _ _ YI Yf (@Yi _ _ _ _ _ _ _ _ Y7 (@Yi _ _ _ _ _ _ _ _ YH (@pv _ 2 _ _ (by rfl) (by first | exact .inl rfl | exact .inr (.inl rfl) | exact .inr (.inr rfl)) (by decide) (by decide)) Yf) Yf)) (by rfl) (by first | exact .inl rfl | exact .inr rfl | assumption)) (@Yh _ _ _ _ _ (@YA _ _ (5) _ _ _ _ XY.nd rfl (.inl rfl) (@Yx _ _ _ _ _ _ _ _ _ _ _ _ F_law_part hr (@Ya _ _ _ _ _ (@pv _ 1 _ _ (by rfl) (by first | exact .inl rfl | exact .inr (.inl rfl) | exact .inr (.inr rfl)) (by decide) (by decide)) Yc (by rfl)) (by omega) (by rfl) (by rfl) (by decide) (by rfl) (by rfl)) (by rfl) (by first | exact .inl rfl | exact .inr rfl | assumption)) (@Yh _ _ _ _ _ (@YA _ _ (6) _ _ _ _ XY.nd rfl (.inl rfl) (@Xv _ _ _ _ Yc) (by rfl) (by first | exact .inl rfl | exact .inr rfl | assumption)) (@Yh _ _ _ _ _ (@YA _ _ (7) _ _ _ _ XY.nd rfl (.inl rfl) (@Yx _ _ _ _ _ _ _ _ _ _ _ _ Z2I hr (@Ya _ _ _ _ _ (@pv _ 6 _ _ (by rfl) (by first | exact .inl rfl | exact .inr (.inl rfl) | exact .inr (.inr rfl)) (by decide) (by decide)) (@Ya _ _ _ _ _ (@pv _ 5 _ _ (by rfl) (by first | exact .inl rfl | exact .inr (.inl rfl) | exact .inr (.inr rfl)) (by decide) (by decide)) (@Ya _ _ _ _ _ (@pv _ 3 _ _ (by rfl) (by first | exact .inl rfl | exact .inr (.inl rfl) | exact .inr (.inr rfl)) (by decide) (by decide)) Yc (by rfl)) (by rfl)) (by rfl)) (by omega) (by rfl) (by rfl) (by decide) (by rfl) (by rfl)) (by rfl) (by first | exact .inl rfl | exact .inr rfl | assumption)) (@Yh _ _ _ _ _ (@YO _ _ _ _ _ _ _ _ (@VX _ _ _ _ _ _ _ (@WH _ _ _ _ (@Wg _ _ _ (@Yx _ _ _ _ _ _ _ _ _ _ _ _ Z14 hr (@Ya _ _ _ _ _ (@pv _ 7 _ _ (by rfl) (by first | exact .inl rfl | exact .inr (.inl rfl) | exact .inr (.inr rfl)) (by decide) (by decide)) (@Ya _ _ _ _ _ (@pv _ 7 _ _ (by rfl) (by first | exact .inl rfl | exact .inr (.inl rfl) | exact .inr (.inr rfl)) (by decide) (by decide)) Yc (by rfl)) (by rfl)) (by omega) (by rfl) (by rfl) (by decide) (by rfl) (by rfl)) (by intro _;rfl))) (@Vt _ _ _ _ (@Yt _ _ _ _ _ _ _ _ UY (@YT _ _ _ _ _ _ _ _ _ _ b_len Yu (@Ya _ _ _ _ _ (@pv _ 7 _ _ (by rfl) (by first | exact .inl rfl | exact .inr (.inl rfl) | exact .inr (.inr rfl)) (by decide) (by decide)) Yc (by rfl)) (by decide +kernel) (by rfl) (by rfl) (by decide) (by decide) (by rfl) (by rfl)) (@Yi _ _ _ _ _ _ _ _ YI (@pv _ 3 _ _ (by rfl) (by first | exact .inl rfl | exact .inr (.inl rfl) | exact .inr (.inr rfl)) (by decide) (by decide)) Yf) (Yw _)))).pt (@Yg _ _ _ (@Yo _ _ _ _ Ww)) YC) (@Yh _ _ _ _ _ (@YA _ _ (8) _ _ _ _ XY.nd rfl (.inl rfl) (@Yx _ _ _ _ _ _ _ _ _ _ _ _ F_law_due hr (@Ya _ _ _ _ _ Ww (@Ya _ _ _ _ _ (@pv _ 7 _ _ (by rfl) (by first | exact .inl rfl | exact .inr (.inl rfl) | exact .inr (.inr rfl)) (by decide) (by decide)) (@Ya _ _ _ _ _ (@pv _ 3 _ _ (by rfl) (by first | exact .inl rfl | exact .inr (.inl rfl) | exact .inr (.inr rfl)) (by decide) (by decide)) Yc (by rfl)) (by rfl)) (by rfl)) (by omega) (by rfl) (by rfl) (by decide) (by rfl) (by rfl)) (by rfl) (by first | exact .inl rfl | exact .inr rfl | assumption)) (@Yh _ _ _ _ _ (@YO _ _ _ _ _ _ _ _ (@WH _ _ _ _ (@Wg _ _ _ (@Yx _ _ _ _ _ _ _ _ _ _ _ _ Z14 hr (@Ya _ _ _ _ _ (@Yx _ _ _ _ _ _ _ _ _ _ _ _ Z2I hr (@Ya _ _ _ _ _ (@pv _ 6 _ _ (by rfl) (by first | exact .inl rfl | exact .inr (.inl rfl) | exact .inr (.inr rfl)) (by decide) (by decide)) (@Ya _ _ _ _ _ (@Xg _ _ _ _ _ (@Ya _ _ _ _ _ Y1 (@Ya _ _ _ _ _ (@pv _ 5 _ _ (by rfl) (by first | exact .inl rfl | exact .inr (.inl rfl) | exact .inr (.inr rfl)) (by decide) (by decide)) Yc (by rfl)) (by rfl))) (@Ya _ _ _ _ _ (@pv _ 3 _ _ (by rfl) (by first | exact .inl rfl | exact .inr (.inl rfl) | exact .inr (.inr rfl)) (by decide) (by decide)) Yc (by rfl)) (XH _ _ _ _ _)) (by rfl)) (by omega) (by rfl) (by rfl) (by decide) (by rfl) (by rfl)) (@Ya _ _ _ _ _ (@pv _ 8 _ _ (by rfl) (by first | exact .inl rfl | exact .inr (.inl rfl) | exact .inr (.inr rfl)) (by decide) (by decide)) Yc (by rfl)) (by rfl)) (by omega) (by rfl) (by rfl) (by decide) (by rfl) (by rfl)) (by intro _;rfl))) (@Yg _ _ _ (@Yo _ _ _ _ Ww)) YC) (@Yh _ _ _ _ _ (@YO _ _ _ _ _ _ _ _ (@WH _ _ _ _ (@Wg _ _ _ (@Yx _ _ _ _ _ _ _ _ _ _ _ _ Z14 hr (@Ya _ _ _ _ _ (@Xv _ _ _ _ (@Ya _ _ _ _ _ (@Yx _ _ _ _ _ _ _ _ _ _ _ _ F_counted hr (@Ya _ _ _ _ _ (@pv _ 6 _ _ (by rfl) (by first | exact .inl rfl | exact .inr (.inl rfl) | exact .inr (.inr rfl)) (by decide) (by decide)) (@Ya _ _ _ _ _ (@Xg _ _ _ _ _ (@Ya _ _ _ _ _ Y1 (@Ya _ _ _ _ _ (@pv _ 5 _ _ (by rfl) (by first | exact .inl rfl | exact .inr (.inl rfl) | exact .inr (.inr rfl)) (by decide) (by decide)) Yc (by rfl)) (by rfl))) (@Ya _ _ _ _ _ (@pv _ 3 _ _ (by rfl) (by first | exact .inl rfl | exact .inr (.inl rfl) | exact .inr (.inr rfl)) (by decide) (by decide)) Yc (by rfl)) (XH _ _ _ _ _)) (by rfl)) (by omega) (by rfl) (by rfl) (by decide) (by rfl) (by rfl)) Yc (by rfl))) (@Ya _ _ _ _ _ (@Qm _ _ _ _ _ _ _ _ _ _ Yaj (@pv _ 8 _ _ (by rfl) (by first | exact .inl rfl | exact .inr (.inl rfl) | exact .inr (.inr rfl)) (by decide) (by decide)) (@Yah _ _ _ (@WC _ _ _ _ _ _ Wi Yf)) Yag) Yc (by rfl)) (Qt _ _ _ _)) (by omega) (by rfl) (by rfl) (by decide) (by rfl) (by rfl)) (by intro _;rfl))) (@Yg _ _ _ (@Yo _ _ _ _ Ww)) YC) (@Yh _ _ _ _ _ (@YA _ _ (8) _ _ _ _ XY.nd rfl (.inl rfl) (@Yx _ _ _ _ _ _ _ _ _ _ _ _ F_law_due hr (@Ya _ _ _ _ _ Ww (@Ya _ _ _ _ _ (@pv _ 7 _ _ (by rfl) (by first | exact .inl rfl | exact .inr (.inl rfl) | exact .inr (.inr rfl)) (by decide) (by decide)) (@Ya _ _ _ _ _ (@pv _ 3 _ _ (by rfl) (by first | exact .inl rfl | exact .inr (.inl rfl) | exact .inr (.inr rfl)) (by decide) (by decide)) Yc (by rfl)) (by rfl)) (by rfl)) (by omega) (by rfl) (by rfl) (by decide) (by rfl) (by rfl)) (by rfl) (by first | exact .inl rfl | exact .inr rfl | assumption)) (@Yh _ _ _ _ _ (@YO _ _ _ _ _ _ _ _ (@WH _ _ _ _ (@Wg _ _ _ (@Yx _ _ _ _ _ _ _ _ _ _ _ _ Z14 hr (@Ya _ _ _ _ _ (@Yx _ _ _ _ _ _ _ _ _ _ _ _ Z2I hr (@Ya _ _ _ _ _ (@pv _ 6 _ _ (by rfl) (by first | exact .inl rfl | exact .inr (.inl rfl) | exact .inr (.inr rfl)) (by decide) (by decide)) (@Ya _ _ _ _ _ (@Xg _ _ _ _ _ (@Ya _ _ _ _ _ Y1 (@Ya _ _ _ _ _ (@pv _ 5 _ _ (by rfl) (by first | exact .inl rfl | exact .inr (.inl rfl) | exact .inr (.inr rfl)) (by decide) (by decide)) Yc (by rfl)) (by rfl))) (@Ya _ _ _ _ _ (@pv _ 3 _ _ (by rfl) (by first | exact .inl rfl | exact .inr (.inl rfl) | exact .inr (.inr rfl)) (by decide) (by decide)) Yc (by rfl)) (XH _ _ _ _ _)) (by rfl)) (by omega) (by rfl) (by rfl) (by decide) (by rfl) (by rfl)) (@Ya _ _ _ _ _ (@pv _ 8 _ _ (by rfl) (by first | exact .inl rfl | exact .inr (.inl rfl) | exact .inr (.inr rfl)) (by decide) (by decide)) Yc (by rfl)) (by rfl)) (by omega) (by rfl) (by rfl) (by decide) (by rfl) (by rfl)) (by intro _;rfl))) (@Yg _ _ _ (@Yo _ _ _ _ Ww)) YC) (@Yh _ _ _ _ _ (@YO _ _ _ _ _ _ _ _ (@WH _ _ _ _ (@Wg _ _ _ (@Yx _ _ _ _ _ _ _ _ _ _ _ _ Z14 hr (@Ya _ _ _ _ _ (@Xv _ _ _ _ (@Ya _ _ _ _ _ (@Yx _ _ _ _ _ _ _ _ _ _ _ _ F_counted hr (@Ya _ _ _ _ _ (@pv _ 6 _ _ (by rfl) (by first | exact .inl rfl | exact .inr (.inl rfl) | exact .inr (.inr rfl)) (by decide) (by decide)) (@Ya _ _ _ _ _ (@Xg _ _ _ _ _ (@Ya _ _ _ _ _ Y1 (@Ya _ _ _ _ _ (@pv _ 5 _ _ (by rfl) (by first | exact .inl rfl | exact .inr (.inl rfl) | exact .inr (.inr rfl)) (by decide) (by decide)) Yc (by rfl)) (by rfl))) (@Ya _ _ _ _ _ (@pv _ 3 _ _ (by rfl) (by first | exact .inl rfl | exact .inr (.inl rfl) | exact .inr (.inr rfl)) (by decide) (by decide)) Yc (by rfl)) (XH _ _ _ _ _)) (by rfl)) (by omega) (by rfl) (by rfl) (by decide) (by rfl) (by rfl)) Yc (by rfl))) (@Ya _ _ _ _ _ (@Qm _ _ _ _ _ _ _ _ _ _ Yaj (@pv _ 8 _ _ (by rfl) (by first | exact .inl rfl | exact .inr (.inl rfl) | exact .inr (.inr rfl)) (by decide) (by decide)) (@Yah _ _ _ (@WC _ _ _ _ _ _ Wi Yf)) Yag) Yc (by rfl)) (Qt _ _ _ _)) (by omega) (by rfl) (by rfl) (by decide) (by rfl) (by rfl)) (by intro _;rfl))) (@Yg _ _ _ (@Yo _ _ _ _ Ww)) YC) (@Yg _ _ _ (@Yo _ _ _ _ (@Yx _ _ _ _ _ _ _ _ _ _ _ _ Z14 hr (@Ya _ _ _ _ _ (@Yx _ _ _ _ _ _ _ _ _ _ _ _ Z2I hr (@Ya _ _ _ _ _ (@pv _ 6 _ _ (by rfl) (by first | exact .inl rfl | exact .inr (.inl rfl) | exact .inr (.inr rfl)) (by decide) (by decide)) (@Ya _ _ _ _ _ (@Xg _ _ _ _ _ (@Ya _ _ _ _ _ Y1 (@Ya _ _ _ _ _ (@pv _ 5 _ _ (by rfl) (by first | exact .inl rfl | exact .inr (.inl rfl) | exact .inr (.inr rfl)) (by decide) (by decide)) (@Ya _ _ _ _ _ (@pv _ 4 _ _ (by rfl) (by first | exact .inl rfl | exact .inr (.inl rfl) | exact .inr (.inr rfl)) (by decide) (by decide)) Yc (by rfl)) (by rfl)) (by rfl))) (@Ya _ _ _ _ _ (@pv _ 3 _ _ (by rfl) (by first | exact .inl rfl | exact .inr (.inl rfl) | exact .inr (.inr rfl)) (by decide) (by decide)) Yc (by rfl)) (XH _ _ _ _ _)) (by rfl)) (by omega) (by rfl) (by rfl) (by decide) (by rfl) (by rfl)) (@Ya _ _ _ _ _ (@Yx _ _ _ _ _ _ _ _ _ _ _ _ Z5Q hr (@Ya _ _ _ _ _ (@pv _ 7 _ _ (by rfl) (by first | exact .inl rfl | exact .inr (.inl rfl) | exact .inr (.inr rfl)) (by decide) (by decide)) (@Ya _ _ _ _ _ (@pv _ 4 _ _ (by rfl) (by first | exact .inl rfl | exact .inr (.inl rfl) | exact .inr (.inr rfl)) (by decide) (by decide)) (@Ya _ _ _ _ _ (@pv _ 3 _ _ (by rfl) (by first | exact .inl rfl | exact .inr (.inl rfl) | exact .inr (.inr rfl)) (by decide) (by decide)) Yc (by rfl)) (by rfl)) (by rfl)) (by omega) (by rfl) (by rfl) (by decide) (by rfl) (by rfl)) Yc (by rfl)) (by rfl)) (by omega) (by rfl) (by rfl) (by decide) (by rfl) (by rfl)))))))))))))))))),?_⟩
 refine cut5 (LM1 g.K a) ?_ ?_
 rotate_left
 ·intro N hN
  walk_at "rd"
  refine ⟨a,ns,12,rfl,hS,hl,by decide,fun D H1 f1=>⟨D,rfl,f1,fun c H2 hc s2 f2=>⟨_,rfl,by decide,_,rfl,YX (by decide) (by decide),by decide,D,rfl,f2,fun p sh H3 hpo s3 f3 d3=>?_⟩⟩⟩
  obtain ⟨z,h1,h2⟩:=X7 (c:Int) (j:=13) (by decide)
  obtain ⟨t1,h3,h4⟩:=X7 ((c:Int) / 13) (j:=6) (by decide)
  have h5:(1:Int)+(t1:Int)=((1+t1:Nat):Int):=by omega
  simp only [h1,h3,h5]
  exact hN _ _ ⟨D,_,z,t1,p,sh,rfl,by omega,by omega,hpo,d3⟩
 rintro σ H3 ⟨D,c,z,t1,p,sh,rfl,hz,ht,hpo,d3⟩
 refine cut3 (LM2 g.K a) ?_ ?_
 rotate_left
 ·intro N hN
  walk_at "rd"
  refine ⟨few (by decide),fun B gB=>?_⟩
  obtain ⟨o1,o2,o3,o4⟩:=id hpo
  have dB:=d3.keep (Yq.upd_new gB (.lst []))
  refine ⟨[],B,p,sh,z,rfl,Vh Ye,dB,o1,by omega,Vf (by omega),by omega,Vg (by omega) (by omega),fun S H4 s4 gS hS4=>⟨S,S,_,rfl,hS4,hS4,fun i x h=>Vr _ h,fun H5 s5=>⟨true,rfl,YW (by decide) ⟨S,rfl,_,.inl (SqL.of (s5 _ _ hS4)),YW (fun h=>h (by rw [Yr];rfl)) ?_⟩⟩⟩⟩
  exact hN _ _ ⟨D,_,z,t1,p,sh,B,S,_,rfl,hz,ht,hpo,dB.keep (s4.trans s5),s5 _ _ (s4 _ _ Ye),s5 _ _ hS4⟩
 rintro σ H5 ⟨D,c,z,t1,p,sh,B,S,o,rfl,hz,ht,hpo,d5,hB5,hS5⟩
 refine cut3 (LM2 g.K a) ?_ ?_
 rotate_left
 ·intro N hN
  walk_at "rd"
  obtain ⟨o1,o2,o3,o4⟩:=id hpo
  have hsB:∀ s,s≤z→sB (cnt (bkO []) sh s):=fun s hs=>Ybo o1 (by omega) (by omega) (by omega)
  have hsm:∀ un L k,L≤z→k≤z→sm (wz un (cnt (bkO []) sh) z L k):=fun un L k _ hk=>Yc7 L hk (Ybn un o1 (by omega) 0 (by omega))
  refine ⟨true,S,z,_,rfl,by omega,hS5,hsB,hsm _,fun Du H6 s6 gD hD=>⟨few (by decide),fun P1 g1=>?_⟩⟩
  rw [YaH] at hD
  have w1:=Yq.upd_new g1 (.tup [.str "rising",.ref p])
  have s61:=s6.trans w1
  obtain ⟨k1,k2,k3⟩:=Ycj false hpo
  refine ⟨[],B,P1,.cho false sh,z,rfl,Vh (s61 _ _ hB5),dk_r hpo Ye (d5.keep s61),k1,k3,Vf k2,by omega,Vg k2 (by omega),fun E H7 s7 gE hE=>⟨E,Du,_,rfl,hE,s7 _ _ (w1 _ _ hD),fun i x h=>Vr _ h,fun H8 s8=>⟨true,rfl,YW (by decide) ⟨few (by decide),fun P2 g2=>?_⟩⟩⟩⟩
  have w2:=Yq.upd_new g2 (.tup [.str "rising",.ref p])
  have s82:=((s61.trans s7).trans s8).trans w2
  refine ⟨[],B,P2,.cho false sh,z,rfl,Vh (s82 _ _ hB5),dk_r hpo Ye (d5.keep s82),k1,k3,Vf k2,by omega,Vg k2 (by omega),fun H9 s9=>⟨few (by decide),fun E2 gE2=>?_⟩⟩
  have hD9:=s9 _ _ (w2 _ _ (s8 _ _ (s7 _ _ (w1 _ _ hD))))
  have wE:=Yq.upd_new gE2 (.lst [.int (cnt (bkO []) (.cho false sh) z)])
  refine ⟨Du,rfl,_,SqL.of (wE _ _ hD9),fun F gF=>?_⟩
  rw [Y2,YaG]
  have wF:=Yq.upd_new gF (.lst [.int (cnt (bkO []) (.cho false sh) z)])
  refine ⟨E2,F,_,rfl,wF _ _ Ye,Ye,YaI _,fun H10 s10=>⟨true,rfl,YW (by decide) ?_⟩⟩
  have t10:=(((s82.trans s9).trans wE).trans wF).trans s10
  exact hN _ _ ⟨D,_,z,t1,p,sh,B,S,_,rfl,hz,ht,hpo,d5.keep t10,t10 _ _ hB5,t10 _ _ hS5⟩
 clear d5 hB5 hS5 hpo
 rintro σ H5 ⟨D,c,z,t1,p,sh,B,S,o,rfl,hz,ht,hpo,d5,hB5,hS5⟩
 refine cut3 (LM2 g.K a) ?_ ?_
 rotate_left
 ·intro N hN
  walk_at "rd"
  obtain ⟨o1,o2,o3,o4⟩:=id hpo
  have hsB:∀ s,s≤z→sB (cnt (bkO []) sh s):=fun s hs=>Ybo o1 (by omega) (by omega) (by omega)
  have hsm:∀ un L k,L≤z→k≤z→sm (wz un (cnt (bkO []) sh) z L k):=fun un L k _ hk=>Yc7 L hk (Ybn un o1 (by omega) 0 (by omega))
  refine ⟨false,S,z,_,rfl,by omega,hS5,hsB,hsm _,fun Du H6 s6 gD hD=>⟨few (by decide),fun P1 g1=>?_⟩⟩
  rw [YaH] at hD
  have w1:=Yq.upd_new g1 (.tup [.str "unlike",.ref p])
  have s61:=s6.trans w1
  obtain ⟨k1,k2,k3⟩:=Ycj true hpo
  refine ⟨[],B,P1,.cho true sh,z,rfl,Vh (s61 _ _ hB5),dk_u hpo Ye (d5.keep s61),k1,k3,Vf k2,by omega,Vg k2 (by omega),fun E H7 s7 gE hE=>⟨E,Du,_,rfl,hE,s7 _ _ (w1 _ _ hD),fun i x h=>Vr _ h,fun H8 s8=>⟨true,rfl,YW (by decide) ⟨few (by decide),fun P2 g2=>?_⟩⟩⟩⟩
  have w2:=Yq.upd_new g2 (.tup [.str "unlike",.ref p])
  have s82:=((s61.trans s7).trans s8).trans w2
  refine ⟨[],B,P2,.cho true sh,z,rfl,Vh (s82 _ _ hB5),dk_u hpo Ye (d5.keep s82),k1,k3,Vf k2,by omega,Vg k2 (by omega),fun H9 s9=>⟨few (by decide),fun E2 gE2=>?_⟩⟩
  have hD9:=s9 _ _ (w2 _ _ (s8 _ _ (s7 _ _ (w1 _ _ hD))))
  have wE:=Yq.upd_new gE2 (.lst [.int (cnt (bkO []) (.cho true sh) z)])
  refine ⟨Du,rfl,_,SqL.of (wE _ _ hD9),fun F gF=>?_⟩
  rw [Y2,YaG]
  have wF:=Yq.upd_new gF (.lst [.int (cnt (bkO []) (.cho true sh) z)])
  refine ⟨E2,F,_,rfl,wF _ _ Ye,Ye,YaI _,fun H10 s10=>⟨true,rfl,YW (by decide) ?_⟩⟩
  have t10:=(((s82.trans s9).trans wE).trans wF).trans s10
  exact hN _ _ ⟨D,_,z,t1,p,sh,B,S,_,rfl,hz,ht,hpo,d5.keep t10,t10 _ _ hB5,t10 _ _ hS5⟩
 clear d5 hB5 hS5 hpo
 rintro σ H5 ⟨D,c,z,t1,p,sh,B,S,o,rfl,hz,ht,hpo,d5,hB5,hS5⟩
 walk_at "rd"
 obtain ⟨i1,i2,i3⟩:=YcL (t:=1+t1) (by omega) hpo
 refine ⟨few (by decide),fun P5 g5=>?_⟩
 have w5:=Yq.upd_new g5 (.tup [.str "alike",.ref p,.int ((1+t1:Nat):Int)])
 refine ⟨[],B,P5,.alike sh (1+t1),z,rfl,Vh (w5 _ _ hB5),dk_a hpo Ye (d5.keep w5),i1,i3,Vf i2,by omega,Vg i2 (by omega),fun E5 H17 s17 gE5 hE5=>⟨S,1+t1,z,_,rfl,by omega,by omega,by omega,s17 _ _ (w5 _ _ hS5),fun Du3 H18 s18 gD3 hD3=>?_⟩⟩
 rw [← Yej] at hD3
 exact ⟨E5,Du3,_,rfl,s18 _ _ hE5,hD3,fun i x h=>Vr _ h,fun H19 s19=>q H19⟩
theorem us1 {α:Type} {us:List α} (h:us.length=1):∃ a0,us=[a0]:=by
 match us,h with
 | [a0],_=>exact ⟨_,rfl⟩
theorem us2 {α:Type} {us:List α} (h:us.length=2):∃ a0 a1,us=[a0,a1]:=by
 match us,h with
 | [a0,a1],_=>exact ⟨_,_,rfl⟩
theorem us3 {α:Type} {us:List α} (h:us.length=3):∃ a0 a1 a2,us=[a0,a1,a2]:=by
 match us,h with
 | [a0,a1,a2],_=>exact ⟨_,_,_,rfl⟩
structure Top (K:PySem.W.Frag) (mg:Str→Option Value) (Z3:Addr) (Z0:Addr) (Z1:Addr) (Za:Addr) (Z5:Addr) (Z4:Addr) (Z7:Addr) (Z9:Addr) (Z6:Addr) (Z8:Addr) (Z2:Addr):Prop where
 Z36:∀ P w base,(Gx.mk P w K mg base).Raw "sets_among" "sets_among" Z2Z ["n","m"]
 Z37:∀ P w base,(Gx.mk P w K mg base).Raw "bags_among" "bags_among" Z30 ["n","m"]
 Z02:∀ P w base,(Gx.mk P w K mg base).RawM Z2 "count_at" "Maker.count_at" Z11 ["self","size"]
 Z00:∀ P w base,(Gx.mk P w K mg base).RawM Z6 "count_at" "Maker.count_at" Z1f ["self","size"]
 Z06:∀ P w base,(Gx.mk P w K mg base).RawM Z7 "count_at" "Maker.count_at" Z1t ["self","size"]
 Z04:∀ P w base,(Gx.mk P w K mg base).RawM Z4 "count_at" "Maker.count_at" Z1h ["self","size"]
 Z05:∀ P w base,(Gx.mk P w K mg base).RawM Z5 "count_at" "Maker.count_at" Z1g ["self","size"]
 Z07:∀ P w base,(Gx.mk P w K mg base).RawM Z8 "count_at" "Maker.count_at" Z1u ["self","size"]
 Z03:∀ P w base,(Gx.mk P w K mg base).RawM Z3 "count_at" "Maker.count_at" Z12 ["self","size"]
 ZZ:∀ P w base,(Gx.mk P w K mg base).RawM Z0 "count_at" "Maker.count_at" Z0O ["self","size"]
 Z26:∀ P w base,(Gx.mk P w K mg base).Raw "least_distance" "least_distance" Z21 ["size"]
 Z0m:∀ P w base,(Gx.mk P w K mg base).RawM Z2 "reckoned" "WholeMaker.reckoned" Z0T ["self","size"]
 Z0w:∀ P w base,(Gx.mk P w K mg base).RawM Z6 "reckoned" "TextMaker.reckoned" Z19 ["self","size"]
 Z57:∀ P w base,(Gx.mk P w K mg base).Raw "ways_of" "ways_of" Z4U ["blocks"]
 Z0x:∀ P w base,(Gx.mk P w K mg base).RawM Z9 "blocks_at" "RowTable.blocks_at" Z1a ["self","place","left"]
 Z0C:∀ P w base,(Gx.mk P w K mg base).RawM Z9 "add_size" "RowTable.add_size" Z1o ["self","size"]
 Z0n:∀ P w base,(Gx.mk P w K mg base).RawM Z9 "ways_at" "RowTable.ways_at" Z1A ["self","place","left"]
 Z0D:∀ P w base,(Gx.mk P w K mg base).RawM Z7 "reckoned" "RowMaker.reckoned" Z1q ["self","size"]
 Z0o:∀ P w base,(Gx.mk P w K mg base).RawM Z5 "blocks_at" "ManyMaker.blocks_at" Z0U ["self","left"]
 Z0y:∀ P w base,(Gx.mk P w K mg base).RawM Z5 "reckoned" "ManyMaker.reckoned" Z1c ["self","size"]
 Z0E:∀ P w base,(Gx.mk P w K mg base).RawM Z8 "reckoned" "UseMaker.reckoned" Z1s ["self","size"]
 Z0p:∀ P w base,(Gx.mk P w K mg base).RawM Z4 "blocks_at" "PickMaker.blocks_at" Z0V ["self","size"]
 Z0z:∀ P w base,(Gx.mk P w K mg base).RawM Z4 "reckoned" "PickMaker.reckoned" Z1e ["self","size"]
 Z0q:∀ P w base,(Gx.mk P w K mg base).RawM Z3 "reckoned" "AlikeMaker.reckoned" Z0X ["self","size"]
 Z0r:∀ P w base,(Gx.mk P w K mg base).RawM Z1 "choices" "ChoiceTable.choices" Z0Y ["self","size","many"]
 Z0h:∀ P w base,(Gx.mk P w K mg base).RawM Z1 "blocks_at" "ChoiceTable.blocks_at" Z0I ["self","least","left"]
 Z0s:∀ P w base,(Gx.mk P w K mg base).RawM Z1 "add_row" "ChoiceTable.add_row" Z10 ["self","left"]
 Z0a:∀ P w base,(Gx.mk P w K mg base).RawM Z1 "ways_at" "ChoiceTable.ways_at" Z0Z ["self","least","left"]
 Z0k:∀ P w base,(Gx.mk P w K mg base).RawM Z0 "reckoned" "ChoiceMaker.reckoned" Z0L ["self","size"]
 Z4w:∀ P w base,(Gx.mk P w K mg base).Raw "parts_of" "parts_of" Z48 ["shape"]
 Z27:∀ P w base,(Gx.mk P w K mg base).RawC "Maker" "__init__" "Maker.__init__" Z25 ["self"]
 Z15:∀ P w base,(Gx.mk P w K mg base).RawI "WholeMaker" Z2 "WholeMaker.__init__" Z0S ["self","low","high"]
 Z1i:∀ P w base,(Gx.mk P w K mg base).RawI "TextMaker" Z6 "TextMaker.__init__" Z18 ["self","signs"]
 Z1j:∀ P w base,(Gx.mk P w K mg base).RawI "ManyMaker" Z5 "ManyMaker.__init__" Z1b ["self","part"]
 Z1k:∀ P w base,(Gx.mk P w K mg base).RawI "PickMaker" Z4 "PickMaker.__init__" Z1d ["self","marks","parts"]
 Z1v:∀ P w base,(Gx.mk P w K mg base).RawI "UseMaker" Z8 "UseMaker.__init__" Z1r ["self"]
 Z16:∀ P w base,(Gx.mk P w K mg base).RawI "AlikeMaker" Z3 "AlikeMaker.__init__" Z0W ["self","part","times"]
 Z0Q:∀ P w base,(Gx.mk P w K mg base).RawI "ChoiceTable" Z1 "ChoiceTable.__init__" Z0M ["self","part","unlike"]
 Z0R:∀ P w base,(Gx.mk P w K mg base).RawI "ChoiceMaker" Z0 "ChoiceMaker.__init__" Z0K ["self","part","unlike"]
 Z1w:∀ P w base,(Gx.mk P w K mg base).RawI "RowTable" Z9 "RowTable.__init__" Z1n ["self","parts"]
 Z1x:∀ P w base,(Gx.mk P w K mg base).RawI "RowMaker" Z7 "RowMaker.__init__" Z1p ["self","parts"]
 Z1L:∀ P w base,(Gx.mk P w K mg base).RawI "Lister" Za "Lister.__init__" Z1J ["self","book"]
 Z4x:∀ P w base,(Gx.mk P w K mg base).Raw "shape_of" "shape_of" Z49 ["book","name"]
 Z0F:∀ P w base,(Gx.mk P w K mg base).RawM Za "new_maker" "Lister.new_maker" Z1z ["self","shape"]
 Z0H:∀ P w base,(Gx.mk P w K mg base).RawM Za "add_use" "Lister.add_use" Z24 ["self","shape"]
 Z0B:∀ P w base,(Gx.mk P w K mg base).RawM Za "maker_of" "Lister.maker_of" Z1K ["self","shape"]
 Z3C:∀ P w base,(Gx.mk P w K mg base).Raw "maker_for" "maker_for" Z3k ["book","shape"]
 Z3D:∀ P w base,(Gx.mk P w K mg base).Raw "counts_to" "counts_to" Z3l ["book","shape","size"]
 Z58:∀ P w base,(Gx.mk P w K mg base).Raw "counted" "counted" Z4V ["book","shape","size"]
 Z3E:∀ P w base,(Gx.mk P w K mg base).Raw "_law_whole" "_law_whole" Z3m ["_law_found"]
 Z59:∀ P w base,(Gx.mk P w K mg base).Raw "_law_mix" "_law_mix" Z4X ["_law_script","_law_k","_law_step"]
 Z4y:∀ P w base,(Gx.mk P w K mg base).Raw "_law_feed" "_law_feed" Z4a ["_law_script","_law_many"]
 Z4z:∀ P w base,(Gx.mk P w K mg base).Raw "_law_next" "_law_next" Z4b ["_law_feed_here"]
 Z1M:∀ P w base,(Gx.mk P w K mg base).Raw "_law_whole_shape" "_law_whole_shape" Z1I ["_law_feed_here"]
 Z28:∀ P w base,(Gx.mk P w K mg base).Raw "_law_text_shape" "_law_text_shape" Z22 ["_law_feed_here"]
 Z38:∀ P w base,(Gx.mk P w K mg base).Raw "_law_counts" "_law_counts" Z31 ["_law_found","_law_due_here"]
 Z4A:∀ P w base,(Gx.mk P w K mg base).Raw "_law_leaf" "_law_leaf" Z4c ["_law_feed_here"]
 Z4B:∀ P w base,(Gx.mk P w K mg base).Raw "_law_part" "_law_part" Z4d ["_law_feed_here"]
 Z3F:∀ P w base,(Gx.mk P w K mg base).Raw "_law_among" "_law_among" Z3n ["_law_bags","_law_many","_law_chosen"]
 Z5a:∀ P w base,(Gx.mk P w K mg base).Raw "_law_due" "_law_due" Z4Y ["_law_bags","_law_some","_law_size"]
 Z2u:∀ P w base,(Gx.mk P w K mg base).Raw "_law_alike_due" "_law_alike_due" Z2m ["_law_some","_law_times","_law_size"]
 Zb:Cls K Z3
 Zk:Yb K Z3 "counts"
 Zq:Yb K Z3 "part"
 Ze:Yb K Z3 "times"
 Zf:Cls K Z0
 Zc:Yb K Z0 "counts"
 Zv:Yb K Z0 "part"
 Zn:Yb K Z0 "table"
 ZB:Cls K Z1
 ZG:Yb K Z1 "part"
 ZI:Yb K Z1 "unlike"
 ZH:Yb K Z1 "rows"
 ZX:Cls K Za
 Z01:Yb K Za "book"
 ZO:Yb K Za "makers"
 Zj:Cls K Z5
 Zi:Yb K Z5 "counts"
 Zm:Yb K Z5 "part"
 Zu:Cls K Z4
 Zh:Yb K Z4 "counts"
 ZA:Yb K Z4 "marks"
 Zz:Yb K Z4 "parts"
 ZD:Cls K Z7
 Zo:Yb K Z7 "counts"
 ZF:Yb K Z7 "parts"
 ZC:Yb K Z7 "table"
 ZL:Cls K Z9
 ZU:Yb K Z9 "parts"
 ZK:Yb K Z9 "ways"
 Zw:Cls K Z6
 Zg:Yb K Z6 "counts"
 Zy:Yb K Z6 "signs"
 Zt:Cls K Z8
 Zp:Yb K Z8 "counts"
 Zl:Yb K Z8 "named"
 Zr:Cls K Z2
 Zd:Yb K Z2 "counts"
 ZE:Yb K Z2 "low"
 Zx:Yb K Z2 "span"
 Z4I:∀ P w base,(Gx.mk P w K mg base).ConT "OF_ONE_PART" ([.str "many",.str "rising",.str "unlike"])
 b_bool:mg "bool"=none
 b_int:mg "int"=none
 Z0u:mg "isinstance"=none
 b_len:mg "len"=none
 b_list:mg "list"=none
 b_max:mg "max"=none
 b_min:mg "min"=none
 ZP:mg "range"=none
 b_sum:mg "sum"=none
 b_zip:mg "zip"=none
theorem YcN {K:PySem.W.Frag} {mg:Str→Option Value} {Z3 Z0 Z1 Za Z5 Z4 Z7 Z9 Z6 Z8 Z2:Addr}  (t:Top K mg Z3 Z0 Z1 Za Z5 Z4 Z7 Z9 Z6 Z8 Z2) (P:Program) (w:World) (base:Heap) :
  VT (Gx.mk P w K mg base) 103 ["_law_script","_law_feed_here","_law_cell","_law_size","_law_times","_law_part_here","_law_book","_law_some","_law_due_here"] "law" Qa (V6 K):=by
 have Z39:=UU (g:=Gx.mk P w K mg base) (Z3:=Z3) (Z0:=Z0) (Z1:=Z1) (Za:=Za) (Z5:=Z5) (Z4:=Z4) (Z7:=Z7) (Z9:=Z9) (Z6:=Z6) (Z8:=Z8) (Z2:=Z2) (t.Z36 P w base) t.ZP
 have Z5b:=UV (g:=Gx.mk P w K mg base) (k:=1) (Z3:=Z3) (Z0:=Z0) (Z1:=Z1) (Za:=Za) (Z5:=Z5) (Z4:=Z4) (Z7:=Z7) (Z9:=Z9) (Z6:=Z6) (Z8:=Z8) (Z2:=Z2) (t.Z37 P w base) (Z39.mono (by decide))
 have Z3a:=Z5g (g:=Gx.mk P w K mg base) (Z3:=Z3) (Z0:=Z0) (Z1:=Z1) (Za:=Za) (Z5:=Z5) (Z4:=Z4) (Z7:=Z7) (Z9:=Z9) (Z6:=Z6) (Z8:=Z8) (Z2:=Z2) (t.Z26 P w base)
 have Z17:=Ybc (g:=Gx.mk P w K mg base) (Z3:=Z3) (Z0:=Z0) (Z1:=Z1) (Za:=Za) (Z5:=Z5) (Z4:=Z4) (Z7:=Z7) (Z9:=Z9) (Z6:=Z6) (Z8:=Z8) (Z2:=Z2) (t.Z57 P w base) t.b_sum
 have Z3i:∀ i:Nat,((Gx.mk P w K mg base).Me (2+i+1) Z2 "count_at" ["self","size"] (Zs (Cs.mk Z2 Z6 Z7 Z9 Z5 Z4 Z8 Z3 Z0 Z1) 0 (i+1)))∧((Gx.mk P w K mg base).Me (2+i+1) Z6 "count_at" ["self","size"] (Zs (Cs.mk Z2 Z6 Z7 Z9 Z5 Z4 Z8 Z3 Z0 Z1) 1 (i+1)))∧((Gx.mk P w K mg base).Me (2+i+1) Z7 "count_at" ["self","size"] (Zs (Cs.mk Z2 Z6 Z7 Z9 Z5 Z4 Z8 Z3 Z0 Z1) 2 (i+1)))∧((Gx.mk P w K mg base).Me (2+i+1) Z4 "count_at" ["self","size"] (Zs (Cs.mk Z2 Z6 Z7 Z9 Z5 Z4 Z8 Z3 Z0 Z1) 3 (i+1)))∧((Gx.mk P w K mg base).Me (2+i+1) Z5 "count_at" ["self","size"] (Zs (Cs.mk Z2 Z6 Z7 Z9 Z5 Z4 Z8 Z3 Z0 Z1) 4 (i+1)))∧((Gx.mk P w K mg base).Me (2+i+1) Z8 "count_at" ["self","size"] (Zs (Cs.mk Z2 Z6 Z7 Z9 Z5 Z4 Z8 Z3 Z0 Z1) 5 (i+1)))∧((Gx.mk P w K mg base).Me (2+i+1) Z3 "count_at" ["self","size"] (Zs (Cs.mk Z2 Z6 Z7 Z9 Z5 Z4 Z8 Z3 Z0 Z1) 6 (i+1)))∧((Gx.mk P w K mg base).Me (2+i+1) Z0 "count_at" ["self","size"] (Zs (Cs.mk Z2 Z6 Z7 Z9 Z5 Z4 Z8 Z3 Z0 Z1) 7 (i+1)))∧((Gx.mk P w K mg base).Me (2+i+1) Z9 "blocks_at" ["self","place","left"] (Z2T (Cs.mk Z2 Z6 Z7 Z9 Z5 Z4 Z8 Z3 Z0 Z1) (i+1)))∧((Gx.mk P w K mg base).Me (2+i+1) Z9 "add_size" ["self","size"] (Uc (Cs.mk Z2 Z6 Z7 Z9 Z5 Z4 Z8 Z3 Z0 Z1) (i+1)))∧((Gx.mk P w K mg base).Me (2+i+1) Z9 "ways_at" ["self","place","left"] (Va (Cs.mk Z2 Z6 Z7 Z9 Z5 Z4 Z8 Z3 Z0 Z1) (i+1)))∧((Gx.mk P w K mg base).Me (2+i+1) Z5 "blocks_at" ["self","left"] (Z2U (Cs.mk Z2 Z6 Z7 Z9 Z5 Z4 Z8 Z3 Z0 Z1) (i+1)))∧((Gx.mk P w K mg base).Me (2+i+1) Z4 "blocks_at" ["self","size"] (Z2V (Cs.mk Z2 Z6 Z7 Z9 Z5 Z4 Z8 Z3 Z0 Z1) (i+1)))∧((Gx.mk P w K mg base).Me (2+i+1) Z2 "reckoned" ["self","size"] (YM (Cs.mk Z2 Z6 Z7 Z9 Z5 Z4 Z8 Z3 Z0 Z1) 0 (i+1)))∧((Gx.mk P w K mg base).Me (2+i+1) Z6 "reckoned" ["self","size"] (YM (Cs.mk Z2 Z6 Z7 Z9 Z5 Z4 Z8 Z3 Z0 Z1) 1 (i+1)))∧((Gx.mk P w K mg base).Me (2+i+1) Z7 "reckoned" ["self","size"] (YM (Cs.mk Z2 Z6 Z7 Z9 Z5 Z4 Z8 Z3 Z0 Z1) 2 (i+1)))∧((Gx.mk P w K mg base).Me (2+i+1) Z5 "reckoned" ["self","size"] (YM (Cs.mk Z2 Z6 Z7 Z9 Z5 Z4 Z8 Z3 Z0 Z1) 4 (i+1)))∧((Gx.mk P w K mg base).Me (2+i+1) Z8 "reckoned" ["self","size"] (YM (Cs.mk Z2 Z6 Z7 Z9 Z5 Z4 Z8 Z3 Z0 Z1) 5 (i+1)))∧((Gx.mk P w K mg base).Me (2+i+1) Z4 "reckoned" ["self","size"] (YM (Cs.mk Z2 Z6 Z7 Z9 Z5 Z4 Z8 Z3 Z0 Z1) 3 (i+1)))∧((Gx.mk P w K mg base).Me (2+i+1) Z3 "reckoned" ["self","size"] (YM (Cs.mk Z2 Z6 Z7 Z9 Z5 Z4 Z8 Z3 Z0 Z1) 6 (i+1)))∧((Gx.mk P w K mg base).Me (2+i+1) Z1 "choices" ["self","size","many"] (Z2W (Cs.mk Z2 Z6 Z7 Z9 Z5 Z4 Z8 Z3 Z0 Z1) (i+1)))∧((Gx.mk P w K mg base).Me (2+i+1) Z1 "blocks_at" ["self","least","left"] (Z2X (Cs.mk Z2 Z6 Z7 Z9 Z5 Z4 Z8 Z3 Z0 Z1) (i+1)))∧((Gx.mk P w K mg base).Me (2+i+1) Z1 "add_row" ["self","left"] (VN (Cs.mk Z2 Z6 Z7 Z9 Z5 Z4 Z8 Z3 Z0 Z1) (i+1)))∧((Gx.mk P w K mg base).Me (2+i+1) Z1 "ways_at" ["self","least","left"] (Z33 (Cs.mk Z2 Z6 Z7 Z9 Z5 Z4 Z8 Z3 Z0 Z1) (i+1)))∧((Gx.mk P w K mg base).Me (2+i+1) Z0 "reckoned" ["self","size"] (YM (Cs.mk Z2 Z6 Z7 Z9 Z5 Z4 Z8 Z3 Z0 Z1) 7 (i+1))):=by
  intro i
  induction i with
  | zero=>exact ⟨Z1P (g:=Gx.mk P w K mg base) (m:=0) (k:=2) (Z3:=Z3) (Z0:=Z0) (Z1:=Z1) (Za:=Za) (Z5:=Z5) (Z4:=Z4) (Z7:=Z7) (Z9:=Z9) (Z6:=Z6) (Z8:=Z8) (Z2:=Z2) (t.Z02 P w base) ((t.Z0m P w base).none (fun _ _ _ _ h=>X9 h)) t.b_len t.Zr t.Zd t.ZE t.Zx,Z2a (g:=Gx.mk P w K mg base) (m:=0) (k:=2) (Z3:=Z3) (Z0:=Z0) (Z1:=Z1) (Za:=Za) (Z5:=Z5) (Z4:=Z4) (Z7:=Z7) (Z9:=Z9) (Z6:=Z6) (Z8:=Z8) (Z2:=Z2) (t.Z00 P w base) ((t.Z0w P w base).none (fun _ _ _ _ h=>X9 h)) t.b_len t.Zw t.Zg t.Zy,Z2o (g:=Gx.mk P w K mg base) (m:=0) (k:=2) (Z3:=Z3) (Z0:=Z0) (Z1:=Z1) (Za:=Za) (Z5:=Z5) (Z4:=Z4) (Z7:=Z7) (Z9:=Z9) (Z6:=Z6) (Z8:=Z8) (Z2:=Z2) (t.Z06 P w base) ((t.Z0D P w base).none (fun _ _ _ _ h=>X9 h)) t.b_len t.ZD t.Zo t.ZF t.ZC,Z2b (g:=Gx.mk P w K mg base) (m:=0) (k:=2) (Z3:=Z3) (Z0:=Z0) (Z1:=Z1) (Za:=Za) (Z5:=Z5) (Z4:=Z4) (Z7:=Z7) (Z9:=Z9) (Z6:=Z6) (Z8:=Z8) (Z2:=Z2) (t.Z04 P w base) ((t.Z0z P w base).none (fun _ _ _ _ h=>X9 h)) t.b_len t.Zu t.Zh t.ZA t.Zz,Z2c (g:=Gx.mk P w K mg base) (m:=0) (k:=2) (Z3:=Z3) (Z0:=Z0) (Z1:=Z1) (Za:=Za) (Z5:=Z5) (Z4:=Z4) (Z7:=Z7) (Z9:=Z9) (Z6:=Z6) (Z8:=Z8) (Z2:=Z2) (t.Z05 P w base) ((t.Z0y P w base).none (fun _ _ _ _ h=>X9 h)) t.b_len t.Zj t.Zi t.Zm,Z2p (g:=Gx.mk P w K mg base) (m:=0) (k:=2) (Z3:=Z3) (Z0:=Z0) (Z1:=Z1) (Za:=Za) (Z5:=Z5) (Z4:=Z4) (Z7:=Z7) (Z9:=Z9) (Z6:=Z6) (Z8:=Z8) (Z2:=Z2) (t.Z07 P w base) ((t.Z0E P w base).none (fun _ _ _ _ h=>X9 h)) t.b_len t.Zt t.Zp t.Zl,Z1Q (g:=Gx.mk P w K mg base) (m:=0) (k:=2) (Z3:=Z3) (Z0:=Z0) (Z1:=Z1) (Za:=Za) (Z5:=Z5) (Z4:=Z4) (Z7:=Z7) (Z9:=Z9) (Z6:=Z6) (Z8:=Z8) (Z2:=Z2) (t.Z03 P w base) ((t.Z0q P w base).none (fun _ _ _ _ h=>X9 h)) t.b_len t.Zb t.Zk t.Zq t.Ze,Z1G (g:=Gx.mk P w K mg base) (m:=0) (k:=2) (Z3:=Z3) (Z0:=Z0) (Z1:=Z1) (Za:=Za) (Z5:=Z5) (Z4:=Z4) (Z7:=Z7) (Z9:=Z9) (Z6:=Z6) (Z8:=Z8) (Z2:=Z2) (t.ZZ P w base) ((t.Z0k P w base).none (fun _ _ _ _ h=>X9 h)) t.b_len t.Zf t.Zc t.Zv t.Zn,Z2e (g:=Gx.mk P w K mg base) (m:=0) (k:=2) (Z3:=Z3) (Z0:=Z0) (Z1:=Z1) (Za:=Za) (Z5:=Z5) (Z4:=Z4) (Z7:=Z7) (Z9:=Z9) (Z6:=Z6) (Z8:=Z8) (Z2:=Z2) (t.Z0x P w base) ((t.Z0n P w base).none (fun _ _ _ _ h=>Yav h)) ((t.Z02 P w base).none (fun _ _ _ _ h=>ZJ h)) ((t.Z00 P w base).none (fun _ _ _ _ h=>ZJ h)) ((t.Z06 P w base).none (fun _ _ _ _ h=>ZJ h)) ((t.Z05 P w base).none (fun _ _ _ _ h=>ZJ h)) ((t.Z04 P w base).none (fun _ _ _ _ h=>ZJ h)) ((t.Z07 P w base).none (fun _ _ _ _ h=>ZJ h)) ((t.Z03 P w base).none (fun _ _ _ _ h=>ZJ h)) ((t.ZZ P w base).none (fun _ _ _ _ h=>ZJ h)) t.ZP t.Zb t.Zk t.Zq t.Ze t.Zf t.Zc t.Zv t.Zn t.Zj t.Zi t.Zm t.Zu t.Zh t.ZA t.Zz t.ZD t.Zo t.ZF t.ZC t.ZL t.ZU t.ZK t.Zw t.Zg t.Zy t.Zt t.Zp t.Zl t.Zr t.Zd t.ZE t.Zx,Z2r (g:=Gx.mk P w K mg base) (m:=0) (k:=2) (Z3:=Z3) (Z0:=Z0) (Z1:=Z1) (Za:=Za) (Z5:=Z5) (Z4:=Z4) (Z7:=Z7) (Z9:=Z9) (Z6:=Z6) (Z8:=Z8) (Z2:=Z2) (t.Z0C P w base) (Z17.mono (by omega)) ((t.Z0x P w base).none (fun _ _ _ _ h=>Ybd h)) t.b_len t.ZP t.ZL t.ZU t.ZK,Z2C (g:=Gx.mk P w K mg base) (m:=0) (k:=2) (Z3:=Z3) (Z0:=Z0) (Z1:=Z1) (Za:=Za) (Z5:=Z5) (Z4:=Z4) (Z7:=Z7) (Z9:=Z9) (Z6:=Z6) (Z8:=Z8) (Z2:=Z2) (t.Z0n P w base) ((t.Z0C P w base).none (fun _ _ _ _ h=>Yd8 h)) t.b_len t.ZL t.ZU t.ZK,Z1S (g:=Gx.mk P w K mg base) (m:=0) (k:=2) (Z3:=Z3) (Z0:=Z0) (Z1:=Z1) (Za:=Za) (Z5:=Z5) (Z4:=Z4) (Z7:=Z7) (Z9:=Z9) (Z6:=Z6) (Z8:=Z8) (Z2:=Z2) (t.Z0o P w base) ((t.Z02 P w base).none (fun _ _ _ _ h=>ZJ h)) ((t.Z00 P w base).none (fun _ _ _ _ h=>ZJ h)) ((t.Z06 P w base).none (fun _ _ _ _ h=>ZJ h)) ((t.Z05 P w base).none (fun _ _ _ _ h=>ZJ h)) ((t.Z04 P w base).none (fun _ _ _ _ h=>ZJ h)) ((t.Z07 P w base).none (fun _ _ _ _ h=>ZJ h)) ((t.Z03 P w base).none (fun _ _ _ _ h=>ZJ h)) ((t.ZZ P w base).none (fun _ _ _ _ h=>ZJ h)) t.ZP t.Zb t.Zk t.Zq t.Ze t.Zf t.Zc t.Zv t.Zn t.Zj t.Zi t.Zm t.Zu t.Zh t.ZA t.Zz t.ZD t.Zo t.ZF t.ZC t.Zw t.Zg t.Zy t.Zt t.Zp t.Zl t.Zr t.Zd t.ZE t.Zx,Z1T (g:=Gx.mk P w K mg base) (m:=0) (k:=2) (Z3:=Z3) (Z0:=Z0) (Z1:=Z1) (Za:=Za) (Z5:=Z5) (Z4:=Z4) (Z7:=Z7) (Z9:=Z9) (Z6:=Z6) (Z8:=Z8) (Z2:=Z2) (t.Z0p P w base) ((t.Z02 P w base).none (fun _ _ _ _ h=>ZJ h)) ((t.Z00 P w base).none (fun _ _ _ _ h=>ZJ h)) ((t.Z06 P w base).none (fun _ _ _ _ h=>ZJ h)) ((t.Z05 P w base).none (fun _ _ _ _ h=>ZJ h)) ((t.Z04 P w base).none (fun _ _ _ _ h=>ZJ h)) ((t.Z07 P w base).none (fun _ _ _ _ h=>ZJ h)) ((t.Z03 P w base).none (fun _ _ _ _ h=>ZJ h)) ((t.ZZ P w base).none (fun _ _ _ _ h=>ZJ h)) t.Zb t.Zk t.Zq t.Ze t.Zf t.Zc t.Zv t.Zn t.Zj t.Zi t.Zm t.Zu t.Zh t.ZA t.Zz t.ZD t.Zo t.ZF t.ZC t.Zw t.Zg t.Zy t.Zt t.Zp t.Zl t.Zr t.Zd t.ZE t.Zx,Z1R (g:=Gx.mk P w K mg base) (m:=0) (k:=2) (Z3:=Z3) (Z0:=Z0) (Z1:=Z1) (Za:=Za) (Z5:=Z5) (Z4:=Z4) (Z7:=Z7) (Z9:=Z9) (Z6:=Z6) (Z8:=Z8) (Z2:=Z2) (t.Z0m P w base) (Z3a.mono (by omega)) t.b_max t.b_min t.Zr t.Zd t.ZE t.Zx,Z2d (g:=Gx.mk P w K mg base) (m:=0) (k:=2) (Z3:=Z3) (Z0:=Z0) (Z1:=Z1) (Za:=Za) (Z5:=Z5) (Z4:=Z4) (Z7:=Z7) (Z9:=Z9) (Z6:=Z6) (Z8:=Z8) (Z2:=Z2) (t.Z0w P w base) ((t.Z00 P w base).none (fun _ _ _ _ h=>ZJ h)) t.b_len t.Zw t.Zg t.Zy,Z2s (g:=Gx.mk P w K mg base) (m:=0) (k:=2) (Z3:=Z3) (Z0:=Z0) (Z1:=Z1) (Za:=Za) (Z5:=Z5) (Z4:=Z4) (Z7:=Z7) (Z9:=Z9) (Z6:=Z6) (Z8:=Z8) (Z2:=Z2) (t.Z0D P w base) ((t.Z0n P w base).none (fun _ _ _ _ h=>Yav h)) t.ZD t.Zo t.ZF t.ZC t.ZL t.ZU t.ZK,Z2f (g:=Gx.mk P w K mg base) (m:=0) (k:=2) (Z3:=Z3) (Z0:=Z0) (Z1:=Z1) (Za:=Za) (Z5:=Z5) (Z4:=Z4) (Z7:=Z7) (Z9:=Z9) (Z6:=Z6) (Z8:=Z8) (Z2:=Z2) (t.Z0y P w base) (Z17.mono (by omega)) ((t.Z0o P w base).none (fun _ _ _ _ h=>Ybe h)) t.Zj t.Zi t.Zm,Z2t (g:=Gx.mk P w K mg base) (m:=0) (k:=2) (Z3:=Z3) (Z0:=Z0) (Z1:=Z1) (Za:=Za) (Z5:=Z5) (Z4:=Z4) (Z7:=Z7) (Z9:=Z9) (Z6:=Z6) (Z8:=Z8) (Z2:=Z2) (t.Z0E P w base) ((t.Z02 P w base).none (fun _ _ _ _ h=>ZJ h)) ((t.Z00 P w base).none (fun _ _ _ _ h=>ZJ h)) ((t.Z06 P w base).none (fun _ _ _ _ h=>ZJ h)) ((t.Z05 P w base).none (fun _ _ _ _ h=>ZJ h)) ((t.Z04 P w base).none (fun _ _ _ _ h=>ZJ h)) ((t.Z07 P w base).none (fun _ _ _ _ h=>ZJ h)) ((t.Z03 P w base).none (fun _ _ _ _ h=>ZJ h)) ((t.ZZ P w base).none (fun _ _ _ _ h=>ZJ h)) t.Zb t.Zk t.Zq t.Ze t.Zf t.Zc t.Zv t.Zn t.Zj t.Zi t.Zm t.Zu t.Zh t.ZA t.Zz t.ZD t.Zo t.ZF t.ZC t.Zw t.Zg t.Zy t.Zt t.Zp t.Zl t.Zr t.Zd t.ZE t.Zx,Z2g (g:=Gx.mk P w K mg base) (m:=0) (k:=2) (Z3:=Z3) (Z0:=Z0) (Z1:=Z1) (Za:=Za) (Z5:=Z5) (Z4:=Z4) (Z7:=Z7) (Z9:=Z9) (Z6:=Z6) (Z8:=Z8) (Z2:=Z2) (t.Z0z P w base) (Z17.mono (by omega)) ((t.Z0p P w base).none (fun _ _ _ _ h=>Ybf h)) t.Zu t.Zh t.ZA t.Zz,Z1U (g:=Gx.mk P w K mg base) (m:=0) (k:=2) (Z3:=Z3) (Z0:=Z0) (Z1:=Z1) (Za:=Za) (Z5:=Z5) (Z4:=Z4) (Z7:=Z7) (Z9:=Z9) (Z6:=Z6) (Z8:=Z8) (Z2:=Z2) (t.Z0q P w base) ((t.Z02 P w base).none (fun _ _ _ _ h=>ZJ h)) ((t.Z00 P w base).none (fun _ _ _ _ h=>ZJ h)) ((t.Z06 P w base).none (fun _ _ _ _ h=>ZJ h)) ((t.Z05 P w base).none (fun _ _ _ _ h=>ZJ h)) ((t.Z04 P w base).none (fun _ _ _ _ h=>ZJ h)) ((t.Z07 P w base).none (fun _ _ _ _ h=>ZJ h)) ((t.Z03 P w base).none (fun _ _ _ _ h=>ZJ h)) ((t.ZZ P w base).none (fun _ _ _ _ h=>ZJ h)) t.Zb t.Zk t.Zq t.Ze t.Zf t.Zc t.Zv t.Zn t.Zj t.Zi t.Zm t.Zu t.Zh t.ZA t.Zz t.ZD t.Zo t.ZF t.ZC t.Zw t.Zg t.Zy t.Zt t.Zp t.Zl t.Zr t.Zd t.ZE t.Zx,Z1V (g:=Gx.mk P w K mg base) (m:=0) (k:=2) (Z3:=Z3) (Z0:=Z0) (Z1:=Z1) (Za:=Za) (Z5:=Z5) (Z4:=Z4) (Z7:=Z7) (Z9:=Z9) (Z6:=Z6) (Z8:=Z8) (Z2:=Z2) (t.Z0r P w base) (Z39.mono (by omega)) (Z5b.mono (by omega)) ((t.Z02 P w base).none (fun _ _ _ _ h=>ZJ h)) ((t.Z00 P w base).none (fun _ _ _ _ h=>ZJ h)) ((t.Z06 P w base).none (fun _ _ _ _ h=>ZJ h)) ((t.Z05 P w base).none (fun _ _ _ _ h=>ZJ h)) ((t.Z04 P w base).none (fun _ _ _ _ h=>ZJ h)) ((t.Z07 P w base).none (fun _ _ _ _ h=>ZJ h)) ((t.Z03 P w base).none (fun _ _ _ _ h=>ZJ h)) ((t.ZZ P w base).none (fun _ _ _ _ h=>ZJ h)) t.Zb t.Zk t.Zq t.Ze t.Zf t.Zc t.Zv t.Zn t.ZB t.ZG t.ZI t.ZH t.Zj t.Zi t.Zm t.Zu t.Zh t.ZA t.Zz t.ZD t.Zo t.ZF t.ZC t.Zw t.Zg t.Zy t.Zt t.Zp t.Zl t.Zr t.Zd t.ZE t.Zx,Z1E (g:=Gx.mk P w K mg base) (m:=0) (k:=2) (Z3:=Z3) (Z0:=Z0) (Z1:=Z1) (Za:=Za) (Z5:=Z5) (Z4:=Z4) (Z7:=Z7) (Z9:=Z9) (Z6:=Z6) (Z8:=Z8) (Z2:=Z2) (t.Z0h P w base) ((t.Z0r P w base).none (fun _ _ _ _ h=>Ybh h)) ((t.Z0a P w base).none (fun _ _ _ _ h=>QI h)) t.ZP t.ZB t.ZG t.ZI t.ZH,Z1W (g:=Gx.mk P w K mg base) (m:=0) (k:=2) (Z3:=Z3) (Z0:=Z0) (Z1:=Z1) (Za:=Za) (Z5:=Z5) (Z4:=Z4) (Z7:=Z7) (Z9:=Z9) (Z6:=Z6) (Z8:=Z8) (Z2:=Z2) (t.Z0s P w base) (Z17.mono (by omega)) ((t.Z0h P w base).none (fun _ _ _ _ h=>Ybi h)) t.ZP t.ZB t.ZG t.ZI t.ZH,Z1X (g:=Gx.mk P w K mg base) (m:=0) (k:=2) (Z3:=Z3) (Z0:=Z0) (Z1:=Z1) (Za:=Za) (Z5:=Z5) (Z4:=Z4) (Z7:=Z7) (Z9:=Z9) (Z6:=Z6) (Z8:=Z8) (Z2:=Z2) (t.Z0a P w base) ((t.Z0s P w base).none (fun _ _ _ _ h=>YdB h)) t.b_len t.ZB t.ZG t.ZI t.ZH,Z1H (g:=Gx.mk P w K mg base) (m:=0) (k:=2) (Z3:=Z3) (Z0:=Z0) (Z1:=Z1) (Za:=Za) (Z5:=Z5) (Z4:=Z4) (Z7:=Z7) (Z9:=Z9) (Z6:=Z6) (Z8:=Z8) (Z2:=Z2) (t.Z0k P w base) ((t.Z0a P w base).none (fun _ _ _ _ h=>QI h)) t.Zf t.Zc t.Zv t.Zn t.ZB t.ZG t.ZI t.ZH⟩
  | succ i ih =>
   obtain ⟨Z0b,Z08,Z0i,Z0f,Z0g,Z0j,Z0c,Z09,Z4C,Z4Q,Z2L,Z42,Z43,Z44,Z4D,Z4R,Z4E,Z4S,Z4F,Z45,Z46,Z3j,Z47,Z2h,Z3G⟩:=ih
   exact ⟨Z1P (g:=Gx.mk P w K mg base) (m:=i+1) (k:=2+i+1) (Z3:=Z3) (Z0:=Z0) (Z1:=Z1) (Za:=Za) (Z5:=Z5) (Z4:=Z4) (Z7:=Z7) (Z9:=Z9) (Z6:=Z6) (Z8:=Z8) (Z2:=Z2) (t.Z02 P w base) Z44 t.b_len t.Zr t.Zd t.ZE t.Zx,Z2a (g:=Gx.mk P w K mg base) (m:=i+1) (k:=2+i+1) (Z3:=Z3) (Z0:=Z0) (Z1:=Z1) (Za:=Za) (Z5:=Z5) (Z4:=Z4) (Z7:=Z7) (Z9:=Z9) (Z6:=Z6) (Z8:=Z8) (Z2:=Z2) (t.Z00 P w base) Z4D t.b_len t.Zw t.Zg t.Zy,Z2o (g:=Gx.mk P w K mg base) (m:=i+1) (k:=2+i+1) (Z3:=Z3) (Z0:=Z0) (Z1:=Z1) (Za:=Za) (Z5:=Z5) (Z4:=Z4) (Z7:=Z7) (Z9:=Z9) (Z6:=Z6) (Z8:=Z8) (Z2:=Z2) (t.Z06 P w base) Z4R t.b_len t.ZD t.Zo t.ZF t.ZC,Z2b (g:=Gx.mk P w K mg base) (m:=i+1) (k:=2+i+1) (Z3:=Z3) (Z0:=Z0) (Z1:=Z1) (Za:=Za) (Z5:=Z5) (Z4:=Z4) (Z7:=Z7) (Z9:=Z9) (Z6:=Z6) (Z8:=Z8) (Z2:=Z2) (t.Z04 P w base) Z4F t.b_len t.Zu t.Zh t.ZA t.Zz,Z2c (g:=Gx.mk P w K mg base) (m:=i+1) (k:=2+i+1) (Z3:=Z3) (Z0:=Z0) (Z1:=Z1) (Za:=Za) (Z5:=Z5) (Z4:=Z4) (Z7:=Z7) (Z9:=Z9) (Z6:=Z6) (Z8:=Z8) (Z2:=Z2) (t.Z05 P w base) Z4E t.b_len t.Zj t.Zi t.Zm,Z2p (g:=Gx.mk P w K mg base) (m:=i+1) (k:=2+i+1) (Z3:=Z3) (Z0:=Z0) (Z1:=Z1) (Za:=Za) (Z5:=Z5) (Z4:=Z4) (Z7:=Z7) (Z9:=Z9) (Z6:=Z6) (Z8:=Z8) (Z2:=Z2) (t.Z07 P w base) Z4S t.b_len t.Zt t.Zp t.Zl,Z1Q (g:=Gx.mk P w K mg base) (m:=i+1) (k:=2+i+1) (Z3:=Z3) (Z0:=Z0) (Z1:=Z1) (Za:=Za) (Z5:=Z5) (Z4:=Z4) (Z7:=Z7) (Z9:=Z9) (Z6:=Z6) (Z8:=Z8) (Z2:=Z2) (t.Z03 P w base) Z45 t.b_len t.Zb t.Zk t.Zq t.Ze,Z1G (g:=Gx.mk P w K mg base) (m:=i+1) (k:=2+i+1) (Z3:=Z3) (Z0:=Z0) (Z1:=Z1) (Za:=Za) (Z5:=Z5) (Z4:=Z4) (Z7:=Z7) (Z9:=Z9) (Z6:=Z6) (Z8:=Z8) (Z2:=Z2) (t.ZZ P w base) Z3G t.b_len t.Zf t.Zc t.Zv t.Zn,Z2e (g:=Gx.mk P w K mg base) (m:=i+1) (k:=2+i+1) (Z3:=Z3) (Z0:=Z0) (Z1:=Z1) (Za:=Za) (Z5:=Z5) (Z4:=Z4) (Z7:=Z7) (Z9:=Z9) (Z6:=Z6) (Z8:=Z8) (Z2:=Z2) (t.Z0x P w base) Z2L Z0b Z08 Z0i Z0g Z0f Z0j Z0c Z09 t.ZP t.Zb t.Zk t.Zq t.Ze t.Zf t.Zc t.Zv t.Zn t.Zj t.Zi t.Zm t.Zu t.Zh t.ZA t.Zz t.ZD t.Zo t.ZF t.ZC t.ZL t.ZU t.ZK t.Zw t.Zg t.Zy t.Zt t.Zp t.Zl t.Zr t.Zd t.ZE t.Zx,Z2r (g:=Gx.mk P w K mg base) (m:=i+1) (k:=2+i+1) (Z3:=Z3) (Z0:=Z0) (Z1:=Z1) (Za:=Za) (Z5:=Z5) (Z4:=Z4) (Z7:=Z7) (Z9:=Z9) (Z6:=Z6) (Z8:=Z8) (Z2:=Z2) (t.Z0C P w base) (Z17.mono (by omega)) Z4C t.b_len t.ZP t.ZL t.ZU t.ZK,Z2C (g:=Gx.mk P w K mg base) (m:=i+1) (k:=2+i+1) (Z3:=Z3) (Z0:=Z0) (Z1:=Z1) (Za:=Za) (Z5:=Z5) (Z4:=Z4) (Z7:=Z7) (Z9:=Z9) (Z6:=Z6) (Z8:=Z8) (Z2:=Z2) (t.Z0n P w base) Z4Q t.b_len t.ZL t.ZU t.ZK,Z1S (g:=Gx.mk P w K mg base) (m:=i+1) (k:=2+i+1) (Z3:=Z3) (Z0:=Z0) (Z1:=Z1) (Za:=Za) (Z5:=Z5) (Z4:=Z4) (Z7:=Z7) (Z9:=Z9) (Z6:=Z6) (Z8:=Z8) (Z2:=Z2) (t.Z0o P w base) Z0b Z08 Z0i Z0g Z0f Z0j Z0c Z09 t.ZP t.Zb t.Zk t.Zq t.Ze t.Zf t.Zc t.Zv t.Zn t.Zj t.Zi t.Zm t.Zu t.Zh t.ZA t.Zz t.ZD t.Zo t.ZF t.ZC t.Zw t.Zg t.Zy t.Zt t.Zp t.Zl t.Zr t.Zd t.ZE t.Zx,Z1T (g:=Gx.mk P w K mg base) (m:=i+1) (k:=2+i+1) (Z3:=Z3) (Z0:=Z0) (Z1:=Z1) (Za:=Za) (Z5:=Z5) (Z4:=Z4) (Z7:=Z7) (Z9:=Z9) (Z6:=Z6) (Z8:=Z8) (Z2:=Z2) (t.Z0p P w base) Z0b Z08 Z0i Z0g Z0f Z0j Z0c Z09 t.Zb t.Zk t.Zq t.Ze t.Zf t.Zc t.Zv t.Zn t.Zj t.Zi t.Zm t.Zu t.Zh t.ZA t.Zz t.ZD t.Zo t.ZF t.ZC t.Zw t.Zg t.Zy t.Zt t.Zp t.Zl t.Zr t.Zd t.ZE t.Zx,Z1R (g:=Gx.mk P w K mg base) (m:=i+1) (k:=2+i+1) (Z3:=Z3) (Z0:=Z0) (Z1:=Z1) (Za:=Za) (Z5:=Z5) (Z4:=Z4) (Z7:=Z7) (Z9:=Z9) (Z6:=Z6) (Z8:=Z8) (Z2:=Z2) (t.Z0m P w base) (Z3a.mono (by omega)) t.b_max t.b_min t.Zr t.Zd t.ZE t.Zx,Z2d (g:=Gx.mk P w K mg base) (m:=i+1) (k:=2+i+1) (Z3:=Z3) (Z0:=Z0) (Z1:=Z1) (Za:=Za) (Z5:=Z5) (Z4:=Z4) (Z7:=Z7) (Z9:=Z9) (Z6:=Z6) (Z8:=Z8) (Z2:=Z2) (t.Z0w P w base) Z08 t.b_len t.Zw t.Zg t.Zy,Z2s (g:=Gx.mk P w K mg base) (m:=i+1) (k:=2+i+1) (Z3:=Z3) (Z0:=Z0) (Z1:=Z1) (Za:=Za) (Z5:=Z5) (Z4:=Z4) (Z7:=Z7) (Z9:=Z9) (Z6:=Z6) (Z8:=Z8) (Z2:=Z2) (t.Z0D P w base) Z2L t.ZD t.Zo t.ZF t.ZC t.ZL t.ZU t.ZK,Z2f (g:=Gx.mk P w K mg base) (m:=i+1) (k:=2+i+1) (Z3:=Z3) (Z0:=Z0) (Z1:=Z1) (Za:=Za) (Z5:=Z5) (Z4:=Z4) (Z7:=Z7) (Z9:=Z9) (Z6:=Z6) (Z8:=Z8) (Z2:=Z2) (t.Z0y P w base) (Z17.mono (by omega)) Z42 t.Zj t.Zi t.Zm,Z2t (g:=Gx.mk P w K mg base) (m:=i+1) (k:=2+i+1) (Z3:=Z3) (Z0:=Z0) (Z1:=Z1) (Za:=Za) (Z5:=Z5) (Z4:=Z4) (Z7:=Z7) (Z9:=Z9) (Z6:=Z6) (Z8:=Z8) (Z2:=Z2) (t.Z0E P w base) Z0b Z08 Z0i Z0g Z0f Z0j Z0c Z09 t.Zb t.Zk t.Zq t.Ze t.Zf t.Zc t.Zv t.Zn t.Zj t.Zi t.Zm t.Zu t.Zh t.ZA t.Zz t.ZD t.Zo t.ZF t.ZC t.Zw t.Zg t.Zy t.Zt t.Zp t.Zl t.Zr t.Zd t.ZE t.Zx,Z2g (g:=Gx.mk P w K mg base) (m:=i+1) (k:=2+i+1) (Z3:=Z3) (Z0:=Z0) (Z1:=Z1) (Za:=Za) (Z5:=Z5) (Z4:=Z4) (Z7:=Z7) (Z9:=Z9) (Z6:=Z6) (Z8:=Z8) (Z2:=Z2) (t.Z0z P w base) (Z17.mono (by omega)) Z43 t.Zu t.Zh t.ZA t.Zz,Z1U (g:=Gx.mk P w K mg base) (m:=i+1) (k:=2+i+1) (Z3:=Z3) (Z0:=Z0) (Z1:=Z1) (Za:=Za) (Z5:=Z5) (Z4:=Z4) (Z7:=Z7) (Z9:=Z9) (Z6:=Z6) (Z8:=Z8) (Z2:=Z2) (t.Z0q P w base) Z0b Z08 Z0i Z0g Z0f Z0j Z0c Z09 t.Zb t.Zk t.Zq t.Ze t.Zf t.Zc t.Zv t.Zn t.Zj t.Zi t.Zm t.Zu t.Zh t.ZA t.Zz t.ZD t.Zo t.ZF t.ZC t.Zw t.Zg t.Zy t.Zt t.Zp t.Zl t.Zr t.Zd t.ZE t.Zx,Z1V (g:=Gx.mk P w K mg base) (m:=i+1) (k:=2+i+1) (Z3:=Z3) (Z0:=Z0) (Z1:=Z1) (Za:=Za) (Z5:=Z5) (Z4:=Z4) (Z7:=Z7) (Z9:=Z9) (Z6:=Z6) (Z8:=Z8) (Z2:=Z2) (t.Z0r P w base) (Z39.mono (by omega)) (Z5b.mono (by omega)) Z0b Z08 Z0i Z0g Z0f Z0j Z0c Z09 t.Zb t.Zk t.Zq t.Ze t.Zf t.Zc t.Zv t.Zn t.ZB t.ZG t.ZI t.ZH t.Zj t.Zi t.Zm t.Zu t.Zh t.ZA t.Zz t.ZD t.Zo t.ZF t.ZC t.Zw t.Zg t.Zy t.Zt t.Zp t.Zl t.Zr t.Zd t.ZE t.Zx,Z1E (g:=Gx.mk P w K mg base) (m:=i+1) (k:=2+i+1) (Z3:=Z3) (Z0:=Z0) (Z1:=Z1) (Za:=Za) (Z5:=Z5) (Z4:=Z4) (Z7:=Z7) (Z9:=Z9) (Z6:=Z6) (Z8:=Z8) (Z2:=Z2) (t.Z0h P w base) Z46 Z2h t.ZP t.ZB t.ZG t.ZI t.ZH,Z1W (g:=Gx.mk P w K mg base) (m:=i+1) (k:=2+i+1) (Z3:=Z3) (Z0:=Z0) (Z1:=Z1) (Za:=Za) (Z5:=Z5) (Z4:=Z4) (Z7:=Z7) (Z9:=Z9) (Z6:=Z6) (Z8:=Z8) (Z2:=Z2) (t.Z0s P w base) (Z17.mono (by omega)) Z3j t.ZP t.ZB t.ZG t.ZI t.ZH,Z1X (g:=Gx.mk P w K mg base) (m:=i+1) (k:=2+i+1) (Z3:=Z3) (Z0:=Z0) (Z1:=Z1) (Za:=Za) (Z5:=Z5) (Z4:=Z4) (Z7:=Z7) (Z9:=Z9) (Z6:=Z6) (Z8:=Z8) (Z2:=Z2) (t.Z0a P w base) Z47 t.b_len t.ZB t.ZG t.ZI t.ZH,Z1H (g:=Gx.mk P w K mg base) (m:=i+1) (k:=2+i+1) (Z3:=Z3) (Z0:=Z0) (Z1:=Z1) (Za:=Za) (Z5:=Z5) (Z4:=Z4) (Z7:=Z7) (Z9:=Z9) (Z6:=Z6) (Z8:=Z8) (Z2:=Z2) (t.Z0k P w base) Z2h t.Zf t.Zc t.Zv t.Zn t.ZB t.ZG t.ZI t.ZH⟩
 obtain ⟨Z2i,Z2v,Z2E,Z2w,Z2x,Z2F,Z2j,Z1Y,G_RowTable_blocks_at,G_RowTable_add_size,G_RowTable_ways_at,G_ManyMaker_blocks_at,G_PickMaker_blocks_at,G_WholeMaker_reckoned,G_TextMaker_reckoned,G_RowMaker_reckoned,G_ManyMaker_reckoned,G_UseMaker_reckoned,G_PickMaker_reckoned,G_AlikeMaker_reckoned,G_ChoiceTable_choices,G_ChoiceTable_blocks_at,G_ChoiceTable_add_row,G_ChoiceTable_ways_at,G_ChoiceMaker_reckoned⟩:=Z3i 99
 have Z5R:=Q4 (g:=Gx.mk P w K mg base) (Z3:=Z3) (Z0:=Z0) (Z1:=Z1) (Za:=Za) (Z5:=Z5) (Z4:=Z4) (Z7:=Z7) (Z9:=Z9) (Z6:=Z6) (Z8:=Z8) (Z2:=Z2) (t.Z4w P w base) t.b_list (t.Z4I P w base)
 have Z0e:=Z5h (g:=Gx.mk P w K mg base) (Z3:=Z3) (Z0:=Z0) (Z1:=Z1) (Za:=Za) (Z5:=Z5) (Z4:=Z4) (Z7:=Z7) (Z9:=Z9) (Z6:=Z6) (Z8:=Z8) (Z2:=Z2) (t.Z27 P w base) t.Zb t.Zk t.Zq t.Ze t.Zf t.Zc t.Zv t.Zn t.Zj t.Zi t.Zm t.Zu t.Zh t.ZA t.Zz t.ZD t.Zo t.ZF t.ZC t.Zw t.Zg t.Zy t.Zt t.Zp t.Zl t.Zr t.Zd t.ZE t.Zx
 have Z2k:=Z3y (g:=Gx.mk P w K mg base) (k:=1) (Z3:=Z3) (Z0:=Z0) (Z1:=Z1) (Za:=Za) (Z5:=Z5) (Z4:=Z4) (Z7:=Z7) (Z9:=Z9) (Z6:=Z6) (Z8:=Z8) (Z2:=Z2) (t.Z15 P w base) (Z0e.mono (by decide)) t.Zr t.Zd t.ZE t.Zx
 have Z2y:=Z3X (g:=Gx.mk P w K mg base) (k:=1) (Z3:=Z3) (Z0:=Z0) (Z1:=Z1) (Za:=Za) (Z5:=Z5) (Z4:=Z4) (Z7:=Z7) (Z9:=Z9) (Z6:=Z6) (Z8:=Z8) (Z2:=Z2) (t.Z1i P w base) (Z0e.mono (by decide)) t.Zw t.Zg t.Zy
 have Z2z:=Z3Y (g:=Gx.mk P w K mg base) (k:=1) (Z3:=Z3) (Z0:=Z0) (Z1:=Z1) (Za:=Za) (Z5:=Z5) (Z4:=Z4) (Z7:=Z7) (Z9:=Z9) (Z6:=Z6) (Z8:=Z8) (Z2:=Z2) (t.Z1j P w base) (Z0e.mono (by decide)) t.Zj t.Zi t.Zm
 have Z2A:=Z3Z (g:=Gx.mk P w K mg base) (k:=1) (Z3:=Z3) (Z0:=Z0) (Z1:=Z1) (Za:=Za) (Z5:=Z5) (Z4:=Z4) (Z7:=Z7) (Z9:=Z9) (Z6:=Z6) (Z8:=Z8) (Z2:=Z2) (t.Z1k P w base) (Z0e.mono (by decide)) t.Zu t.Zh t.ZA t.Zz
 have Z2G:=Z4p (g:=Gx.mk P w K mg base) (k:=1) (Z3:=Z3) (Z0:=Z0) (Z1:=Z1) (Za:=Za) (Z5:=Z5) (Z4:=Z4) (Z7:=Z7) (Z9:=Z9) (Z6:=Z6) (Z8:=Z8) (Z2:=Z2) (t.Z1v P w base) (Z0e.mono (by decide)) t.Zt t.Zp t.Zl
 have Z2l:=Z3z (g:=Gx.mk P w K mg base) (k:=1) (Z3:=Z3) (Z0:=Z0) (Z1:=Z1) (Za:=Za) (Z5:=Z5) (Z4:=Z4) (Z7:=Z7) (Z9:=Z9) (Z6:=Z6) (Z8:=Z8) (Z2:=Z2) (t.Z16 P w base) (Z0e.mono (by decide)) t.Zb t.Zk t.Zq t.Ze
 have Z3H:=Z3g (g:=Gx.mk P w K mg base) (Z3:=Z3) (Z0:=Z0) (Z1:=Z1) (Za:=Za) (Z5:=Z5) (Z4:=Z4) (Z7:=Z7) (Z9:=Z9) (Z6:=Z6) (Z8:=Z8) (Z2:=Z2) (t.Z0Q P w base) t.ZB t.ZG t.ZI t.ZH
 have Z1Z:=Z3h (g:=Gx.mk P w K mg base) (k:=2) (Z3:=Z3) (Z0:=Z0) (Z1:=Z1) (Za:=Za) (Z5:=Z5) (Z4:=Z4) (Z7:=Z7) (Z9:=Z9) (Z6:=Z6) (Z8:=Z8) (Z2:=Z2) (t.Z0R P w base) Z3H (by decide) (Z0e.mono (by decide)) t.Zf t.Zc t.Zv t.Zn
 have Z4T:=Z4r (g:=Gx.mk P w K mg base) (Z3:=Z3) (Z0:=Z0) (Z1:=Z1) (Za:=Za) (Z5:=Z5) (Z4:=Z4) (Z7:=Z7) (Z9:=Z9) (Z6:=Z6) (Z8:=Z8) (Z2:=Z2) (t.Z1w P w base) t.b_len t.ZP t.ZL t.ZU t.ZK
 have Z2H:=Z4s (g:=Gx.mk P w K mg base) (k:=2) (Z3:=Z3) (Z0:=Z0) (Z1:=Z1) (Za:=Za) (Z5:=Z5) (Z4:=Z4) (Z7:=Z7) (Z9:=Z9) (Z6:=Z6) (Z8:=Z8) (Z2:=Z2) (t.Z1x P w base) Z4T (by decide) (Z0e.mono (by decide)) t.ZD t.Zo t.ZF t.ZC
 have Z5l:=Z51 (g:=Gx.mk P w K mg base) (Z3:=Z3) (Z0:=Z0) (Z1:=Z1) (Za:=Za) (Z5:=Z5) (Z4:=Z4) (Z7:=Z7) (Z9:=Z9) (Z6:=Z6) (Z8:=Z8) (Z2:=Z2) (t.Z1L P w base) t.ZX t.Z01 t.ZO
 have Z5S:=Q5 (g:=Gx.mk P w K mg base) (Z3:=Z3) (Z0:=Z0) (Z1:=Z1) (Za:=Za) (Z5:=Z5) (Z4:=Z4) (Z7:=Z7) (Z9:=Z9) (Z6:=Z6) (Z8:=Z8) (Z2:=Z2) (t.Z4x P w base)
 have Z5c:∀ i:Nat,((Gx.mk P w K mg base).Me (4+i+1) Za "new_maker" ["self","shape"] (Uh (Gx.mk P w K mg base).P (Gx.mk P w K mg base).w (Gx.mk P w K mg base).K (Cs.mk Z2 Z6 Z7 Z9 Z5 Z4 Z8 Z3 Z0 Z1) Za (i+1)))∧((Gx.mk P w K mg base).Me (4+i+1) Za "add_use" ["self","shape"] (Z2Y (Gx.mk P w K mg base).P (Gx.mk P w K mg base).w (Gx.mk P w K mg base).K (Cs.mk Z2 Z6 Z7 Z9 Z5 Z4 Z8 Z3 Z0 Z1) Za (i+1)))∧((Gx.mk P w K mg base).Me (4+i+1) Za "maker_of" ["self","shape"] (Z0P (Gx.mk P w K mg base).P (Gx.mk P w K mg base).w (Gx.mk P w K mg base).K (Cs.mk Z2 Z6 Z7 Z9 Z5 Z4 Z8 Z3 Z0 Z1) Za (i+1))):=by
  intro i
  induction i with
  | zero=>exact ⟨Z2D (g:=Gx.mk P w K mg base) (m:=0) (k:=4) (Z3:=Z3) (Z0:=Z0) (Z1:=Z1) (Za:=Za) (Z5:=Z5) (Z4:=Z4) (Z7:=Z7) (Z9:=Z9) (Z6:=Z6) (Z8:=Z8) (Z2:=Z2) (t.Z0F P w base) (Z5R.mono (by omega)) ((t.Z0B P w base).none (fun _ _ _ _ h=>Z5t h)) Z2k (by omega) Z2y (by omega) Z2H (by omega) Z2z (by omega) Z2A (by omega) Z2l (by omega) Z1Z (by omega) t.ZX t.Z01 t.ZO,Z2P (g:=Gx.mk P w K mg base) (m:=0) (k:=4) (Z3:=Z3) (Z0:=Z0) (Z1:=Z1) (Za:=Za) (Z5:=Z5) (Z4:=Z4) (Z7:=Z7) (Z9:=Z9) (Z6:=Z6) (Z8:=Z8) (Z2:=Z2) (t.Z0H P w base) (Z5S.mono (by omega)) ((t.Z0B P w base).none (fun _ _ _ _ h=>Z5t h)) Z2G (by omega) t.ZX t.Z01 t.ZO t.Zt t.Zp t.Zl,Z2J (g:=Gx.mk P w K mg base) (m:=0) (k:=4) (Z3:=Z3) (Z0:=Z0) (Z1:=Z1) (Za:=Za) (Z5:=Z5) (Z4:=Z4) (Z7:=Z7) (Z9:=Z9) (Z6:=Z6) (Z8:=Z8) (Z2:=Z2) (t.Z0B P w base) ((t.Z0H P w base).none (fun _ _ _ _ h=>Ybl h)) ((t.Z0F P w base).none (fun _ _ _ _ h=>Yeb h)) t.ZX t.Z01 t.ZO⟩
  | succ i ih =>
   obtain ⟨Z5d,Z5C,Z2R⟩:=ih
   exact ⟨Z2D (g:=Gx.mk P w K mg base) (m:=i+1) (k:=4+i+1) (Z3:=Z3) (Z0:=Z0) (Z1:=Z1) (Za:=Za) (Z5:=Z5) (Z4:=Z4) (Z7:=Z7) (Z9:=Z9) (Z6:=Z6) (Z8:=Z8) (Z2:=Z2) (t.Z0F P w base) (Z5R.mono (by omega)) Z2R Z2k (by omega) Z2y (by omega) Z2H (by omega) Z2z (by omega) Z2A (by omega) Z2l (by omega) Z1Z (by omega) t.ZX t.Z01 t.ZO,Z2P (g:=Gx.mk P w K mg base) (m:=i+1) (k:=4+i+1) (Z3:=Z3) (Z0:=Z0) (Z1:=Z1) (Za:=Za) (Z5:=Z5) (Z4:=Z4) (Z7:=Z7) (Z9:=Z9) (Z6:=Z6) (Z8:=Z8) (Z2:=Z2) (t.Z0H P w base) (Z5S.mono (by omega)) Z2R Z2G (by omega) t.ZX t.Z01 t.ZO t.Zt t.Zp t.Zl,Z2J (g:=Gx.mk P w K mg base) (m:=i+1) (k:=4+i+1) (Z3:=Z3) (Z0:=Z0) (Z1:=Z1) (Za:=Za) (Z5:=Z5) (Z4:=Z4) (Z7:=Z7) (Z9:=Z9) (Z6:=Z6) (Z8:=Z8) (Z2:=Z2) (t.Z0B P w base) Z5C Z5d t.ZX t.Z01 t.ZO⟩
 obtain ⟨G_Lister_new_maker,G_Lister_add_use,Z5m⟩:=Z5c 19
 have Z5x:=QR (g:=Gx.mk P w K mg base) (k:=24) (Z3:=Z3) (Z0:=Z0) (Z1:=Z1) (Za:=Za) (Z5:=Z5) (Z4:=Z4) (Z7:=Z7) (Z9:=Z9) (Z6:=Z6) (Z8:=Z8) (Z2:=Z2) (t.Z3C P w base) Z5l (by decide) (Z5m.mono (by decide)) t.ZX t.Z01 t.ZO
 have G_counts_to:=QS (g:=Gx.mk P w K mg base) (k:=102) (Z3:=Z3) (Z0:=Z0) (Z1:=Z1) (Za:=Za) (Z5:=Z5) (Z4:=Z4) (Z7:=Z7) (Z9:=Z9) (Z6:=Z6) (Z8:=Z8) (Z2:=Z2) (t.Z3D P w base) (Z5x.mono (by decide)) (Z2i.mono (by decide)) (Z2v.mono (by decide)) (Z2E.mono (by decide)) (Z2x.mono (by decide)) (Z2w.mono (by decide)) (Z2F.mono (by decide)) (Z2j.mono (by decide)) (Z1Y.mono (by decide)) t.ZP t.Zb t.Zk t.Zq t.Ze t.Zf t.Zc t.Zv t.Zn t.Zj t.Zi t.Zm t.Zu t.Zh t.ZA t.Zz t.ZD t.Zo t.ZF t.ZC t.Zw t.Zg t.Zy t.Zt t.Zp t.Zl t.Zr t.Zd t.ZE t.Zx
 have G_counted:=Ybp (g:=Gx.mk P w K mg base) (k:=102) (Z3:=Z3) (Z0:=Z0) (Z1:=Z1) (Za:=Za) (Z5:=Z5) (Z4:=Z4) (Z7:=Z7) (Z9:=Z9) (Z6:=Z6) (Z8:=Z8) (Z2:=Z2) (t.Z58 P w base) (Z5x.mono (by decide)) (Z2i.mono (by decide)) (Z2v.mono (by decide)) (Z2E.mono (by decide)) (Z2x.mono (by decide)) (Z2w.mono (by decide)) (Z2F.mono (by decide)) (Z2j.mono (by decide)) (Z1Y.mono (by decide)) t.Zb t.Zk t.Zq t.Ze t.Zf t.Zc t.Zv t.Zn t.Zj t.Zi t.Zm t.Zu t.Zh t.ZA t.Zz t.ZD t.Zo t.ZF t.ZC t.Zw t.Zg t.Zy t.Zt t.Zp t.Zl t.Zr t.Zd t.ZE t.Zx
 have G_law_whole:=QT (g:=Gx.mk P w K mg base) (Z3:=Z3) (Z0:=Z0) (Z1:=Z1) (Za:=Za) (Z5:=Z5) (Z4:=Z4) (Z7:=Z7) (Z9:=Z9) (Z6:=Z6) (Z8:=Z8) (Z2:=Z2) (t.Z3E P w base) t.b_bool t.b_int t.Z0u
 have G_law_mix:=Ybr (g:=Gx.mk P w K mg base) (Z3:=Z3) (Z0:=Z0) (Z1:=Z1) (Za:=Za) (Z5:=Z5) (Z4:=Z4) (Z7:=Z7) (Z9:=Z9) (Z6:=Z6) (Z8:=Z8) (Z2:=Z2) (t.Z59 P w base)
 have G_law_feed:=Q7 (g:=Gx.mk P w K mg base) (k:=1) (Z3:=Z3) (Z0:=Z0) (Z1:=Z1) (Za:=Za) (Z5:=Z5) (Z4:=Z4) (Z7:=Z7) (Z9:=Z9) (Z6:=Z6) (Z8:=Z8) (Z2:=Z2) (t.Z4y P w base) (G_law_mix.mono (by decide)) t.ZP
 have Z2B:=Q8 (g:=Gx.mk P w K mg base) (Z3:=Z3) (Z0:=Z0) (Z1:=Z1) (Za:=Za) (Z5:=Z5) (Z4:=Z4) (Z7:=Z7) (Z9:=Z9) (Z6:=Z6) (Z8:=Z8) (Z2:=Z2) (t.Z4z P w base) t.b_len
 have Z5n:=Z55 (g:=Gx.mk P w K mg base) (k:=1) (Z3:=Z3) (Z0:=Z0) (Z1:=Z1) (Za:=Za) (Z5:=Z5) (Z4:=Z4) (Z7:=Z7) (Z9:=Z9) (Z6:=Z6) (Z8:=Z8) (Z2:=Z2) (t.Z1M P w base) (Z2B.mono (by decide)) t.b_max
 have Z5D:=Z5j (g:=Gx.mk P w K mg base) (k:=1) (Z3:=Z3) (Z0:=Z0) (Z1:=Z1) (Za:=Za) (Z5:=Z5) (Z4:=Z4) (Z7:=Z7) (Z9:=Z9) (Z6:=Z6) (Z8:=Z8) (Z2:=Z2) (t.Z28 P w base) (Z2B.mono (by decide)) t.ZP
 have G_law_counts:=UW (g:=Gx.mk P w K mg base) (k:=1) (Z3:=Z3) (Z0:=Z0) (Z1:=Z1) (Za:=Za) (Z5:=Z5) (Z4:=Z4) (Z7:=Z7) (Z9:=Z9) (Z6:=Z6) (Z8:=Z8) (Z2:=Z2) (t.Z38 P w base) (G_law_whole.mono (by decide)) t.Z0u t.b_len t.b_list t.b_zip
 have G_law_leaf:=Q9 (g:=Gx.mk P w K mg base) (k:=2) (Z3:=Z3) (Z0:=Z0) (Z1:=Z1) (Za:=Za) (Z5:=Z5) (Z4:=Z4) (Z7:=Z7) (Z9:=Z9) (Z6:=Z6) (Z8:=Z8) (Z2:=Z2) (t.Z4A P w base) (Z2B.mono (by decide)) (Z5n.mono (by decide)) (Z5D.mono (by decide))
 have G_law_part:=Yaa (g:=Gx.mk P w K mg base) (k:=3) (Z3:=Z3) (Z0:=Z0) (Z1:=Z1) (Za:=Za) (Z5:=Z5) (Z4:=Z4) (Z7:=Z7) (Z9:=Z9) (Z6:=Z6) (Z8:=Z8) (Z2:=Z2) (t.Z4B P w base) (Z2B.mono (by decide)) (G_law_leaf.mono (by decide))
 have G_law_among:=QU (g:=Gx.mk P w K mg base) (Z3:=Z3) (Z0:=Z0) (Z1:=Z1) (Za:=Za) (Z5:=Z5) (Z4:=Z4) (Z7:=Z7) (Z9:=Z9) (Z6:=Z6) (Z8:=Z8) (Z2:=Z2) (t.Z3F P w base) t.ZP
 have G_law_due:=Ybv (g:=Gx.mk P w K mg base) (k:=1) (Z3:=Z3) (Z0:=Z0) (Z1:=Z1) (Za:=Za) (Z5:=Z5) (Z4:=Z4) (Z7:=Z7) (Z9:=Z9) (Z6:=Z6) (Z8:=Z8) (Z2:=Z2) (t.Z5a P w base) (G_law_among.mono (by decide)) t.ZP
 have Z5T:=Z5B (g:=Gx.mk P w K mg base) (Z3:=Z3) (Z0:=Z0) (Z1:=Z1) (Za:=Za) (Z5:=Z5) (Z4:=Z4) (Z7:=Z7) (Z9:=Z9) (Z6:=Z6) (Z8:=Z8) (Z2:=Z2) (t.Z2u P w base) t.ZP
 exact YcM (g:=Gx.mk P w K mg base) (k:=103) (Z3:=Z3) (Z0:=Z0) (Z1:=Z1) (Za:=Za) (Z5:=Z5) (Z4:=Z4) (Z7:=Z7) (Z9:=Z9) (Z6:=Z6) (Z8:=Z8) (Z2:=Z2) (G_counted.mono (by decide)) (G_counts_to.mono (by decide)) (G_law_feed.mono (by decide)) (Z2B.mono (by decide)) (G_law_counts.mono (by decide)) (G_law_part.mono (by decide)) (G_law_due.mono (by decide)) (Z5T.mono (by decide)) t.b_len
end KW
theorem PySem.W.Fast.tw10043497170713731366:True:=trivial
theorem PySem.W.Fast.tw10071311359584014649:True:=trivial
theorem PySem.W.Fast.tw10123640038202327212:True:=trivial
theorem PySem.W.Fast.tw10132592039231474881:True:=trivial
theorem PySem.W.Fast.tw10225974870862444026:True:=trivial
theorem PySem.W.Fast.tw1031717602859005052:True:=trivial
theorem PySem.W.Fast.tw10322322971019733556:True:=trivial
theorem PySem.W.Fast.tw10483112204012098376:True:=trivial
theorem PySem.W.Fast.tw10506253639241191121:True:=trivial
theorem PySem.W.Fast.tw10535069154391267765:True:=trivial
theorem PySem.W.Fast.tw10563283694772123581:True:=trivial
theorem PySem.W.Fast.tw10637667862206001659:True:=trivial
theorem PySem.W.Fast.tw10671542902953834523:True:=trivial
theorem PySem.W.Fast.tw10692719222196101083:True:=trivial
theorem PySem.W.Fast.tw10733024105916964122:True:=trivial
theorem PySem.W.Fast.tw10783589803755811085:True:=trivial
theorem PySem.W.Fast.tw10788253548277324536:True:=trivial
theorem PySem.W.Fast.tw10816372185095506937:True:=trivial
theorem PySem.W.Fast.tw10842544015768810568:True:=trivial
theorem PySem.W.Fast.tw10929621174315746641:True:=trivial
theorem PySem.W.Fast.tw10976121271444938403:True:=trivial
theorem PySem.W.Fast.tw10988987338325142231:True:=trivial
theorem PySem.W.Fast.tw10994423844541220435:True:=trivial
theorem PySem.W.Fast.tw11245936224128785016:True:=trivial
theorem PySem.W.Fast.tw11294477309637851449:True:=trivial
theorem PySem.W.Fast.tw1130397286930458017:True:=trivial
theorem PySem.W.Fast.tw11377727257703890527:True:=trivial
theorem PySem.W.Fast.tw11438457601134718492:True:=trivial
theorem PySem.W.Fast.tw11457750220041645137:True:=trivial
theorem PySem.W.Fast.tw11501708448647801846:True:=trivial
theorem PySem.W.Fast.tw11518347640607723058:True:=trivial
theorem PySem.W.Fast.tw11549389612909636070:True:=trivial
theorem PySem.W.Fast.tw11638162980415690448:True:=trivial
theorem PySem.W.Fast.tw11871911427682012377:True:=trivial
theorem PySem.W.Fast.tw11945592916796630504:True:=trivial
theorem PySem.W.Fast.tw11977231102262931325:True:=trivial
theorem PySem.W.Fast.tw12009530316017875155:True:=trivial
theorem PySem.W.Fast.tw12015180202183522205:True:=trivial
theorem PySem.W.Fast.tw12171850945347304988:True:=trivial
theorem PySem.W.Fast.tw12231904241271416411:True:=trivial
theorem PySem.W.Fast.tw12281395191575763425:True:=trivial
theorem PySem.W.Fast.tw12309330391683137544:True:=trivial
theorem PySem.W.Fast.tw12642087699664146036:True:=trivial
theorem PySem.W.Fast.tw12643785990986977682:True:=trivial
theorem PySem.W.Fast.tw1281944835501749625:True:=trivial
theorem PySem.W.Fast.tw12853695836892371382:True:=trivial
theorem PySem.W.Fast.tw1289699154773885105:True:=trivial
theorem PySem.W.Fast.tw12938471681605240918:True:=trivial
theorem PySem.W.Fast.tw13032779141906656889:True:=trivial
theorem PySem.W.Fast.tw13124561627228245863:True:=trivial
theorem PySem.W.Fast.tw13148993112864283685:True:=trivial
theorem PySem.W.Fast.tw13380191188086915685:True:=trivial
theorem PySem.W.Fast.tw13427421656430450531:True:=trivial
theorem PySem.W.Fast.tw13612022852449889132:True:=trivial
theorem PySem.W.Fast.tw13738329116778443463:True:=trivial
theorem PySem.W.Fast.tw13886880582407673386:True:=trivial
theorem PySem.W.Fast.tw13894710852766536945:True:=trivial
theorem PySem.W.Fast.tw13920829381597249364:True:=trivial
theorem PySem.W.Fast.tw14099515833067216560:True:=trivial
theorem PySem.W.Fast.tw14110938880187603916:True:=trivial
theorem PySem.W.Fast.tw14124166008304464427:True:=trivial
theorem PySem.W.Fast.tw14139635878876852130:True:=trivial
theorem PySem.W.Fast.tw14210228843911644388:True:=trivial
theorem PySem.W.Fast.tw14371307072122615374:True:=trivial
theorem PySem.W.Fast.tw14446083340490036042:True:=trivial
theorem PySem.W.Fast.tw14499607085804196540:True:=trivial
theorem PySem.W.Fast.tw14500449686829461455:True:=trivial
theorem PySem.W.Fast.tw1457994912377401960:True:=trivial
theorem PySem.W.Fast.tw14603994250450634706:True:=trivial
theorem PySem.W.Fast.tw14634256140992536229:True:=trivial
theorem PySem.W.Fast.tw1463579487890059694:True:=trivial
theorem PySem.W.Fast.tw14804305117966638967:True:=trivial
theorem PySem.W.Fast.tw14834455373929655800:True:=trivial
theorem PySem.W.Fast.tw14929322505210793870:True:=trivial
theorem PySem.W.Fast.tw14931958707427150992:True:=trivial
theorem PySem.W.Fast.tw15009644798644760830:True:=trivial
theorem PySem.W.Fast.tw15027030213982135484:True:=trivial
theorem PySem.W.Fast.tw1529091993180558604:True:=trivial
theorem PySem.W.Fast.tw15291744112144272600:True:=trivial
theorem PySem.W.Fast.tw15317534236769026108:True:=trivial
theorem PySem.W.Fast.tw15448466779309179911:True:=trivial
theorem PySem.W.Fast.tw15489494520874525348:True:=trivial
theorem PySem.W.Fast.tw15496529626768643703:True:=trivial
theorem PySem.W.Fast.tw15503894800118704476:True:=trivial
theorem PySem.W.Fast.tw15530431370414227994:True:=trivial
theorem PySem.W.Fast.tw1553399542679742128:True:=trivial
theorem PySem.W.Fast.tw15638746750341357491:True:=trivial
theorem PySem.W.Fast.tw15715215568614945468:True:=trivial
theorem PySem.W.Fast.tw15748693789711533550:True:=trivial
theorem PySem.W.Fast.tw15787420029696800689:True:=trivial
theorem PySem.W.Fast.tw15901521041448121803:True:=trivial
theorem PySem.W.Fast.tw15958222390989776517:True:=trivial
theorem PySem.W.Fast.tw15997611208266786653:True:=trivial
theorem PySem.W.Fast.tw15999573825479885477:True:=trivial
theorem PySem.W.Fast.tw16076190160173857769:True:=trivial
theorem PySem.W.Fast.tw16298068195305323146:True:=trivial
theorem PySem.W.Fast.tw16333224634283450520:True:=trivial
theorem PySem.W.Fast.tw16375727971600460636:True:=trivial
theorem PySem.W.Fast.tw16387231048508861794:True:=trivial
theorem PySem.W.Fast.tw16404470326716711676:True:=trivial
theorem PySem.W.Fast.tw16430257311614004646:True:=trivial
theorem PySem.W.Fast.tw16537839765936309081:True:=trivial
theorem PySem.W.Fast.tw16737842748496038686:True:=trivial
theorem PySem.W.Fast.tw167417959534809802:True:=trivial
theorem PySem.W.Fast.tw16790895213509283944:True:=trivial
theorem PySem.W.Fast.tw16797502988005903452:True:=trivial
theorem PySem.W.Fast.tw16833844370365456733:True:=trivial
theorem PySem.W.Fast.tw1690802724457610504:True:=trivial
theorem PySem.W.Fast.tw17006444095750537300:True:=trivial
theorem PySem.W.Fast.tw17060710770381864968:True:=trivial
theorem PySem.W.Fast.tw17093815046147606941:True:=trivial
theorem PySem.W.Fast.tw17192185232918558092:True:=trivial
theorem PySem.W.Fast.tw17201730415711351098:True:=trivial
theorem PySem.W.Fast.tw17227657441655700159:True:=trivial
theorem PySem.W.Fast.tw17233125555166141150:True:=trivial
theorem PySem.W.Fast.tw17255187577030149798:True:=trivial
theorem PySem.W.Fast.tw17298707495287249911:True:=trivial
theorem PySem.W.Fast.tw17533815156978850417:True:=trivial
theorem PySem.W.Fast.tw17560516129680704495:True:=trivial
theorem PySem.W.Fast.tw17586349382572857545:True:=trivial
theorem PySem.W.Fast.tw17664013800883505006:True:=trivial
theorem PySem.W.Fast.tw17694212620692124222:True:=trivial
theorem PySem.W.Fast.tw17755463925205065527:True:=trivial
theorem PySem.W.Fast.tw17768688354945638369:True:=trivial
theorem PySem.W.Fast.tw17811475302798992825:True:=trivial
theorem PySem.W.Fast.tw17812898066116672195:True:=trivial
theorem PySem.W.Fast.tw17977289825933690803:True:=trivial
theorem PySem.W.Fast.tw18008994320699483842:True:=trivial
theorem PySem.W.Fast.tw18042041405628665182:True:=trivial
theorem PySem.W.Fast.tw18134330316485046861:True:=trivial
theorem PySem.W.Fast.tw18221442346027843258:True:=trivial
theorem PySem.W.Fast.tw18277788896253207122:True:=trivial
theorem PySem.W.Fast.tw18311628967365123199:True:=trivial
theorem PySem.W.Fast.tw18321711674480541435:True:=trivial
theorem PySem.W.Fast.tw1850196003490831560:True:=trivial
theorem PySem.W.Fast.tw1981803479247534466:True:=trivial
theorem PySem.W.Fast.tw1987070242966115243:True:=trivial
theorem PySem.W.Fast.tw2076701546628596914:True:=trivial
theorem PySem.W.Fast.tw2196386028301470000:True:=trivial
theorem PySem.W.Fast.tw2333763404461372472:True:=trivial
theorem PySem.W.Fast.tw2391950348504501766:True:=trivial
theorem PySem.W.Fast.tw2394920608340915386:True:=trivial
theorem PySem.W.Fast.tw2417683155590824915:True:=trivial
theorem PySem.W.Fast.tw2423555655512273628:True:=trivial
theorem PySem.W.Fast.tw2441013714425407692:True:=trivial
theorem PySem.W.Fast.tw2461028959782711043:True:=trivial
theorem PySem.W.Fast.tw2490071580325110180:True:=trivial
theorem PySem.W.Fast.tw2657924640346933968:True:=trivial
theorem PySem.W.Fast.tw2767006909611830572:True:=trivial
theorem PySem.W.Fast.tw2774996829684094110:True:=trivial
theorem PySem.W.Fast.tw3000163437868726441:True:=trivial
theorem PySem.W.Fast.tw3120507205188261365:True:=trivial
theorem PySem.W.Fast.tw3267362936787961623:True:=trivial
theorem PySem.W.Fast.tw3329505722912516614:True:=trivial
theorem PySem.W.Fast.tw3333603755041293025:True:=trivial
theorem PySem.W.Fast.tw3559260369339235039:True:=trivial
theorem PySem.W.Fast.tw3566180017049469043:True:=trivial
theorem PySem.W.Fast.tw3615527707776716591:True:=trivial
theorem PySem.W.Fast.tw3628031621941590136:True:=trivial
theorem PySem.W.Fast.tw363341211580896101:True:=trivial
theorem PySem.W.Fast.tw3687206007854433015:True:=trivial
theorem PySem.W.Fast.tw3714104411718887925:True:=trivial
theorem PySem.W.Fast.tw3715719483501967813:True:=trivial
theorem PySem.W.Fast.tw3788361389698995752:True:=trivial
theorem PySem.W.Fast.tw3814046557106268480:True:=trivial
theorem PySem.W.Fast.tw3827754559544705708:True:=trivial
theorem PySem.W.Fast.tw3843598169960180425:True:=trivial
theorem PySem.W.Fast.tw395357922210255807:True:=trivial
theorem PySem.W.Fast.tw4053329379944141757:True:=trivial
theorem PySem.W.Fast.tw4059770434047172565:True:=trivial
theorem PySem.W.Fast.tw406981837606668827:True:=trivial
theorem PySem.W.Fast.tw4134408139952388821:True:=trivial
theorem PySem.W.Fast.tw4235369114470969730:True:=trivial
theorem PySem.W.Fast.tw4242074145015476233:True:=trivial
theorem PySem.W.Fast.tw4282715381647264564:True:=trivial
theorem PySem.W.Fast.tw4326714067647164027:True:=trivial
theorem PySem.W.Fast.tw4395113127324406653:True:=trivial
theorem PySem.W.Fast.tw4478027553188347725:True:=trivial
theorem PySem.W.Fast.tw4515599263161972423:True:=trivial
theorem PySem.W.Fast.tw4670682138761523091:True:=trivial
theorem PySem.W.Fast.tw4699485715065394425:True:=trivial
theorem PySem.W.Fast.tw4711466347098942232:True:=trivial
theorem PySem.W.Fast.tw4742831485183874768:True:=trivial
theorem PySem.W.Fast.tw477609820319607490:True:=trivial
theorem PySem.W.Fast.tw479327197588524202:True:=trivial
theorem PySem.W.Fast.tw4816192104494268311:True:=trivial
theorem PySem.W.Fast.tw4870314605510834084:True:=trivial
theorem PySem.W.Fast.tw4873067893753654604:True:=trivial
theorem PySem.W.Fast.tw4890909006906587815:True:=trivial
theorem PySem.W.Fast.tw5103627145385114247:True:=trivial
theorem PySem.W.Fast.tw5239473193533025134:True:=trivial
theorem PySem.W.Fast.tw5286859849968474710:True:=trivial
theorem PySem.W.Fast.tw5384542156308802310:True:=trivial
theorem PySem.W.Fast.tw5619254173694218764:True:=trivial
theorem PySem.W.Fast.tw5628881030656823697:True:=trivial
theorem PySem.W.Fast.tw5635118593778496697:True:=trivial
theorem PySem.W.Fast.tw5649760545711239472:True:=trivial
theorem PySem.W.Fast.tw5670210657831551173:True:=trivial
theorem PySem.W.Fast.tw5722716324230343878:True:=trivial
theorem PySem.W.Fast.tw5766595602417968773:True:=trivial
theorem PySem.W.Fast.tw5795745665557369495:True:=trivial
theorem PySem.W.Fast.tw5863733419715765254:True:=trivial
theorem PySem.W.Fast.tw5882830063487549598:True:=trivial
theorem PySem.W.Fast.tw5906814449367636729:True:=trivial
theorem PySem.W.Fast.tw598670493549175568:True:=trivial
theorem PySem.W.Fast.tw6028607836575678066:True:=trivial
theorem PySem.W.Fast.tw6128077621650658982:True:=trivial
theorem PySem.W.Fast.tw6133745073407875905:True:=trivial
theorem PySem.W.Fast.tw6249646001584109729:True:=trivial
theorem PySem.W.Fast.tw6374043898889240961:True:=trivial
theorem PySem.W.Fast.tw6407619838613592787:True:=trivial
theorem PySem.W.Fast.tw6446151837917305390:True:=trivial
theorem PySem.W.Fast.tw648235227438552647:True:=trivial
theorem PySem.W.Fast.tw6520418182643148984:True:=trivial
theorem PySem.W.Fast.tw6602939533026681335:True:=trivial
theorem PySem.W.Fast.tw6633471579115818938:True:=trivial
theorem PySem.W.Fast.tw6637230008531712652:True:=trivial
theorem PySem.W.Fast.tw6677326590034506398:True:=trivial
theorem PySem.W.Fast.tw6841707624143378476:True:=trivial
theorem PySem.W.Fast.tw687731795408090318:True:=trivial
theorem PySem.W.Fast.tw6878639669623653084:True:=trivial
theorem PySem.W.Fast.tw6888771818428715619:True:=trivial
theorem PySem.W.Fast.tw6898883230561857105:True:=trivial
theorem PySem.W.Fast.tw69001386583128649:True:=trivial
theorem PySem.W.Fast.tw6953990052202105677:True:=trivial
theorem PySem.W.Fast.tw6986776338434022324:True:=trivial
theorem PySem.W.Fast.tw7161188526137276719:True:=trivial
theorem PySem.W.Fast.tw7272680232877753810:True:=trivial
theorem PySem.W.Fast.tw7301403758110025282:True:=trivial
theorem PySem.W.Fast.tw7304993666025469378:True:=trivial
theorem PySem.W.Fast.tw738313149216876339:True:=trivial
theorem PySem.W.Fast.tw7439803336253394259:True:=trivial
theorem PySem.W.Fast.tw7455034264709810411:True:=trivial
theorem PySem.W.Fast.tw7482095478573485633:True:=trivial
theorem PySem.W.Fast.tw7579958894087938560:True:=trivial
theorem PySem.W.Fast.tw7681562499363944450:True:=trivial
theorem PySem.W.Fast.tw7791756104701628879:True:=trivial
theorem PySem.W.Fast.tw7798716359598544757:True:=trivial
theorem PySem.W.Fast.tw7889259907651162412:True:=trivial
theorem PySem.W.Fast.tw7988564490972235323:True:=trivial
theorem PySem.W.Fast.tw8007141026185265188:True:=trivial
theorem PySem.W.Fast.tw8328351796809435989:True:=trivial
theorem PySem.W.Fast.tw8391185050783937353:True:=trivial
theorem PySem.W.Fast.tw842106084226378920:True:=trivial
theorem PySem.W.Fast.tw8544381750817551679:True:=trivial
theorem PySem.W.Fast.tw85687185298812686:True:=trivial
theorem PySem.W.Fast.tw8593318601794589083:True:=trivial
theorem PySem.W.Fast.tw8645609457573906934:True:=trivial
theorem PySem.W.Fast.tw8661611464484070308:True:=trivial
theorem PySem.W.Fast.tw8680300048859028658:True:=trivial
theorem PySem.W.Fast.tw8683483513979957474:True:=trivial
theorem PySem.W.Fast.tw8684060758277460897:True:=trivial
theorem PySem.W.Fast.tw8801330790437839167:True:=trivial
theorem PySem.W.Fast.tw8838430533412083662:True:=trivial
theorem PySem.W.Fast.tw8907642638848673216:True:=trivial
theorem PySem.W.Fast.tw8951252476889246768:True:=trivial
theorem PySem.W.Fast.tw8970477105488968337:True:=trivial
theorem PySem.W.Fast.tw8982186321946588726:True:=trivial
theorem PySem.W.Fast.tw9237955685998184014:True:=trivial
theorem PySem.W.Fast.tw9360238778372095408:True:=trivial
theorem PySem.W.Fast.tw9436506900561770215:True:=trivial
theorem PySem.W.Fast.tw9511504372054600354:True:=trivial
theorem PySem.W.Fast.tw9622105008103444962:True:=trivial
theorem PySem.W.Fast.tw9741145062945227038:True:=trivial
theorem PySem.W.Fast.tw9820601495073163005:True:=trivial
theorem PySem.W.Fast.tw9837321785203890012:True:=trivial
theorem PySem.W.Fast.tw9848746074787050748:True:=trivial
theorem PySem.W.Fast.tw9942582527726582170:True:=trivial
open PySem PySem.W PyProof.Rows
set_option maxRecDepth 100000 in
set_option maxHeartbeats 0 in
theorem PySem.Challenge.cw_countgen_k33_lists_in_order_counted_holds : PySem.Challenge.rw_countgen_k33_lists_in_order_counted.Holds := by
 w_on;o_law;k_head;(case hw=>w_witness2)
 k_fill
 refine L2.Ydr (l:=PySem.Challenge.rw_countgen_k33_lists_in_order_counted) 103 "_law_script" KW.Qa ["_law_script","_law_feed_here","_law_cell","_law_size","_law_times","_law_part_here","_law_book","_law_some","_law_due_here"] rfl rfl ⟨rfl,by decide,by decide⟩ KW.XY (fun w h Y=>by first | exact PySem.W.kIn_of Y | exact PySem.W.km_in_of Y) ?F
 case F =>
  intro w mg h KX G
  refine' ⟨L2.YbY KX G ?a ?l ?c ?k (fun _ _ _ _ _ _ _ _ => .of_eq rfl),fun base=>KW.YcN ⟨?Z36,?Z37,?Z02,?Z00,?Z06,?Z04,?Z05,?Z07,?Z03,?ZZ,?Z26,?Z0m,?Z0w,?Z57,?Z0x,?Z0C,?Z0n,?Z0D,?Z0o,?Z0y,?Z0E,?Z0p,?Z0z,?Z0q,?Z0r,?Z0h,?Z0s,?Z0a,?Z0k,?Z4w,?Z27,?Z15,?Z1i,?Z1j,?Z1k,?Z1v,?Z16,?Z0Q,?Z0R,?Z1w,?Z1x,?Z1L,?Z4x,?Z0F,?Z0H,?Z0B,?Z3C,?Z3D,?Z58,?Z3E,?Z59,?Z4y,?Z4z,?Z1M,?Z28,?Z38,?Z4A,?Z4B,?Z3F,?Z5a,?Z2u,?Zb,?Zk,?Zq,?Ze,?Zf,?Zc,?Zv,?Zn,?ZB,?ZG,?ZI,?ZH,?ZX,?Z01,?ZO,?Zj,?Zi,?Zm,?Zu,?Zh,?ZA,?Zz,?ZD,?Zo,?ZF,?ZC,?ZL,?ZU,?ZK,?Zw,?Zg,?Zy,?Zt,?Zp,?Zl,?Zr,?Zd,?ZE,?Zx,?Z4I,?b_bool,?b_int,?Z0u,?b_len,?b_list,?b_max,?b_min,?ZP,?b_sum,?b_zip⟩ _ w base⟩
  (case a=>k_is)
  (case l=>k_is)
  (case c=>k_is)
  (case k=>k_is)
  case Z15 =>
   refine' L2.XE KX G ["self","low","high"] ?aC ?mk ?kc ?a ?i ?l ?c ?k (fun _ _ _ _ _ _ us hl=>by obtain ⟨_,_,_,rfl⟩:=KW.us3 hl;rfl)
   (case aC=>k_is)
   (case mk=>k_is)
   (case kc=>k_is)
   (case a=>k_is)
   (case i=>k_is)
   (case l=>k_is)
   (case c=>k_is)
   (case k=>k_is)
  case Z1i =>
   refine' L2.XE KX G ["self","signs"] ?aC ?mk ?kc ?a ?i ?l ?c ?k (fun _ _ _ _ _ _ us hl=>by obtain ⟨_,_,rfl⟩:=KW.us2 hl;rfl)
   (case aC=>k_is)
   (case mk=>k_is)
   (case kc=>k_is)
   (case a=>k_is)
   (case i=>k_is)
   (case l=>k_is)
   (case c=>k_is)
   (case k=>k_is)
  case Z1j =>
   refine' L2.XE KX G ["self","part"] ?aC ?mk ?kc ?a ?i ?l ?c ?k (fun _ _ _ _ _ _ us hl=>by obtain ⟨_,_,rfl⟩:=KW.us2 hl;rfl)
   (case aC=>k_is)
   (case mk=>k_is)
   (case kc=>k_is)
   (case a=>k_is)
   (case i=>k_is)
   (case l=>k_is)
   (case c=>k_is)
   (case k=>k_is)
  case Z1k =>
   refine' L2.XE KX G ["self","marks","parts"] ?aC ?mk ?kc ?a ?i ?l ?c ?k (fun _ _ _ _ _ _ us hl=>by obtain ⟨_,_,_,rfl⟩:=KW.us3 hl;rfl)
   (case aC=>k_is)
   (case mk=>k_is)
   (case kc=>k_is)
   (case a=>k_is)
   (case i=>k_is)
   (case l=>k_is)
   (case c=>k_is)
   (case k=>k_is)
  case Z1v =>
   refine' L2.XE KX G ["self"] ?aC ?mk ?kc ?a ?i ?l ?c ?k (fun _ _ _ _ _ _ us hl=>by obtain ⟨_,rfl⟩:=KW.us1 hl;rfl)
   (case aC=>k_is)
   (case mk=>k_is)
   (case kc=>k_is)
   (case a=>k_is)
   (case i=>k_is)
   (case l=>k_is)
   (case c=>k_is)
   (case k=>k_is)
  case Z16 =>
   refine' L2.XE KX G ["self","part","times"] ?aC ?mk ?kc ?a ?i ?l ?c ?k (fun _ _ _ _ _ _ us hl=>by obtain ⟨_,_,_,rfl⟩:=KW.us3 hl;rfl)
   (case aC=>k_is)
   (case mk=>k_is)
   (case kc=>k_is)
   (case a=>k_is)
   (case i=>k_is)
   (case l=>k_is)
   (case c=>k_is)
   (case k=>k_is)
  case Z0Q =>
   refine' L2.XE KX G ["self","part","unlike"] ?aC ?mk ?kc ?a ?i ?l ?c ?k (fun _ _ _ _ _ _ us hl=>by obtain ⟨_,_,_,rfl⟩:=KW.us3 hl;rfl)
   (case aC=>k_is)
   (case mk=>k_is)
   (case kc=>k_is)
   (case a=>k_is)
   (case i=>k_is)
   (case l=>k_is)
   (case c=>k_is)
   (case k=>k_is)
  case Z0R =>
   refine' L2.XE KX G ["self","part","unlike"] ?aC ?mk ?kc ?a ?i ?l ?c ?k (fun _ _ _ _ _ _ us hl=>by obtain ⟨_,_,_,rfl⟩:=KW.us3 hl;rfl)
   (case aC=>k_is)
   (case mk=>k_is)
   (case kc=>k_is)
   (case a=>k_is)
   (case i=>k_is)
   (case l=>k_is)
   (case c=>k_is)
   (case k=>k_is)
  case Z1w =>
   refine' L2.XE KX G ["self","parts"] ?aC ?mk ?kc ?a ?i ?l ?c ?k (fun _ _ _ _ _ _ us hl=>by obtain ⟨_,_,rfl⟩:=KW.us2 hl;rfl)
   (case aC=>k_is)
   (case mk=>k_is)
   (case kc=>k_is)
   (case a=>k_is)
   (case i=>k_is)
   (case l=>k_is)
   (case c=>k_is)
   (case k=>k_is)
  case Z1x =>
   refine' L2.XE KX G ["self","parts"] ?aC ?mk ?kc ?a ?i ?l ?c ?k (fun _ _ _ _ _ _ us hl=>by obtain ⟨_,_,rfl⟩:=KW.us2 hl;rfl)
   (case aC=>k_is)
   (case mk=>k_is)
   (case kc=>k_is)
   (case a=>k_is)
   (case i=>k_is)
   (case l=>k_is)
   (case c=>k_is)
   (case k=>k_is)
  case Z1L =>
   refine' L2.XE KX G ["self","book"] ?aC ?mk ?kc ?a ?i ?l ?c ?k (fun _ _ _ _ _ _ us hl=>by obtain ⟨_,_,rfl⟩:=KW.us2 hl;rfl)
   (case aC=>k_is)
   (case mk=>k_is)
   (case kc=>k_is)
   (case a=>k_is)
   (case i=>k_is)
   (case l=>k_is)
   (case c=>k_is)
   (case k=>k_is)
  case Z36 =>
   refine' L2.Xb KX G ["n","m"] ?a ?l ?c ?k (fun _ _ _ _ _ _ us hl=>by obtain ⟨_,_,rfl⟩:=KW.us2 hl;rfl)
   (case a=>k_is)
   (case l=>k_is)
   (case c=>k_is)
   (case k=>k_is)
  case Z37 =>
   refine' L2.Xb KX G ["n","m"] ?a ?l ?c ?k (fun _ _ _ _ _ _ us hl=>by obtain ⟨_,_,rfl⟩:=KW.us2 hl;rfl)
   (case a=>k_is)
   (case l=>k_is)
   (case c=>k_is)
   (case k=>k_is)
  case Z02 =>
   refine' L2.YG KX G ["self","size"] ?a ?i ?l ?c ?k (fun _ _ _ _ _ _ us hl=>by obtain ⟨_,_,rfl⟩:=KW.us2 hl;rfl)
   (case a=>k_is)
   (case i=>k_is)
   (case l=>k_is)
   (case c=>k_is)
   (case k=>k_is)
  case Z00 =>
   refine' L2.YG KX G ["self","size"] ?a ?i ?l ?c ?k (fun _ _ _ _ _ _ us hl=>by obtain ⟨_,_,rfl⟩:=KW.us2 hl;rfl)
   (case a=>k_is)
   (case i=>k_is)
   (case l=>k_is)
   (case c=>k_is)
   (case k=>k_is)
  case Z06 =>
   refine' L2.YG KX G ["self","size"] ?a ?i ?l ?c ?k (fun _ _ _ _ _ _ us hl=>by obtain ⟨_,_,rfl⟩:=KW.us2 hl;rfl)
   (case a=>k_is)
   (case i=>k_is)
   (case l=>k_is)
   (case c=>k_is)
   (case k=>k_is)
  case Z04 =>
   refine' L2.YG KX G ["self","size"] ?a ?i ?l ?c ?k (fun _ _ _ _ _ _ us hl=>by obtain ⟨_,_,rfl⟩:=KW.us2 hl;rfl)
   (case a=>k_is)
   (case i=>k_is)
   (case l=>k_is)
   (case c=>k_is)
   (case k=>k_is)
  case Z05 =>
   refine' L2.YG KX G ["self","size"] ?a ?i ?l ?c ?k (fun _ _ _ _ _ _ us hl=>by obtain ⟨_,_,rfl⟩:=KW.us2 hl;rfl)
   (case a=>k_is)
   (case i=>k_is)
   (case l=>k_is)
   (case c=>k_is)
   (case k=>k_is)
  case Z07 =>
   refine' L2.YG KX G ["self","size"] ?a ?i ?l ?c ?k (fun _ _ _ _ _ _ us hl=>by obtain ⟨_,_,rfl⟩:=KW.us2 hl;rfl)
   (case a=>k_is)
   (case i=>k_is)
   (case l=>k_is)
   (case c=>k_is)
   (case k=>k_is)
  case Z03 =>
   refine' L2.YG KX G ["self","size"] ?a ?i ?l ?c ?k (fun _ _ _ _ _ _ us hl=>by obtain ⟨_,_,rfl⟩:=KW.us2 hl;rfl)
   (case a=>k_is)
   (case i=>k_is)
   (case l=>k_is)
   (case c=>k_is)
   (case k=>k_is)
  case ZZ =>
   refine' L2.YG KX G ["self","size"] ?a ?i ?l ?c ?k (fun _ _ _ _ _ _ us hl=>by obtain ⟨_,_,rfl⟩:=KW.us2 hl;rfl)
   (case a=>k_is)
   (case i=>k_is)
   (case l=>k_is)
   (case c=>k_is)
   (case k=>k_is)
  case Z26 =>
   refine' L2.Xb KX G ["size"] ?a ?l ?c ?k (fun _ _ _ _ _ _ us hl=>by obtain ⟨_,rfl⟩:=KW.us1 hl;rfl)
   (case a=>k_is)
   (case l=>k_is)
   (case c=>k_is)
   (case k=>k_is)
  case Z0m =>
   refine' L2.YG KX G ["self","size"] ?a ?i ?l ?c ?k (fun _ _ _ _ _ _ us hl=>by obtain ⟨_,_,rfl⟩:=KW.us2 hl;rfl)
   (case a=>k_is)
   (case i=>k_is)
   (case l=>k_is)
   (case c=>k_is)
   (case k=>k_is)
  case Z0w =>
   refine' L2.YG KX G ["self","size"] ?a ?i ?l ?c ?k (fun _ _ _ _ _ _ us hl=>by obtain ⟨_,_,rfl⟩:=KW.us2 hl;rfl)
   (case a=>k_is)
   (case i=>k_is)
   (case l=>k_is)
   (case c=>k_is)
   (case k=>k_is)
  case Z57 =>
   refine' L2.Xb KX G ["blocks"] ?a ?l ?c ?k (fun _ _ _ _ _ _ us hl=>by obtain ⟨_,rfl⟩:=KW.us1 hl;rfl)
   (case a=>k_is)
   (case l=>k_is)
   (case c=>k_is)
   (case k=>k_is)
  case Z0x =>
   refine' L2.YG KX G ["self","place","left"] ?a ?i ?l ?c ?k (fun _ _ _ _ _ _ us hl=>by obtain ⟨_,_,_,rfl⟩:=KW.us3 hl;rfl)
   (case a=>k_is)
   (case i=>k_is)
   (case l=>k_is)
   (case c=>k_is)
   (case k=>k_is)
  case Z0C =>
   refine' L2.YG KX G ["self","size"] ?a ?i ?l ?c ?k (fun _ _ _ _ _ _ us hl=>by obtain ⟨_,_,rfl⟩:=KW.us2 hl;rfl)
   (case a=>k_is)
   (case i=>k_is)
   (case l=>k_is)
   (case c=>k_is)
   (case k=>k_is)
  case Z0n =>
   refine' L2.YG KX G ["self","place","left"] ?a ?i ?l ?c ?k (fun _ _ _ _ _ _ us hl=>by obtain ⟨_,_,_,rfl⟩:=KW.us3 hl;rfl)
   (case a=>k_is)
   (case i=>k_is)
   (case l=>k_is)
   (case c=>k_is)
   (case k=>k_is)
  case Z0D =>
   refine' L2.YG KX G ["self","size"] ?a ?i ?l ?c ?k (fun _ _ _ _ _ _ us hl=>by obtain ⟨_,_,rfl⟩:=KW.us2 hl;rfl)
   (case a=>k_is)
   (case i=>k_is)
   (case l=>k_is)
   (case c=>k_is)
   (case k=>k_is)
  case Z0o =>
   refine' L2.YG KX G ["self","left"] ?a ?i ?l ?c ?k (fun _ _ _ _ _ _ us hl=>by obtain ⟨_,_,rfl⟩:=KW.us2 hl;rfl)
   (case a=>k_is)
   (case i=>k_is)
   (case l=>k_is)
   (case c=>k_is)
   (case k=>k_is)
  case Z0y =>
   refine' L2.YG KX G ["self","size"] ?a ?i ?l ?c ?k (fun _ _ _ _ _ _ us hl=>by obtain ⟨_,_,rfl⟩:=KW.us2 hl;rfl)
   (case a=>k_is)
   (case i=>k_is)
   (case l=>k_is)
   (case c=>k_is)
   (case k=>k_is)
  case Z0E =>
   refine' L2.YG KX G ["self","size"] ?a ?i ?l ?c ?k (fun _ _ _ _ _ _ us hl=>by obtain ⟨_,_,rfl⟩:=KW.us2 hl;rfl)
   (case a=>k_is)
   (case i=>k_is)
   (case l=>k_is)
   (case c=>k_is)
   (case k=>k_is)
  case Z0p =>
   refine' L2.YG KX G ["self","size"] ?a ?i ?l ?c ?k (fun _ _ _ _ _ _ us hl=>by obtain ⟨_,_,rfl⟩:=KW.us2 hl;rfl)
   (case a=>k_is)
   (case i=>k_is)
   (case l=>k_is)
   (case c=>k_is)
   (case k=>k_is)
  case Z0z =>
   refine' L2.YG KX G ["self","size"] ?a ?i ?l ?c ?k (fun _ _ _ _ _ _ us hl=>by obtain ⟨_,_,rfl⟩:=KW.us2 hl;rfl)
   (case a=>k_is)
   (case i=>k_is)
   (case l=>k_is)
   (case c=>k_is)
   (case k=>k_is)
  case Z0q =>
   refine' L2.YG KX G ["self","size"] ?a ?i ?l ?c ?k (fun _ _ _ _ _ _ us hl=>by obtain ⟨_,_,rfl⟩:=KW.us2 hl;rfl)
   (case a=>k_is)
   (case i=>k_is)
   (case l=>k_is)
   (case c=>k_is)
   (case k=>k_is)
  case Z0r =>
   refine' L2.YG KX G ["self","size","many"] ?a ?i ?l ?c ?k (fun _ _ _ _ _ _ us hl=>by obtain ⟨_,_,_,rfl⟩:=KW.us3 hl;rfl)
   (case a=>k_is)
   (case i=>k_is)
   (case l=>k_is)
   (case c=>k_is)
   (case k=>k_is)
  case Z0h =>
   refine' L2.YG KX G ["self","least","left"] ?a ?i ?l ?c ?k (fun _ _ _ _ _ _ us hl=>by obtain ⟨_,_,_,rfl⟩:=KW.us3 hl;rfl)
   (case a=>k_is)
   (case i=>k_is)
   (case l=>k_is)
   (case c=>k_is)
   (case k=>k_is)
  case Z0s =>
   refine' L2.YG KX G ["self","left"] ?a ?i ?l ?c ?k (fun _ _ _ _ _ _ us hl=>by obtain ⟨_,_,rfl⟩:=KW.us2 hl;rfl)
   (case a=>k_is)
   (case i=>k_is)
   (case l=>k_is)
   (case c=>k_is)
   (case k=>k_is)
  case Z0a =>
   refine' L2.YG KX G ["self","least","left"] ?a ?i ?l ?c ?k (fun _ _ _ _ _ _ us hl=>by obtain ⟨_,_,_,rfl⟩:=KW.us3 hl;rfl)
   (case a=>k_is)
   (case i=>k_is)
   (case l=>k_is)
   (case c=>k_is)
   (case k=>k_is)
  case Z0k =>
   refine' L2.YG KX G ["self","size"] ?a ?i ?l ?c ?k (fun _ _ _ _ _ _ us hl=>by obtain ⟨_,_,rfl⟩:=KW.us2 hl;rfl)
   (case a=>k_is)
   (case i=>k_is)
   (case l=>k_is)
   (case c=>k_is)
   (case k=>k_is)
  case Z4w =>
   refine' L2.Xb KX G ["shape"] ?a ?l ?c ?k (fun _ _ _ _ _ _ us hl=>by obtain ⟨_,rfl⟩:=KW.us1 hl;rfl)
   (case a=>k_is)
   (case l=>k_is)
   (case c=>k_is)
   (case k=>k_is)
  case Z27 =>
   refine' L2.Ydx KX G ["self"] ?aB ?ga ?rd ?a ?l ?c ?k (fun _ _ _ _ _ _ us hl=>by obtain ⟨_,rfl⟩:=KW.us1 hl;rfl)
   (case aB=>k_is)
   (case ga=>k_is)
   (case rd=>k_is)
   (case a=>k_is)
   (case l=>k_is)
   (case c=>k_is)
   (case k=>k_is)
  case Z4x =>
   refine' L2.Xb KX G ["book","name"] ?a ?l ?c ?k (fun _ _ _ _ _ _ us hl=>by obtain ⟨_,_,rfl⟩:=KW.us2 hl;rfl)
   (case a=>k_is)
   (case l=>k_is)
   (case c=>k_is)
   (case k=>k_is)
  case Z0F =>
   refine' L2.YG KX G ["self","shape"] ?a ?i ?l ?c ?k (fun _ _ _ _ _ _ us hl=>by obtain ⟨_,_,rfl⟩:=KW.us2 hl;rfl)
   (case a=>k_is)
   (case i=>k_is)
   (case l=>k_is)
   (case c=>k_is)
   (case k=>k_is)
  case Z0H =>
   refine' L2.YG KX G ["self","shape"] ?a ?i ?l ?c ?k (fun _ _ _ _ _ _ us hl=>by obtain ⟨_,_,rfl⟩:=KW.us2 hl;rfl)
   (case a=>k_is)
   (case i=>k_is)
   (case l=>k_is)
   (case c=>k_is)
   (case k=>k_is)
  case Z0B =>
   refine' L2.YG KX G ["self","shape"] ?a ?i ?l ?c ?k (fun _ _ _ _ _ _ us hl=>by obtain ⟨_,_,rfl⟩:=KW.us2 hl;rfl)
   (case a=>k_is)
   (case i=>k_is)
   (case l=>k_is)
   (case c=>k_is)
   (case k=>k_is)
  case Z3C =>
   refine' L2.Xb KX G ["book","shape"] ?a ?l ?c ?k (fun _ _ _ _ _ _ us hl=>by obtain ⟨_,_,rfl⟩:=KW.us2 hl;rfl)
   (case a=>k_is)
   (case l=>k_is)
   (case c=>k_is)
   (case k=>k_is)
  case Z3D =>
   refine' L2.Xb KX G ["book","shape","size"] ?a ?l ?c ?k (fun _ _ _ _ _ _ us hl=>by obtain ⟨_,_,_,rfl⟩:=KW.us3 hl;rfl)
   (case a=>k_is)
   (case l=>k_is)
   (case c=>k_is)
   (case k=>k_is)
  case Z58 =>
   refine' L2.Xb KX G ["book","shape","size"] ?a ?l ?c ?k (fun _ _ _ _ _ _ us hl=>by obtain ⟨_,_,_,rfl⟩:=KW.us3 hl;rfl)
   (case a=>k_is)
   (case l=>k_is)
   (case c=>k_is)
   (case k=>k_is)
  case Z3E =>
   refine' L2.Xb KX G ["_law_found"] ?a ?l ?c ?k (fun _ _ _ _ _ _ us hl=>by obtain ⟨_,rfl⟩:=KW.us1 hl;rfl)
   (case a=>k_is)
   (case l=>k_is)
   (case c=>k_is)
   (case k=>k_is)
  case Z59 =>
   refine' L2.Xb KX G ["_law_script","_law_k","_law_step"] ?a ?l ?c ?k (fun _ _ _ _ _ _ us hl=>by obtain ⟨_,_,_,rfl⟩:=KW.us3 hl;rfl)
   (case a=>k_is)
   (case l=>k_is)
   (case c=>k_is)
   (case k=>k_is)
  case Z4y =>
   refine' L2.Xb KX G ["_law_script","_law_many"] ?a ?l ?c ?k (fun _ _ _ _ _ _ us hl=>by obtain ⟨_,_,rfl⟩:=KW.us2 hl;rfl)
   (case a=>k_is)
   (case l=>k_is)
   (case c=>k_is)
   (case k=>k_is)
  case Z4z =>
   refine' L2.Xb KX G ["_law_feed_here"] ?a ?l ?c ?k (fun _ _ _ _ _ _ us hl=>by obtain ⟨_,rfl⟩:=KW.us1 hl;rfl)
   (case a=>k_is)
   (case l=>k_is)
   (case c=>k_is)
   (case k=>k_is)
  case Z1M =>
   refine' L2.Xb KX G ["_law_feed_here"] ?a ?l ?c ?k (fun _ _ _ _ _ _ us hl=>by obtain ⟨_,rfl⟩:=KW.us1 hl;rfl)
   (case a=>k_is)
   (case l=>k_is)
   (case c=>k_is)
   (case k=>k_is)
  case Z28 =>
   refine' L2.Xb KX G ["_law_feed_here"] ?a ?l ?c ?k (fun _ _ _ _ _ _ us hl=>by obtain ⟨_,rfl⟩:=KW.us1 hl;rfl)
   (case a=>k_is)
   (case l=>k_is)
   (case c=>k_is)
   (case k=>k_is)
  case Z38 =>
   refine' L2.Xb KX G ["_law_found","_law_due_here"] ?a ?l ?c ?k (fun _ _ _ _ _ _ us hl=>by obtain ⟨_,_,rfl⟩:=KW.us2 hl;rfl)
   (case a=>k_is)
   (case l=>k_is)
   (case c=>k_is)
   (case k=>k_is)
  case Z4A =>
   refine' L2.Xb KX G ["_law_feed_here"] ?a ?l ?c ?k (fun _ _ _ _ _ _ us hl=>by obtain ⟨_,rfl⟩:=KW.us1 hl;rfl)
   (case a=>k_is)
   (case l=>k_is)
   (case c=>k_is)
   (case k=>k_is)
  case Z4B =>
   refine' L2.Xb KX G ["_law_feed_here"] ?a ?l ?c ?k (fun _ _ _ _ _ _ us hl=>by obtain ⟨_,rfl⟩:=KW.us1 hl;rfl)
   (case a=>k_is)
   (case l=>k_is)
   (case c=>k_is)
   (case k=>k_is)
  case Z3F =>
   refine' L2.Xb KX G ["_law_bags","_law_many","_law_chosen"] ?a ?l ?c ?k (fun _ _ _ _ _ _ us hl=>by obtain ⟨_,_,_,rfl⟩:=KW.us3 hl;rfl)
   (case a=>k_is)
   (case l=>k_is)
   (case c=>k_is)
   (case k=>k_is)
  case Z5a =>
   refine' L2.Xb KX G ["_law_bags","_law_some","_law_size"] ?a ?l ?c ?k (fun _ _ _ _ _ _ us hl=>by obtain ⟨_,_,_,rfl⟩:=KW.us3 hl;rfl)
   (case a=>k_is)
   (case l=>k_is)
   (case c=>k_is)
   (case k=>k_is)
  case Z2u =>
   refine' L2.Xb KX G ["_law_some","_law_times","_law_size"] ?a ?l ?c ?k (fun _ _ _ _ _ _ us hl=>by obtain ⟨_,_,_,rfl⟩:=KW.us3 hl;rfl)
   (case a=>k_is)
   (case l=>k_is)
   (case c=>k_is)
   (case k=>k_is)
  case Zb =>
   refine' ⟨?a,?b,?c,?d⟩
   (case a=>k_is)
   (case b=>k_is)
   (case c=>k_is)
   (case d=>k_is)
  case Zk =>
   refine' L2.Yz ?a
   (case a=>k_is)
  case Zq =>
   refine' L2.Yz ?a
   (case a=>k_is)
  case Ze =>
   refine' L2.Yz ?a
   (case a=>k_is)
  case Zf =>
   refine' ⟨?a,?b,?c,?d⟩
   (case a=>k_is)
   (case b=>k_is)
   (case c=>k_is)
   (case d=>k_is)
  case Zc =>
   refine' L2.Yz ?a
   (case a=>k_is)
  case Zv =>
   refine' L2.Yz ?a
   (case a=>k_is)
  case Zn =>
   refine' L2.Yz ?a
   (case a=>k_is)
  case ZB =>
   refine' ⟨?a,?b,?c,?d⟩
   (case a=>k_is)
   (case b=>k_is)
   (case c=>k_is)
   (case d=>k_is)
  case ZG =>
   refine' L2.Yz ?a
   (case a=>k_is)
  case ZI =>
   refine' L2.Yz ?a
   (case a=>k_is)
  case ZH =>
   refine' L2.Yz ?a
   (case a=>k_is)
  case ZX =>
   refine' ⟨?a,?b,?c,?d⟩
   (case a=>k_is)
   (case b=>k_is)
   (case c=>k_is)
   (case d=>k_is)
  case Z01 =>
   refine' L2.Yz ?a
   (case a=>k_is)
  case ZO =>
   refine' L2.Yz ?a
   (case a=>k_is)
  case Zj =>
   refine' ⟨?a,?b,?c,?d⟩
   (case a=>k_is)
   (case b=>k_is)
   (case c=>k_is)
   (case d=>k_is)
  case Zi =>
   refine' L2.Yz ?a
   (case a=>k_is)
  case Zm =>
   refine' L2.Yz ?a
   (case a=>k_is)
  case Zu =>
   refine' ⟨?a,?b,?c,?d⟩
   (case a=>k_is)
   (case b=>k_is)
   (case c=>k_is)
   (case d=>k_is)
  case Zh =>
   refine' L2.Yz ?a
   (case a=>k_is)
  case ZA =>
   refine' L2.Yz ?a
   (case a=>k_is)
  case Zz =>
   refine' L2.Yz ?a
   (case a=>k_is)
  case ZD =>
   refine' ⟨?a,?b,?c,?d⟩
   (case a=>k_is)
   (case b=>k_is)
   (case c=>k_is)
   (case d=>k_is)
  case Zo =>
   refine' L2.Yz ?a
   (case a=>k_is)
  case ZF =>
   refine' L2.Yz ?a
   (case a=>k_is)
  case ZC =>
   refine' L2.Yz ?a
   (case a=>k_is)
  case ZL =>
   refine' ⟨?a,?b,?c,?d⟩
   (case a=>k_is)
   (case b=>k_is)
   (case c=>k_is)
   (case d=>k_is)
  case ZU =>
   refine' L2.Yz ?a
   (case a=>k_is)
  case ZK =>
   refine' L2.Yz ?a
   (case a=>k_is)
  case Zw =>
   refine' ⟨?a,?b,?c,?d⟩
   (case a=>k_is)
   (case b=>k_is)
   (case c=>k_is)
   (case d=>k_is)
  case Zg =>
   refine' L2.Yz ?a
   (case a=>k_is)
  case Zy =>
   refine' L2.Yz ?a
   (case a=>k_is)
  case Zt =>
   refine' ⟨?a,?b,?c,?d⟩
   (case a=>k_is)
   (case b=>k_is)
   (case c=>k_is)
   (case d=>k_is)
  case Zp =>
   refine' L2.Yz ?a
   (case a=>k_is)
  case Zl =>
   refine' L2.Yz ?a
   (case a=>k_is)
  case Zr =>
   refine' ⟨?a,?b,?c,?d⟩
   (case a=>k_is)
   (case b=>k_is)
   (case c=>k_is)
   (case d=>k_is)
  case Zd =>
   refine' L2.Yz ?a
   (case a=>k_is)
  case ZE =>
   refine' L2.Yz ?a
   (case a=>k_is)
  case Zx =>
   refine' L2.Yz ?a
   (case a=>k_is)
  case Z4I =>
   refine' L2.Ydu KX G ?a ?l ?z ?r
   (case a=>k_is)
   (case l=>k_is)
   (case z=>decide)
   (case r=>exact (.cons ⟨_,rfl⟩ (.cons ⟨_,rfl⟩ (.cons ⟨_,rfl⟩ .nil))))
  case b_bool =>
   refine' PySem.W.mg_none_of KX G ?a
   (case a=>k_is)
  case b_int =>
   refine' PySem.W.mg_none_of KX G ?a
   (case a=>k_is)
  case Z0u =>
   refine' PySem.W.mg_none_of KX G ?a
   (case a=>k_is)
  case b_len =>
   refine' PySem.W.mg_none_of KX G ?a
   (case a=>k_is)
  case b_list =>
   refine' PySem.W.mg_none_of KX G ?a
   (case a=>k_is)
  case b_max =>
   refine' PySem.W.mg_none_of KX G ?a
   (case a=>k_is)
  case b_min =>
   refine' PySem.W.mg_none_of KX G ?a
   (case a=>k_is)
  case ZP =>
   refine' PySem.W.mg_none_of KX G ?a
   (case a=>k_is)
  case b_sum =>
   refine' PySem.W.mg_none_of KX G ?a
   (case a=>k_is)
  case b_zip =>
   refine' PySem.W.mg_none_of KX G ?a
   (case a=>k_is)
