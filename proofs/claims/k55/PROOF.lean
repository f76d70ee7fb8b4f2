import PyProof.Rows.All
import Wide.All
import OpenK.AllK
import Wide.FinOn
import Lean
import PyProof.EqAt
import PyProof.EqKinds
import PyProof.TupleCall
import PyProof.NeData
import KE.KTryMore
import PyProof.ExcBaseAll.ValueError
import PyProof.ExcArgsOwn
import KE.KIntText
import PyProof.Rows.SetFrom
import PyProof.SetRoads
import PyProof.StrWalks
import PyProof.ListStr
import PyProof.Rows.StrSplitCount
import PyProof.MeetsStr
import PyProof.MeetsStr2
import PyProof.StrOps2
import KE.KTryOn
import OpenK.KMake
import PyProof.ReprRoads
import PyProof.ReprLen
import PyProof.StrLawsRepr
import PyProof.CallFns
import PySem.Challenge.RW_countgen_k55_whole_terms_said
set_option compiler.extract_closed false
set_option Elab.async false
set_option linter.all false
set_option maxRecDepth 100000
namespace L2
open PySem PySem.Spec PyProof.Rows
abbrev Key:=Sum Int Str
def V3:Key→Value→Bool
 | .inl k,v=>Value.isInt k v
 | .inr x,v=>Value.isStrOf x v
def keyH (w:World):Key→Int
 | .inl k=>hashInt k
 | .inr x=>hashStr w x
theorem Xj:∀ {k:Key} {v:Value},V3 k v=true→(∃ i t,k=Sum.inl i∧v=Value.int i t)∨(∃ x t,k=Sum.inr x∧v=Value.str x t)
 | .inl i,v,h=>by
  obtain ⟨t,e⟩:=Value.isInt_shape (k:=i) (v:=v) h
  exact .inl ⟨i,t,rfl,e⟩
 | .inr x,v,h=>by
  obtain ⟨t,e⟩:=Value.isStrOf_shape (x:=x) (v:=v) h
  exact .inr ⟨x,t,rfl,e⟩
theorem Yci (i:Int) (t:Tok):V3 (.inl i) (.int i t)=true:=by simp [V3,Value.isInt]
theorem Ycj (x:Str) (t:Tok):V3 (.inr x) (.str x t)=true:=by simp [V3,Value.isStrOf]
theorem YeX (a b:Int):decide ((Sum.inl a:Key)=Sum.inl b)=(a==b):=by
 by_cases e:a=b
 ·subst e;simp
 ·have h:¬ (Sum.inl a:Key)=Sum.inl b:=fun q=>e (Sum.inl.inj q)
  rw [decide_eq_false h]
  exact (beq_eq_false_iff_ne.mpr e).symm
theorem YeY (a b:Str):decide ((Sum.inr a:Key)=Sum.inr b)=decide (a=b):=by
 by_cases e:a=b
 ·subst e;simp
 ·have h:¬ (Sum.inr a:Key)=Sum.inr b:=fun q=>e (Sum.inr.inj q)
  rw [decide_eq_false h,decide_eq_false e]
theorem YeZ (a:Int) (b:Str):decide ((Sum.inl a:Key)=Sum.inr b)=false:=decide_eq_false (fun q=>nomatch q)
theorem Ye0 (a:Str) (b:Int):decide ((Sum.inr a:Key)=Sum.inl b)=false:=decide_eq_false (fun q=>nomatch q)
def XU (prog:Program) (w:World):PySem.KeyKind prog w Key where
 is:=V3
 hash:=keyH w
 inj:=fun v a b ha hb=>by
  rcases Xj ha with ⟨i,t,rfl,rfl⟩ | ⟨x,t,rfl,rfl⟩
  ·rcases Xj hb with ⟨j,u,rfl,e⟩ | ⟨y,u,rfl,e⟩
   ·injection e with e1 _;rw [e1]
   ·exact nomatch e
  ·rcases Xj hb with ⟨j,u,rfl,e⟩ | ⟨y,u,rfl,e⟩
   ·exact nomatch e
   ·injection e with e1 _;rw [e1]
 byValue:=fun k v h=>by
  rcases Xj h with ⟨i,t,rfl,rfl⟩ | ⟨x,t,rfl,rfl⟩<;>rfl
 pyHash:=fun hv h=>by
  rcases Xj hv with ⟨i,t,rfl,rfl⟩ | ⟨x,t,rfl,rfl⟩
  ·exact wpAny_pyHash_int h
  ·exact wpAny_pyHash_str h
 eqBool:=fun hu hv h=>by
  rcases Xj hu with ⟨i,t,rfl,rfl⟩ | ⟨x,t,rfl,rfl⟩
  ·rcases Xj hv with ⟨j,u,rfl,rfl⟩ | ⟨y,u,rfl,rfl⟩
   ·rw [YeX] at h;exact wpAny_eqBool_int h
   ·rw [YeZ] at h;exact SeqAt.EqAt.int_str i t y u _ _ _ _ h
  ·rcases Xj hv with ⟨j,u,rfl,rfl⟩ | ⟨y,u,rfl,rfl⟩
   ·rw [Ye0] at h;exact SeqAt.EqAt.str_int x t j u _ _ _ _ h
   ·rw [YeY] at h;exact wpAny_eqBool_str h
 «strs»:=fun k x t v h=>by
  rcases Xj h with ⟨i,u,rfl,e⟩ | ⟨y,u,rfl,e⟩
  ·exact nomatch e
  ·injection e with e1 _
   subst e1
   cases v<;>rfl
theorem YaO (prog:Program) (w:World) (i:Int) (t:Tok):(XU prog w).is (.inl i) (.int i t)=true:=Yci i t
theorem YaP (prog:Program) (w:World) (x:Str) (t:Tok):(XU prog w).is (.inr x) (.str x t)=true:=Ycj x t
end L2
namespace L2
open PySem PySem.Spec PyProof.Rows
inductive V where
 | non | bl (b:Bool) | int (i:Int) | str (x:Str) | byt (b:Array UInt8) | flt (b:UInt64) | ref (a:Addr) | ty (n:String)
 deriving DecidableEq
def YC:V→Value→Prop
 | .non,u=>u=Value.none
 | .bl b,u=>u=Value.bool b
 | .int i,u=>∃ t,u=Value.int i t
 | .str x,u=>∃ t,u=Value.str x t
 | .byt b,u=>∃ t,u=Value.bytes b t
 | .flt b,u=>∃ t,u=Value.float b t
 | .ref a,u=>u=Value.ref a
 | .ty n,u=>u=Value.type n
abbrev Yu:List V→List Value→Prop:=Paired YC
theorem Yu.length {xs:List V} {us:List Value} (r:Yu xs us):xs.length=us.length:=Paired.length r
theorem Yu.get:∀ {xs:List V} {us:List Value} {i:Nat} {x:V},Yu xs us→xs[i]?=some x→∃ u,us[i]?=some u∧YC x u
 | _,_,_,_,.nil,e=>by simp at e
 | _,_,0,_,.cons r _,e=>by simp at e;subst e;exact ⟨_,rfl,r⟩
 | _,_,i+1,x,.cons _ t,e=>by
  obtain ⟨u,h1,h2⟩:=Yu.get (i:=i) (x:=x) t (by simpa using e)
  exact ⟨u,by simpa using h1,h2⟩
theorem Yu.set {x:V} {u:Value} (r:YC x u):∀ {xs:List V} {us:List Value} (i:Nat),Yu xs us→Yu (xs.set i x) (us.set i u)
 | _,_,_,.nil => .nil
 | _,_,0,.cons _ t => .cons r t
 | _,_,i+1,.cons q t => .cons q (Yu.set r i t)
theorem Yu.append:∀ {xs ys:List V} {us ws:List Value},Yu xs us→Yu ys ws→Yu (xs++ys) (us++ws)
 | _,_,_,_,.nil,s=>s
 | _,_,_,_,.cons r t,s => .cons r (Yu.append t s)
theorem Yu.take:∀ {xs:List V} {us:List Value} (n:Nat),Yu xs us→Yu (xs.take n) (us.take n)
 | _,_,0,_ => .nil
 | _,_,_+1,.nil => .nil
 | _,_,n+1,.cons r t => .cons r (Yu.take n t)
theorem Yu.drop:∀ {xs:List V} {us:List Value} (n:Nat),Yu xs us→Yu (xs.drop n) (us.drop n)
 | _,_,0,r=>r
 | _,_,_+1,.nil => .nil
 | _,_,n+1,.cons _ t=>Yu.drop n t
def Vp:Option V→Option Value→Prop
 | some v,some u=>YC v u
 | none,none=>True
 | _,_=>False
def KV {κ:Type}:List (κ×V)→List (κ×Value)→Prop:=Paired fun (p:κ×V) (q:κ×Value)=>p.1=q.1∧YC p.2 q.2
def kV:Key→V
 | .inl i => .int i
 | .inr x => .str x
inductive HO where
 /-- a list -/
 | lst (xs:List V)
 /-- a tuple (never changes) -/
 | tup (xs:List V)
 /-- a dict whose keys are ints and texts;one whose keys are tuples of ints and texts (the empty one is both) -/
 | dK (kvs:List (Key×V)) | dT (kvs:List (List Key×V))
 /-- a set of ints: its members,its size -/
 | set (S:Int→Bool) (n:Nat)
 /-- an instance of the class at C,its dict at dx,its attributes -/
 | ins (C dx:Addr) (fs:List (Str×V))
 /-- the dict of the instance at x -/
 | own (x:Addr)
 /-- the dict of an exception -/
 | xd (fs:List (Str×V))
 /-- a bound method,f of x -/
 | met (f x:Addr)
 /-- a range object lo,lo+1,.. below hi -/
 | rng (lo hi:Int)
 /-- a thing that is known to the object (the script;a dict while a loop walks it): read,never written while it is so -/
 | frz (o:Obj) (u:HO)
 /-- a code object's table -/
 | tbl (ps:Array Value)
 /-- any other thing,by what is true of its one object (a def of one's own: SetO a S n:=HO.ext fun h => ..) -/
 | ext (φ:Heap→Prop)
abbrev Hp:=Addr→Option HO
def upd (H:Hp) (a:Addr) (o:HO):Hp:=fun b=>if b=a then some o else H b
theorem Yh {H:Hp} {a:Addr} {o:HO}:upd H a o a=some o:=by unfold upd;rw [if_pos rfl]
theorem Ym {H:Hp} {a b:Addr} {o:HO} (h:b≠a):upd H a o b=H b:=by unfold upd;rw [if_neg h]
theorem Wp {H:Hp} {a b:Addr} {o u:HO} (h:H a=some o) (h':H b=some u) (d:o≠u):a≠b:=by
 intro e;subst e;rw [h] at h';exact d (Option.some.inj h')
theorem YK {H:Hp} {a b:Addr} {o:HO} (h:H a=some o) (h':H b=none):a≠b:=by
 intro e;subst e;rw [h] at h';cases h'
section
variable (P:Program) (w:World)
def YM (H:Hp) (h:Heap) (a:Addr):HO→Prop
 | .lst xs=>xs.length≤sizeLine∧∃ (its:List Value) (n:Nat),Yu xs its∧h.get? a=some { cls := .type "list",data := .seq its.toArray n }
 | .tup xs=>xs.length≤sizeLine∧∃ its:List Value,Yu xs its∧IsTup h a its.toArray
 | .dK kvs=>kvs.length≤sizeLine∧(a==sysModules)=false∧∃ vs,KV kvs vs∧h.DictOf (XU P w) a vs
 | .dT kvs=>kvs.length≤sizeLine∧(a==sysModules)=false∧∃ xs:List (List Key×Addr×Value),
   Paired (fun (p:List Key×V) (q:List Key×Addr×Value)=>p.1=q.1∧H q.2.1=some (.tup (p.1.map kV))∧YC p.2 q.2.2) kvs xs ∧
   ∃ o es ep,h.get? a=some o∧o.ExactDict∧o.data = .dict es ep∧es.toList=xs.map (entryOfKey (tupleKind (XU P w)))∧(xs.map (·.1)).Nodup
 | .set S n=>h.SetOf (intKind P w) a S n
 | .ins C dx fs=>H dx=some (.own a)∧fs.length≤1000∧dx≠a∧h.get? a=some (PySem.W.instObj C dx) ∧
   ∃ mA,h.Ns1 dx mA∧(∀ f,Vp (fs.lookup f) (mA f))∧PySem.Within mA (fs.map (·.1))
 | .own _=>∃ o,h.get? a=some o
 | .xd fs=>∃ mA,h.Ns1 a mA∧∀ f,Vp (fs.lookup f) (mA f)
 | .rng lo hi=>∃ t u v,h.get? a=some { cls := .type "range",data := .fields #[.int lo t,.int hi u,.int 1 v] }
 | .frz o u=>h.get? a=some o∧YM H h a u
 | .tbl ps=>h.get? a=some { cls := .none,data := .fields ps }
 | .met f x=>h.get? a=some (PySem.W.methodObj (.ref f) (.ref x))
 | .ext φ=>φ h∧(∃ o,h.get? a=some o)∧∀ h1 h2:Heap,φ h1→(∀ o,h1.get? a=some o→h2.get? a=some o)→φ h2
def HOk (H:Hp) (h:Heap):Prop:=∀ a o,H a=some o→YM P w H h a o
end
section
variable {P:Program} {w:World} {H H':Hp} {h h':Heap} {a:Addr} {o:HO}
theorem YM.lt (x:YM P w H h a o):a<h.objs.size:=by
 cases o with
 | lst xs=>obtain ⟨_,_,_,_,e⟩:=x;exact Heap.lt_size e
 | tup xs=>obtain ⟨_,_,_,p⟩:=x;exact p.lt
 | dK kvs=>obtain ⟨_,_,_,_,o,_,_,e,_⟩:=x;exact Heap.lt_size e
 | dT kvs=>obtain ⟨_,_,_,_,o,_,_,e,_⟩:=x;exact Heap.lt_size e
 | set S n=>obtain ⟨o,_,_,_,e,_⟩:=x;exact Heap.lt_size e
 | ins C dx fs=>obtain ⟨_,_,_,e,_⟩:=x;exact Heap.lt_size e
 | own y=>obtain ⟨_,e⟩:=x;exact Heap.lt_size e
 | xd fs=>obtain ⟨_,⟨_,_,_,e,_⟩,_⟩:=x;exact Heap.lt_size e
 | rng lo hi=>obtain ⟨_,_,_,e⟩:=x;exact Heap.lt_size e
 | frz ob u=>obtain ⟨e,_⟩:=x;exact Heap.lt_size e
 | tbl ps=>exact Heap.lt_size (show h.get? a=some _ from x)
 | met f y=>exact Heap.lt_size (show h.get? a=some _ from x)
 | ext φ=>obtain ⟨_,⟨_,e⟩,_⟩:=x;exact Heap.lt_size e
theorem Paired.mapP {α β:Type} {F G:α→β→Prop}:∀ {l₁:List α} {l₂:List β},Paired F l₁ l₂→(∀ a b,F a b→G a b)→Paired G l₁ l₂
 | _,_,.nil,_ => .nil
 | _,_,.cons r t,f => .cons (f _ _ r) (Paired.mapP t f)
theorem YM.stay (x:YM P w H h a o) (k:∀ b u,(b=a∨H b=some (.own a))→h.get? b=some u→h'.get? b=some u)
  (ho:∀ b,H b=some (.own a)→H' b=some (.own a)) (ht:∀ b xs,H b=some (.tup xs)→H' b=some (.tup xs)):YM P w H' h' a o:=by
 induction o with
 | lst xs=>obtain ⟨z,its,n,r,e⟩:=x;exact ⟨z,its,n,r,k _ _ (.inl rfl) e⟩
 | tup xs=>obtain ⟨z,its,r,ob,e,c⟩:=x;exact ⟨z,its,r,ob,k _ _ (.inl rfl) e,c⟩
 | dK kvs=>obtain ⟨z,y,vs,r,ob,es,ep,e,c⟩:=x;exact ⟨z,y,vs,r,ob,es,ep,k _ _ (.inl rfl) e,c⟩
 | dT kvs =>
  obtain ⟨z,y,xs,r,ob,es,ep,e,c⟩:=x
  exact ⟨z,y,xs,Paired.mapP r fun p q z=>⟨z.1,ht _ _ z.2.1,z.2.2⟩,ob,es,ep,k _ _ (.inl rfl) e,c⟩
 | set S n=>obtain ⟨ob,es,ep,t,e,c⟩:=x;exact ⟨ob,es,ep,t,k _ _ (.inl rfl) e,c⟩
 | ins C dx fs =>
  obtain ⟨d,z,ne,e,mA,⟨od,es,ep,e2,c⟩,r⟩:=x
  exact ⟨ho _ d,z,ne,k _ _ (.inl rfl) e,mA,⟨od,es,ep,k _ _ (.inr d) e2,c⟩,r⟩
 | own y=>obtain ⟨ob,e⟩:=x;exact ⟨ob,k _ _ (.inl rfl) e⟩
 | xd fs=>obtain ⟨mA,⟨od,es,ep,e,c⟩,r⟩:=x;exact ⟨mA,⟨od,es,ep,k _ _ (.inl rfl) e,c⟩,r⟩
 | rng lo hi=>obtain ⟨t,u,v,e⟩:=x;exact ⟨t,u,v,k _ _ (.inl rfl) e⟩
 | frz ob u ih=>obtain ⟨e,q⟩:=x;exact ⟨k _ _ (.inl rfl) e,ih q⟩
 | tbl ps =>
  have e:h.get? a=some { cls := .none,data := .fields ps }:=x
  show h'.get? a=some { cls := .none,data := .fields ps }
  exact k a _ (.inl rfl) e
 | met f y =>
  have e:h.get? a=some (PySem.W.methodObj (.ref f) (.ref y)):=x
  show h'.get? a=some (PySem.W.methodObj (.ref f) (.ref y))
  exact k a _ (.inl rfl) e
 | ext φ=>obtain ⟨p,⟨o,e⟩,st⟩:=x;exact ⟨st _ _ p fun o q=>k _ _ (.inl rfl) q,⟨o,k _ _ (.inl rfl) e⟩,st⟩
theorem HOk.lt (x:HOk P w H h) (e:H a=some o):a<h.objs.size:=(x a o e).lt
theorem HOk.fresh (x:HOk P w H h) (e:h.objs.size≤a):H a=none:=by
 cases q:H a with
 | none=>rfl
 | some u=>exact absurd (Nat.lt_of_lt_of_le (x.lt q) e) (Nat.lt_irrefl _)
theorem HOk.kept (x:HOk P w H h) (k:∀ b u,h.get? b=some u→h'.get? b=some u):HOk P w H h':=fun a o e =>
 (x a o e).stay (fun b u _ q=>k b u q) (fun _ q=>q) fun _ _ q=>q
theorem HOk.laid (x:HOk P w H h) (k:∀ b u,h.get? b=some u→h'.get? b=some u) (hp:h.objs.size≤a) (new:YM P w (upd H a o) h' a o):HOk P w (upd H a o) h':=fun b u e=>by
 have hn:=x.fresh hp
 by_cases hb:b=a
 ·subst hb;rw [Yh] at e;cases e;exact new
 ·rw [Ym hb] at e
  exact (x b u e).stay (fun c v _ q=>k c v q) (fun c q=>by rw [Ym (YK q hn)];exact q) fun c xs q=>by rw [Ym (YK q hn)];exact q
end
def Rd (H:Hp) (a:Addr) (u:HO):Prop:=H a=some u∨∃ o,H a=some (.frz o u)
theorem Rd.of {H:Hp} {a:Addr} {u:HO} (h:H a=some u):Rd H a u := .inl h
theorem Rd.ok {P:Program} {w:World} {H:Hp} {h:Heap} {a:Addr} {u:HO} (r:Rd H a u) (x:HOk P w H h):YM P w H h a u:=by
 rcases r with r | ⟨o,r⟩
 ·exact x a u r
 ·obtain ⟨_,q⟩:=x a _ r
  exact q
def Mut:Option HO→Prop
 | some (.lst _)=>True
 | some (.dK _)=>True
 | some (.dT _)=>True
 | some (.set _ _)=>True
 | some (.ins _ _ _)=>True
 | some (.ext _)=>True
 | _=>False
section
variable {P:Program} {w:World} {H:Hp} {h h':Heap} {x e:Addr} {o':HO}
theorem HOk.write (ok:HOk P w H h) (mu:Mut (H x)) (he:e=x∨H e=some (.own x)) (k:∀ b u,b≠e→h.get? b=some u→h'.get? b=some u) (heo:∃ u,h'.get? e=some u)
  (new:YM P w (upd H x o') h' x o'):HOk P w (upd H x o') h':=fun b u q=>by
 have nown:∀ c y,H c=some (.own y)→c≠x:=fun c y r z=>by subst z;rw [r] at mu;exact mu
 have ntup:∀ c xs,H c=some (.tup xs)→c≠x:=fun c xs r z=>by subst z;rw [r] at mu;exact mu
 by_cases hb:b=x
 ·subst hb;rw [Yh] at q;cases q;exact new
 ·rw [Ym hb] at q
  by_cases hbe:b=e
  ·have q':H b=some (.own x):=by
    rcases he with z | z
    ·exact absurd (hbe.trans z) hb
    ·rw [hbe];exact z
   rw [q] at q';cases q'
   obtain ⟨v,hv⟩:=heo
   exact ⟨v,by rw [hbe];exact hv⟩
  ·refine (ok b u q).stay (fun c v hc r=>k c v ?_ r) (fun c r=>by rw [Ym (nown c b r)];exact r) fun c xs r=>by rw [Ym (ntup c xs r)];exact r
   rcases hc with rfl | hc
   ·exact hbe
   ·rintro rfl
    rcases he with z | z
    ·exact nown c b hc z
    ·rw [hc] at z;cases z;exact hb rfl
end
structure Un (fs ex:List Addr) (H H':Hp) (h h':Heap):Prop where
 keep:∀ b o,h.get? b=some o→H b=none→b∉fs→b∉ex→h'.get? b=some o
 slot:∀ b o,h.get? b=some o→H b=none→b∈fs→b∉ex→∃ sl,h'.get? b=some { o with slots:=sl }
 free:∀ b o,h.get? b=some o→H b=none→b∉ex→H' b=none
 there:∀ b o,h.get? b=some o→b∉ex→∃ o',h'.get? b=some o'
 tups:∀ b xs,H b=some (.tup xs)→H' b=some (.tup xs)
 frzs:∀ b o u,H b=some (.frz o u)→H' b=some (.frz o u)
 tbls:∀ b ps,H b=some (.tbl ps)→∃ more,H' b=some (.tbl (ps++more))
section
variable {fs fs' ex ex':List Addr} {H H1 H2:Hp} {h h1 h2 h':Heap} {a x e:Addr} {o:HO}
theorem Un.any (u:Un fs ex H H1 h h1) {b:Addr} {ob:Obj} (q:h.get? b=some ob) (n:H b=none) (hx:b∉ex):∃ sl,h1.get? b=some { ob with slots:=sl }:=by
 by_cases hb:b∈fs
 ·exact u.slot b ob q n hb hx
 ·exact ⟨ob.slots,u.keep b ob q n hb hx⟩
theorem Un.trans (a:Un fs ex H H1 h h1) (b:Un fs ex H1 H2 h1 h2):Un fs ex H H2 h h2 where
 keep:=fun c ob q n hc hx=>b.keep c ob (a.keep c ob q n hc hx) (a.free c ob q n hx) hc hx
 slot:=fun c ob q n hc hx=>by
  obtain ⟨sl,e1⟩:=a.slot c ob q n hc hx
  obtain ⟨sl',e2⟩:=b.slot c _ e1 (a.free c ob q n hx) hc hx
  exact ⟨sl',e2⟩
 free:=fun c ob q n hx=>by
  obtain ⟨o',e1⟩:=a.there c ob q hx
  exact b.free c o' e1 (a.free c ob q n hx) hx
 there:=fun c ob q hx=>by
  obtain ⟨o',e1⟩:=a.there c ob q hx
  exact b.there c o' e1 hx
 tups:=fun c xs q=>b.tups c xs (a.tups c xs q)
 frzs:=fun c ob xs q=>b.frzs c ob xs (a.frzs c ob xs q)
 tbls:=fun c ps q=>by
  obtain ⟨m1,e1⟩:=a.tbls c ps q
  obtain ⟨m2,e2⟩:=b.tbls c _ e1
  exact ⟨m1++m2,by rw [e2,Array.append_assoc]⟩
theorem Un.kept (k:∀ b u,h.get? b=some u→h'.get? b=some u):Un fs ex H H h h' :=
 ⟨fun b ob q _ _ _=>k b ob q,fun b ob q _ _ _=>⟨ob.slots,k b ob q⟩,fun _ _ _ n _=>n,fun b ob q _=>⟨ob,k b ob q⟩,fun _ _ q=>q,fun _ _ _ q=>q,fun _ ps q=>⟨#[],by rw [q];simp⟩⟩
theorem Un.refl:Un fs ex H H h h:=Un.kept fun _ _ q=>q
theorem Un.laid (k:∀ b u,h.get? b=some u→h'.get? b=some u) (hp:h.objs.size≤a) (hn:H a=none):Un fs ex H (upd H a o) h h' where
 keep:=fun b u q _ _ _=>k b u q
 slot:=fun b u q _ _ _=>⟨u.slots,k b u q⟩
 free:=fun b u q n _=>by rw [Ym (Nat.ne_of_lt (Nat.lt_of_lt_of_le (Heap.lt_size q) hp))];exact n
 there:=fun b u q _=>⟨u,k b u q⟩
 tups:=fun b xs q=>by rw [Ym (YK q hn)];exact q
 frzs:=fun b u xs q=>by rw [Ym (YK q hn)];exact q
 tbls:=fun b ps q=>⟨#[],by rw [Ym (YK q hn),q];simp⟩
theorem Un.write (mu:Mut (H x)) (he:e=x∨H e=some (.own x)) (k:∀ b u,b≠e→h.get? b=some u→h'.get? b=some u) (heo:∃ u,h'.get? e=some u):Un fs ex H (upd H x o) h h':=by
 have hx:∀ b,H b=none→b≠x:=fun b n z=>by subst z;rw [n] at mu;exact mu
 have hb:∀ b,H b=none→b≠e:=fun b n z=>by
  subst z
  rcases he with r | r
  ·exact hx b n r
  ·rw [n] at r;cases r
 have hm:∀ b u,H b=some u→¬ Mut (some u)→b≠x:=fun b u q nm z=>by subst z;rw [q] at mu;exact nm mu
 refine ⟨fun b u q n _ _=>k b u (hb b n) q,fun b u q n _ _=>⟨u.slots,k b u (hb b n) q⟩,fun b u q n _=>by rw [Ym (hx b n)];exact n,fun b u q _=>?_,
  fun b xs q=>by rw [Ym (hm b _ q fun z=>z)];exact q,fun b u xs q=>by rw [Ym (hm b _ q fun z=>z)];exact q,fun b ps q=>⟨#[],by rw [Ym (hm b _ q fun z=>z),q];simp⟩⟩
 by_cases hbe:b=e
 ·subst hbe;exact heo
 ·exact ⟨u,k b u hbe q⟩
end
def trk (h:Heap) (H:Hp):List Addr:=(List.range h.objs.size).filter fun a=>(H a).isSome
def WG (h:Heap) (H:Hp):Heap:=PySem.W.hideAll h (trk h H)
theorem Yck (h:Heap) (H:Hp):(WG h H).objs.size=h.objs.size:=PySem.W.hideAll_size _ _
theorem Ydk {h:Heap} {H:Hp} {b:Addr} {o:Obj} (e:h.get? b=some o) (n:H b=none):(WG h H).get? b=some o :=
 PySem.W.hideAll_get _ e fun hm=>by
  have q:(H b).isSome=true:=(List.mem_filter.mp hm).2
  rw [n] at q;simp at q
theorem Yee {h:Heap} {H:Hp} {b:Addr} {o:Obj} (e:(WG h H).get? b=some o):h.get? b=some o∧H b=none:=by
 have e':h.get? b=some o:=PySem.W.of_hideAll (trk h H) e
 refine ⟨e',?_⟩
 cases q:H b with
 | none=>rfl
 | some x =>
  have hm:b∈trk h H:=List.mem_filter.mpr ⟨List.mem_range.mpr (Heap.lt_size e'),by simp [q]⟩
  have z:(WG h H).get? b=none:=PySem.W.hideAll_none (trk h H) hm
  rw [z] at e;cases e
def Yef (g h:Heap) (L:Addr):List (Addr×Obj):=(List.range h.objs.size).filterMap fun a=>if a=L∨(g.get? a).isSome=true then none else (h.get? a).map fun o=>(a,o)
def Y8 (g h:Heap) (L d:Addr):List (Addr×Obj):=(Yef g h L).filter fun p=>decide (p.1≠d)
end L2
namespace L2
open PySem PySem.Spec PyProof.Rows
structure Mod (K:PySem.W.Frag) (mg:Str→Option Value) (base:Heap):Prop where
 kin:K.In base
 glob:base.Ns mainGlobals mg
 blt:∃ mb,base.Ns builtinsNs mb∧∀ x:Str,x≠"__name__"→mb x=bootBuiltins x
 nolimit:base.NoLimit
structure Cx where
 prog:Program
 w:World
 K:PySem.W.Frag
 mg:Str→Option Value
 base:Heap
 A:Around
 N:List Str
 s₀:Shared
 H₀:Hp
 env:Env
 outer:List Env
 stack:List Env
 ex:List Addr
 fn:Str→Bool
 calm:Bool
 pn:List (Addr×Obj)
 xe:Value→Shared→Prop
def frs (l:List Env):List Addr:=l.filterMap (·.frame)
abbrev Cx.fs (X:Cx):List Addr:=frs X.outer
def Vis (sc:Scope) (x:Str):Prop:=sc.names.lookup x=some .local∨sc.names.lookup x=some .cell∨sc.names.lookup x=some .free
def Loc (sc:Scope) (x:Str):Prop:=sc.names.lookup x=some .local∨sc.names.lookup x=some .cell
def Look (env:Env) (h:Heap) (m:Str→Option Value) (x:Str) (u:Value):Prop :=
 (env.kindOf x=some .local∧m x=some u)∨((env.kindOf x=some .cell∨env.kindOf x=some .free)∧∃ c,env.cells.lookup x=some c∧h.IsCell c (some u))
structure Cx.Ok (X:Cx):Prop where
 mod:Mod X.K X.mg X.base
 kind:X.env.scope.kind = .function
 glob:X.env.globals=mainGlobals
 blt:X.env.builtins=builtinsNs
 above:X.s₀.heap.objs.size≤X.env.locals
 inj:∀ x y c,X.env.cells.lookup x=some c→X.env.cells.lookup y=some c→x=y
 has:∀ x,(X.env.kindOf x=some .cell∨X.env.kindOf x=some .free)→∃ c,X.env.cells.lookup x=some c
 cab:∀ x c,X.fn x=true→X.env.cells.lookup x=some c→X.s₀.heap.objs.size≤c
 hd:X.calm=true→X.A.handled=none
 frames:X.A.frames=some X.stack
 stk:X.stack=X.outer∨(X.stack=X.env::X.outer∧X.env.frame=some X.env.locals)
 exf:∀ b∈X.ex,b≠X.env.locals∧∀ x c,X.env.cells.lookup x=some c→c≠b
 bs:∀ b o,X.base.get? b=some o→X.s₀.heap.get? b=some o∧X.H₀ b=none
 bsz:X.base.objs.size≤X.s₀.heap.objs.size
 noex:∀ b o,X.base.get? b=some o→b∉X.ex
 exfs:∀ b∈X.ex,b∉X.fs
 funs:X.s₀.heap.FunFrames X.base X.outer
 frf:∀ b∈X.fs,X.H₀ b=none
structure Inv (X:Cx) (pins:List (Addr×Obj)) (σ:List (Option V)) (H:Hp) (s:Shared):Prop where
 ok:X.Ok
 os:s.os=X.s₀.os
 bare:AllBare s.gens
 base:Un X.fs X.ex X.H₀ H X.s₀.heap s.heap
 loc:∃ m,s.heap.Ns X.env.locals m∧∀ (i:Nat) (x:Str) (v:V),X.N[i]?=some x→σ[i]?=some (some v)→Vis X.env.scope x→∃ u,YC v u∧Look X.env s.heap m x u
 cell:∀ x c,X.env.cells.lookup x=some c→∃ v,s.heap.IsCell c v
 free:H X.env.locals=none
 freeC:∀ x c,X.env.cells.lookup x=some c→H c=none
 pin:∀ p∈X.pn++pins,s.heap.get? p.1=some p.2∧H p.1=none∧p.1≠X.env.locals∧p.1∉X.fs∧∀ v,p.2.data ≠ .cell v
 hok:HOk X.prog X.w H s.heap
 len:σ.length=X.N.length
section
variable {X:Cx} {pins:List (Addr×Obj)} {σ:List (Option V)} {H H':Hp} {s:Shared} {h':Heap}
theorem Cx.Ok.nofr (ok:X.Ok) {b:Addr} {o:Obj} (e:X.base.get? b=some o):b∉X.fs:=fun hb=>by
 have:=(ok.funs.mem hb).1
 rw [e] at this;cases this
theorem Inv.bs (I:Inv X pins σ H s):∀ b o,X.base.get? b=some o→s.heap.get? b=some o∧H b=none:=fun b o e =>
 ⟨I.base.keep b o (I.ok.bs b o e).1 (I.ok.bs b o e).2 (I.ok.nofr e) (I.ok.noex b o e),I.base.free b o (I.ok.bs b o e).1 (I.ok.bs b o e).2 (I.ok.noex b o e)⟩
theorem Inv.bk (I:Inv X pins σ H s):∀ b o,X.base.get? b=some o→s.heap.get? b=some o:=fun b o e=>(I.bs b o e).1
theorem Inv.mod (I:Inv X pins σ H s):Mod X.K X.mg X.base:=I.ok.mod
theorem Inv.kIn (I:Inv X pins σ H s):X.K.In s.heap:=I.ok.mod.kin.keeps I.bk
theorem Inv.lt (I:Inv X pins σ H s):X.env.locals<s.heap.objs.size:=let ⟨_,hn,_⟩:=I.loc;hn.lt
theorem Inv.sz (I:Inv X pins σ H s):X.s₀.heap.objs.size≤s.heap.objs.size:=Nat.le_trans I.ok.above (Nat.le_of_lt I.lt)
theorem Inv.nofs (I:Inv X pins σ H s) {a:Addr} (h:s.heap.objs.size≤a):a∉X.fs:=fun hb=>by
 obtain ⟨_,o,ho,_⟩:=I.ok.funs.mem hb
 exact absurd (Nat.lt_of_lt_of_le (Heap.lt_size ho) (Nat.le_trans I.sz h)) (Nat.lt_irrefl _)
theorem Inv.cne (I:Inv X pins σ H s):∀ x c,X.env.cells.lookup x=some c→c≠X.env.locals:=fun x c e z=>by
 obtain ⟨v,o,ho,hd⟩:=I.cell x c e
 obtain ⟨m,⟨o',es,ep,ho',hd',_⟩,_⟩:=I.loc
 rw [z,ho'] at ho;cases ho;rw [hd'] at hd;cases hd
theorem Inv.funs (I:Inv X pins σ H s):s.heap.FunFrames X.base X.outer:=by
 have all:∀ (l:List Env),(∀ b∈frs l,b∈X.fs)→X.s₀.heap.FunFrames X.base l→s.heap.FunFrames X.base l:=by
  intro l
  induction l with
  | nil=>intro _ _;trivial
  | cons env r ih =>
   intro hs hl
   obtain ⟨hk,⟨L,o,hf,hn,ho,hd⟩,hr⟩:=hl
   have hL:L∈X.fs:=hs L (by unfold frs;rw [List.filterMap_cons,hf];exact List.mem_cons_self)
   obtain ⟨sl,e⟩:=I.base.slot L o ho (I.ok.frf L hL) hL fun z=>I.ok.exfs L z hL
   exact ⟨hk,⟨L,_,hf,hn,e,hd⟩,ih (fun b hb=>hs b (by unfold frs;rw [List.filterMap_cons,hf];exact List.mem_cons_of_mem _ hb)) hr⟩
 exact all X.outer (fun _ hb=>hb) I.ok.funs
theorem Inv.stack (I:Inv X pins σ H s):s.heap.FunFrames X.base X.stack:=by
 rcases I.ok.stk with e | ⟨e,hf⟩
 ·rw [e];exact I.funs
 ·rw [e]
  obtain ⟨m,hn,_⟩:=I.loc
  refine .cons (by rw [I.ok.kind];decide) hf hn ?_ I.funs
  exact Heap.get?_none_of_le (Nat.le_trans I.ok.bsz I.ok.above)
theorem Inv.stkSub (I:Inv X pins σ H s):∀ b∈frs X.stack,b∈X.env.locals::X.fs:=fun b hb=>by
 rcases I.ok.stk with e | ⟨e,hf⟩
 ·rw [e] at hb;exact List.mem_cons_of_mem _ hb
 ·rw [e] at hb
  unfold frs at hb
  rw [List.filterMap_cons,hf] at hb
  exact hb
theorem Inv.stkFree (I:Inv X pins σ H s):∀ b∈frs X.stack,H b=none:=fun b hb=>by
 rcases List.mem_cons.mp (I.stkSub b hb) with e | hb
 ·rw [e];exact I.free
 ·obtain ⟨_,o,ho,_⟩:=I.ok.funs.mem hb
  exact I.base.free b o ho (I.ok.frf b hb) fun z=>I.ok.exfs b z hb
theorem Inv.step {g':Array GenState} {t':Nat} {d':Drawn} {ch:List Addr} (I:Inv X pins σ H s)
  (hch:∀ b∈ch,(b∈X.ex∨X.s₀.heap.objs.size≤b)∧b≠X.env.locals∧(∀ x c,X.env.cells.lookup x=some c→c≠b)∧∀ p∈X.pn++pins,p.1≠b)
  (keep:∀ b o,b≠X.env.locals→b∉X.fs→b∉ch→s.heap.get? b=some o→H b=none→h'.get? b=some o)
  (slot:∀ b o,b≠X.env.locals→b∈X.fs→b∉ch→s.heap.get? b=some o→H b=none→∃ sl,h'.get? b=some { o with slots:=sl }) (free:∀ b o,b∉ch→s.heap.get? b=some o→H b=none→H' b=none)
  (there:∀ b o,b∉ch→s.heap.get? b=some o→∃ o',h'.get? b=some o')
  (tups:∀ b xs,H b=some (.tup xs)→H' b=some (.tup xs)) (frzs:∀ b o u,H b=some (.frz o u)→H' b=some (.frz o u)) (tbls:∀ b ps,H b=some (.tbl ps)→∃ more,H' b=some (.tbl (ps++more)))
  (ns:∀ m,s.heap.Ns X.env.locals m→h'.Ns X.env.locals m) (hok:HOk X.prog X.w H' h') (hg:AllBare g') :
  Inv X pins σ H' { s with heap:=h',gens:=g',drawn:=d',toks:=t' }:=by
 have neL:∀ b o,X.s₀.heap.get? b=some o→b≠X.env.locals:=fun b o e=>Nat.ne_of_lt (Nat.lt_of_lt_of_le (Heap.lt_size e) I.ok.above)
 have neC:∀ b o,X.s₀.heap.get? b=some o→b∉X.ex→b∉ch:=fun b o e hx hb=>by
  rcases (hch b hb).1 with z | z
  ·exact hx z
  ·exact absurd (Nat.lt_of_lt_of_le (Heap.lt_size e) z) (Nat.lt_irrefl _)
 have cellK:∀ x c,X.env.cells.lookup x=some c→∀ v,s.heap.IsCell c v→h'.IsCell c v:=fun x c e v ⟨o,ho,hd⟩=>by
  have nch:c∉ch:=fun z=>(hch c z).2.2.1 x c e rfl
  by_cases hc:c∈X.fs
  ·obtain ⟨sl,q⟩:=slot c o (I.cne x c e) hc nch ho (I.freeC x c e)
   exact ⟨_,q,hd⟩
  ·exact ⟨o,keep c o (I.cne x c e) hc nch ho (I.freeC x c e),hd⟩
 refine ⟨I.ok,I.os,hg,⟨fun b o e n hb hx=>?_,fun b o e n hb hx=>?_,fun b o e n hx=>?_,fun b o e hx=>?_,fun b xs e=>tups b xs (I.base.tups b xs e),fun b o xs e=>frzs b o xs (I.base.frzs b o xs e),fun b ps e=>?_⟩,?_,fun x c e=>?_,?_,fun x c e=>?_,fun p hp=>?_,hok,I.len⟩
 ·exact keep b o (neL b o e) hb (neC b o e hx) (I.base.keep b o e n hb hx) (I.base.free b o e n hx)
 ·obtain ⟨sl,e1⟩:=I.base.slot b o e n hb hx
  obtain ⟨sl',e2⟩:=slot b _ (neL b o e) hb (neC b o e hx) e1 (I.base.free b o e n hx)
  exact ⟨sl',e2⟩
 ·obtain ⟨o',e1⟩:=I.base.there b o e hx
  exact free b o' (neC b o e hx) e1 (I.base.free b o e n hx)
 ·obtain ⟨o',e1⟩:=I.base.there b o e hx
  exact there b o' (neC b o e hx) e1
 ·obtain ⟨m1,e1⟩:=I.base.tbls b ps e
  obtain ⟨m2,e2⟩:=tbls b _ e1
  exact ⟨m1++m2,by rw [e2,Array.append_assoc]⟩
 ·obtain ⟨m,hn,hl⟩:=I.loc
  refine ⟨m,ns m hn,fun i x v e1 e2 e3=>?_⟩
  obtain ⟨u,r,l⟩:=hl i x v e1 e2 e3
  refine ⟨u,r,?_⟩
  rcases l with l | ⟨k,c,e,z⟩
  ·exact .inl l
  ·exact .inr ⟨k,c,e,cellK x c e _ z⟩
 ·obtain ⟨v,z⟩:=I.cell x c e
  exact ⟨v,cellK x c e v z⟩
 ·obtain ⟨m,⟨o,_,_,ho,_⟩,_⟩:=I.loc
  exact free _ o (fun z=>(hch _ z).2.1 rfl) ho I.free
 ·obtain ⟨v,o,ho,hd⟩:=I.cell x c e
  exact free c o (fun z=>(hch c z).2.2.1 x c e rfl) ho (I.freeC x c e)
 ·obtain ⟨e,n,ne,nf,d⟩:=I.pin p hp
  have nch:p.1∉ch:=fun z=>(hch p.1 z).2.2.2 p hp rfl
  exact ⟨keep p.1 p.2 ne nf nch e n,free p.1 p.2 nch e n,ne,nf,d⟩
theorem Inv.un {t':Nat} (I:Inv X pins σ H s) (u:Un X.fs [] H H' s.heap h') (hok:HOk X.prog X.w H' h'):Inv X pins σ H' { s with heap:=h',toks:=t' }:=by
 obtain ⟨m,⟨o,es,ep,ho,r⟩,_⟩:=id I.loc
 obtain ⟨sl,hL⟩:=u.any ho I.free (by simp)
 exact I.step (g':=s.gens) (d':=s.drawn) (ch:=[]) (fun _ z=>nomatch z) (fun b o _ hb _ e n=>u.keep b o e n hb (by simp)) (fun b o _ hb _ e n=>u.slot b o e n hb (by simp)) (fun b o _ e n=>u.free b o e n (by simp)) (fun b o _ e=>u.there b o e (by simp)) u.tups u.frzs u.tbls (fun m' hm=>by
  obtain ⟨o',es',ep',ho',r'⟩:=hm
  rw [ho] at ho';cases ho'
  exact ⟨_,es',ep',hL,r'⟩) hok I.bare
theorem Inv.call {g':Array GenState} {t':Nat} {d':Drawn} {ch:List Addr} (I:Inv X pins σ H s) (u:Un (frs X.stack) ch H H' s.heap h') (hok:HOk X.prog X.w H' h') (hg:AllBare g')
  (hch:∀ b∈ch,(b∈X.ex∨X.s₀.heap.objs.size≤b)∧b≠X.env.locals∧(∀ x c,X.env.cells.lookup x=some c→c≠b)∧∀ p∈X.pn++pins,p.1≠b) :
  Inv X pins σ H' { s with heap:=h',gens:=g',drawn:=d',toks:=t' }:=by
 obtain ⟨m,⟨o,es,ep,ho,r⟩,_⟩:=id I.loc
 obtain ⟨sl,hL⟩:=u.any ho I.free fun z=>(hch _ z).2.1 rfl
 exact I.step (ch:=ch) hch (fun b o hL hb hc e n=>u.keep b o e n (fun z=>(List.mem_cons.mp (I.stkSub b z)).elim hL hb) hc) (fun b o _ _ hc e n=>u.any e n hc) (fun b o hc e n=>u.free b o e n hc) (fun b o hc e=>u.there b o e hc) u.tups u.frzs u.tbls (fun m' hm=>by
  obtain ⟨o',es',ep',ho',r'⟩:=hm
  rw [ho] at ho';cases ho'
  exact ⟨_,es',ep',hL,r'⟩) hok hg
theorem Inv.turned {t':Nat} {it:Addr} (I:Inv X pins σ H s) (k:∀ b o,b≠it→s.heap.get? b=some o→h'.get? b=some o) (hn:H it=none) (hL:it≠X.env.locals)
  (h1:it∈X.ex∨X.s₀.heap.objs.size≤it) (h2:∀ x c,X.env.cells.lookup x=some c→c≠it) (h3:∀ p∈X.pn++pins,p.1≠it):Inv X pins σ H { s with heap:=h',toks:=t' }:=by
 have nit:∀ b u,H b=some u→b≠it:=fun b u e z=>by rw [z,hn] at e;cases e
 refine I.step (g':=s.gens) (d':=s.drawn) (ch:=[it]) (fun b hb=>?_) (fun b o _ _ hc e _=>k b o (fun z=>hc (by simp [z])) e) (fun b o _ _ hc e _=>⟨o.slots,k b o (fun z=>hc (by simp [z])) e⟩) (fun _ _ _ _ n=>n)
  (fun b o hc e=>⟨o,k b o (fun z=>hc (by simp [z])) e⟩) (fun _ _ e=>e) (fun _ _ _ e=>e) (fun b ps e=>⟨#[],by rw [e];simp⟩) (fun m hm=>?_) (fun b u e=>?_) I.bare
 ·have e:b=it:=by simpa using hb
  subst e
  exact ⟨h1,hL,h2,h3⟩
 ·obtain ⟨o,es,ep,ho,r⟩:=hm
  exact ⟨o,es,ep,k _ o (Ne.symm hL) ho,r⟩
 ·refine (I.hok b u e).stay (fun c v hc q=>k c v ?_ q) (fun _ q=>q) fun _ _ q=>q
  rcases hc with z | z
  ·rw [z];exact nit b u e
  ·exact nit c _ z
theorem Inv.tok (I:Inv X pins σ H s) (t:Nat):Inv X pins σ H { s with toks:=t }:=I.un (h':=s.heap) (t':=t) Un.refl I.hok
theorem Inv.kept {t':Nat} (I:Inv X pins σ H s) (k:∀ b u,s.heap.get? b=some u→h'.get? b=some u):Inv X pins σ H { s with heap:=h',toks:=t' }:=I.un (Un.kept k) (I.hok.kept k)
theorem Inv.laid {a:Addr} {o:HO} {t':Nat} (I:Inv X pins σ H s) (k:∀ b u,s.heap.get? b=some u→h'.get? b=some u) (hp:s.heap.objs.size≤a) (new:YM X.prog X.w (upd H a o) h' a o) :
  Inv X pins σ (upd H a o) { s with heap:=h',toks:=t' }:=I.un (Un.laid k hp (I.hok.fresh hp)) (I.hok.laid k hp new)
theorem Inv.write {x e:Addr} {o:HO} {t':Nat} (I:Inv X pins σ H s) (mu:Mut (H x)) (he:e=x∨H e=some (.own x)) (k:∀ b u,b≠e→s.heap.get? b=some u→h'.get? b=some u) (heo:∃ u,h'.get? e=some u)
  (new:YM X.prog X.w (upd H x o) h' x o):Inv X pins σ (upd H x o) { s with heap:=h',toks:=t' }:=I.un (Un.write mu he k heo) (I.hok.write mu he k heo new)
theorem Inv.pins_of {pins':List (Addr×Obj)} (I:Inv X pins σ H s) (h:∀ p∈pins',s.heap.get? p.1=some p.2∧H p.1=none∧p.1≠X.env.locals∧p.1∉X.fs∧∀ v,p.2.data ≠ .cell v):Inv X pins' σ H s :=
 ⟨I.ok,I.os,I.bare,I.base,I.loc,I.cell,I.free,I.freeC,fun p hp=>(List.mem_append.mp hp).elim (fun z=>I.pin p (List.mem_append_left _ z)) (h p),I.hok,I.len⟩
theorem Ul {N:List Str} (hN:N.Nodup) {i j:Nat} {x:Str} (a:N[i]?=some x) (b:N[j]?=some x):i=j:=by
 obtain ⟨h1,e1⟩:=List.getElem?_eq_some_iff.mp a
 obtain ⟨h2,e2⟩:=List.getElem?_eq_some_iff.mp b
 exact (List.getElem_inj hN).mp (e1.trans e2.symm)
theorem Ycl {M:Model} {A:Around} {E:Value→Shared→Prop} {i:Nat} {x:Str} {v:V} {u:Value} {Q:Unit→Shared→Prop} (I:Inv X pins σ H s) (hN:X.N.Nodup) (hi:X.N[i]?=some x) (hx:Loc X.env.scope x) (r:YC v u)
  (h:∀ s',Inv X pins (σ.set i (some v)) H s'→(∃ a,Heap.SameBut a s.heap s'.heap∧(a=X.env.locals∨X.env.cells.lookup x=some a))→Q () s') (hf:X.fn x=true∨X.env.scope.names.lookup x=some .local:=by first | exact .inl rfl | exact .inr rfl | assumption):wpAny M A (storeName X.env x u) Q E s:=by
 obtain ⟨m,hn,hl⟩:=id I.loc
 have hcls:(X.env.scope.kind == .class||(X.env.scope.kind == .module&&X.env.locals != X.env.globals))=false:=by rw [I.ok.kind];rfl
 have hiσ:i<σ.length:=by rw [I.len];exact (List.getElem?_eq_some_iff.mp hi).1
 have cne:=I.cne
 have tracked:∀ {a:Addr} {h':Heap},(∃ o,s.heap.get? a=some o∧H a=none)→Heap.SameBut a s.heap h'→HOk X.prog X.w H h':=fun {a h'} ha hs b ob e=>by
  obtain ⟨_,_,hfree⟩:=ha
  refine (I.hok b ob e).stay (fun c w' hc q=>(hs.2 c ?_).trans q) (fun _ q=>q) fun _ _ q=>q
  rintro rfl
  rcases hc with rfl | hc
  ·rw [hfree] at e;cases e
  ·rw [hfree] at hc;cases hc
 rcases hx with hk | hk
 ·refine wpAny_storeName_local hk hn (fun h' hn' hs=>?_) hcls
  obtain ⟨oL,_,_,hoL,_⟩:=id hn
  refine h _ ⟨I.ok,I.os,I.bare,⟨fun b o e n hb hx=>?_,fun b o e n hb hx=>?_,I.base.free,fun b o e hx=>?_,I.base.tups,I.base.frzs,I.base.tbls⟩,⟨_,hn',fun j y v' e1 e2 e3=>?_⟩,fun y c e=>?_,I.free,I.freeC,fun p hp=>?_,tracked ⟨oL,hoL,I.free⟩ hs,by simpa using I.len⟩ ⟨_,hs,.inl rfl⟩
  ·exact (hs.2 b (Nat.ne_of_lt (Nat.lt_of_lt_of_le (Heap.lt_size e) I.ok.above))).trans (I.base.keep b o e n hb hx)
  ·obtain ⟨sl,e1⟩:=I.base.slot b o e n hb hx
   exact ⟨sl,(hs.2 b (Nat.ne_of_lt (Nat.lt_of_lt_of_le (Heap.lt_size e) I.ok.above))).trans e1⟩
  ·obtain ⟨o',e1⟩:=I.base.there b o e hx
   exact ⟨o',(hs.2 b (Nat.ne_of_lt (Nat.lt_of_lt_of_le (Heap.lt_size e) I.ok.above))).trans e1⟩
  ·by_cases hj:j=i
   ·subst hj
    rw [hi] at e1;cases e1
    rw [List.getElem?_set_self hiσ] at e2
    cases e2
    exact ⟨u,r,.inl ⟨hk,by simp⟩⟩
   ·rw [List.getElem?_set_ne (Ne.symm hj)] at e2
    obtain ⟨u',r',q⟩:=hl j y v' e1 e2 e3
    refine ⟨u',r',?_⟩
    rcases q with ⟨k,e⟩ | ⟨k,c,e,z⟩
    ·refine .inl ⟨k,?_⟩
     have:y≠x:=fun e=>hj (Ul hN e1 (e▸hi))
     simp [this,e]
    ·exact .inr ⟨k,c,e,z.sameBut hs (cne y c e)⟩
  ·obtain ⟨w',z⟩:=I.cell y c e
   exact ⟨w',z.sameBut hs (cne y c e)⟩
  ·obtain ⟨e,n,ne,nf,d⟩:=I.pin p hp
   exact ⟨(hs.2 p.1 ne).trans e,n,ne,nf,d⟩
 ·have hfn:X.fn x=true:=by
   rcases hf with z | z
   ·exact z
   ·rw [z] at hk;cases hk
  obtain ⟨c,hc⟩:=I.ok.has x (.inl hk)
  obtain ⟨w',z⟩:=I.cell x c hc
  refine wpAny_storeName_cell I.ok.kind hk hc z (fun h' hc' hs=>?_)
  obtain ⟨oc,hoc,hocd⟩:=id z
  refine h { s with heap:=h' } ⟨I.ok,I.os,I.bare,⟨fun b o e n hb hx=>?_,fun b o e n hb hx=>?_,I.base.free,fun b o e hx=>?_,I.base.tups,I.base.frzs,I.base.tbls⟩,⟨m,hn.sameBut hs (Ne.symm (cne x c hc)),fun j y v' e1 e2 e3=>?_⟩,fun y c' e=>?_,I.free,I.freeC,fun p hp=>?_,tracked ⟨oc,hoc,I.freeC x c hc⟩ hs,by simpa using I.len⟩ ⟨c,hs,.inr hc⟩
  ·exact (hs.2 b (Nat.ne_of_lt (Nat.lt_of_lt_of_le (Heap.lt_size e) (I.ok.cab x c hfn hc)))).trans (I.base.keep b o e n hb hx)
  ·obtain ⟨sl,e1⟩:=I.base.slot b o e n hb hx
   exact ⟨sl,(hs.2 b (Nat.ne_of_lt (Nat.lt_of_lt_of_le (Heap.lt_size e) (I.ok.cab x c hfn hc)))).trans e1⟩
  ·obtain ⟨o',e1⟩:=I.base.there b o e hx
   exact ⟨o',(hs.2 b (Nat.ne_of_lt (Nat.lt_of_lt_of_le (Heap.lt_size e) (I.ok.cab x c hfn hc)))).trans e1⟩
  ·by_cases hj:j=i
   ·subst hj
    rw [hi] at e1;cases e1
    rw [List.getElem?_set_self hiσ] at e2
    cases e2
    exact ⟨u,r,.inr ⟨.inl hk,c,hc,hc'⟩⟩
   ·rw [List.getElem?_set_ne (Ne.symm hj)] at e2
    obtain ⟨u',r',q⟩:=hl j y v' e1 e2 e3
    refine ⟨u',r',?_⟩
    rcases q with q | ⟨k,c',e,z'⟩
    ·exact .inl q
    ·refine .inr ⟨k,c',e,z'.sameBut hs ?_⟩
     rintro rfl
     exact hj (Ul hN e1 (I.ok.inj _ _ _ e hc▸hi))
  ·by_cases hcc:c'=c
   ·subst hcc;exact ⟨_,hc'⟩
   ·obtain ⟨w2,z2⟩:=I.cell y c' e
    exact ⟨w2,z2.sameBut hs hcc⟩
  ·obtain ⟨e,n,ne,nf,d⟩:=I.pin p hp
   refine ⟨(hs.2 p.1 ?_).trans e,n,ne,nf,d⟩
   intro q
   rw [q,hoc] at e
   have q':oc=p.2:=Option.some.inj e
   exact d w' (by rw [← q'];exact hocd)
theorem Vq {M:Model} {A:Around} {E:Value→Shared→Prop} {i:Nat} {x:Str} {v:V} {u:Value} {Q:Unit→Shared→Prop} (I:Inv X pins σ H s) (hN:X.N.Nodup) (hi:X.N[i]?=some x) (hx:Loc X.env.scope x) (r:YC v u)
  (h:∀ s',Inv X pins (σ.set i (some v)) H s'→Q () s') (hf:X.fn x=true∨X.env.scope.names.lookup x=some .local:=by first | exact .inl rfl | exact .inr rfl | assumption):wpAny M A (storeName X.env x u) Q E s :=
 Ycl I hN hi hx r (fun s' I' _=>h s' I') hf
theorem Inv.call' {s':Shared} {ch:List Addr} (I:Inv X pins σ H s) (ho:s'.os=s.os) (u:Un (frs X.stack) ch H H' s.heap s'.heap) (hok:HOk X.prog X.w H' s'.heap) (hg:AllBare s'.gens)
  (hch:∀ b∈ch,(b∈X.ex∨X.s₀.heap.objs.size≤b)∧b≠X.env.locals∧(∀ x c,X.env.cells.lookup x=some c→c≠b)∧∀ p∈X.pn++pins,p.1≠b):Inv X pins σ H' s':=by
 obtain ⟨h',g',d',t',o'⟩:=s'
 have e:o'=s.os:=ho
 subst e
 exact I.call (g':=g') (t':=t') (d':=d') u hok hg hch
end
abbrev XK:=Value→Option Addr→Hp→Prop
abbrev St:=List (Option V)
abbrev VK:=V→Hp→Prop
abbrev TE:=St→Hp→VK→Prop
abbrev TT:=St→Hp→(Bool→Hp→Prop)→Prop
abbrev TA:=St→Hp→(List V→Hp→Prop)→Prop
structure Ends where
 nx:St→Hp→Prop
 rt:VK
 bk:St→Hp→Prop:=fun _ _=>False
 ct:St→Hp→Prop:=fun _ _=>False
abbrev TS:=Ends→St→Hp→Prop
def EP (X:Cx) (pins:List (Addr×Obj)) (σ:St) (Q:VK) (u:Value) (s':Shared):Prop:=∃ v H',Inv X pins σ H' s'∧YC v u∧Q v H'
def TP (X:Cx) (pins:List (Addr×Obj)) (σ:St) (Q:Bool→Hp→Prop) (b:Bool) (s':Shared):Prop:=∃ H',Inv X pins σ H' s'∧Q b H'
def AP (X:Cx) (pins:List (Addr×Obj)) (σ:St) (Q:List V→Hp→Prop) (us:List Value) (s':Shared):Prop:=∃ vs H',Inv X pins σ H' s'∧Yu vs us∧Q vs H'
def SP (X:Cx) (pins:List (Addr×Obj)) (D:Ends) (f:Flow) (s':Shared):Prop :=
 match f with
 | .next=>∃ σ' H',Inv X pins σ' H' s'∧D.nx σ' H'
 | .brk=>∃ σ' H',Inv X pins σ' H' s'∧D.bk σ' H'
 | .cont=>∃ σ' H',Inv X pins σ' H' s'∧D.ct σ' H'
 | .ret u=>∃ v σ' H',Inv X pins σ' H' s'∧YC v u∧D.rt v H'
def PE (X:Cx) (e:Expr) (t:TE):Prop :=
 ∀ (pins:List (Addr×Obj)) (s:Shared) (σ:St) (H:Hp) (Q:VK),Inv X pins σ H s→t σ H Q→wpAny (model X.prog X.w) X.A (eval e X.env) (EP X pins σ Q) X.xe s
def PT (X:Cx) (e:Expr) (t:TT):Prop :=
 ∀ (pins:List (Addr×Obj)) (s:Shared) (σ:St) (H:Hp) (Q:Bool→Hp→Prop),Inv X pins σ H s→t σ H Q→wpAny (model X.prog X.w) X.A (isTrue e X.env (eval e X.env)) (TP X pins σ Q) X.xe s
def PW (X:Cx) (e:Expr) (t:TT):Prop :=
 ∀ (whole:Sem Value) (pins:List (Addr×Obj)) (s:Shared) (σ:St) (H:Hp) (Q:Bool→Hp→Prop),Inv X pins σ H s→t σ H Q→wpAny (model X.prog X.w) X.A (isTrue e X.env whole) (TP X pins σ Q) X.xe s
theorem PW.pt {X:Cx} {e:Expr} {t:TT} (h:PW X e t):PT X e t:=h _
def PA (X:Cx) (es:List Expr) (t:TA):Prop :=
 ∀ (pos:Pos) (pins:List (Addr×Obj)) (s:Shared) (σ:St) (H:Hp) (Q:List V→Hp→Prop),Inv X pins σ H s→t σ H Q→wpAny (model X.prog X.w) X.A (spliced (backTo pos (starEach es X.env))) (AP X pins σ Q) X.xe s
def PS (X:Cx) (st:Stmt) (t:TS):Prop :=
 ∀ (pins:List (Addr×Obj)) (s:Shared) (σ:St) (H:Hp) (D:Ends),Inv X pins σ H s→t D σ H→wpAny (model X.prog X.w) X.A (exec st X.env) (SP X pins D) X.xe s
def PSs (X:Cx) (st:List Stmt) (t:TS):Prop :=
 ∀ (pins:List (Addr×Obj)) (s:Shared) (σ:St) (H:Hp) (D:Ends),Inv X pins σ H s→t D σ H→wpAny (model X.prog X.w) X.A (execs st X.env) (SP X pins D) X.xe s
theorem thn {α:Type} {t:Sem α} {Q Q':α→Shared→Prop} {M:Model} {A:Around} {E:Value→Shared→Prop} {s:Shared} (h:wpAny M A t Q E s) (hQ:∀ a s,Q a s→Q' a s):wpAny M A t Q' E s:=wpAny_mono h hQ fun _ _ x=>x
end L2
namespace L2
open PySem PySem.Spec PyProof.Rows
section
variable {X:Cx}
def Wd (i:Nat):TE:=fun σ H Q=>∃ v,σ[i]?=some (some v)∧Q v H
def tC (v:V):TE:=fun _ H Q=>Q v H
theorem QR {i:Nat} {x:Str} {pos:Pos} (hN:X.N[i]?=some x) (hv:Vis X.env.scope x) (hd:(x==("__debug__":Str))=false:=by decide) (hcd:(x==("__classdict__":Str))=false:=by decide):PE X (.Name x pos) (Wd i):=by
 intro pins s σ H Q I h
 obtain ⟨v,e,h⟩:=h
 obtain ⟨m,hn,hl⟩:=I.loc
 obtain ⟨u,r,l⟩:=hl i x v hN e hv
 have fin:EP X pins σ Q u s:=⟨v,H,I,r,h⟩
 rcases l with ⟨hk,hm⟩ | ⟨hk,c,hc,hcell⟩
 ·exact wpAny_Name (wpAny_loadName_local I.ok.kind hk hn hm fin) hd
 ·rcases hk with hk | hk
  ·exact wpAny_Name (wpAny_loadName_cell I.ok.kind hk hc hcell fin) hd
  ·exact wpAny_Name (wpAny_loadName_free I.ok.kind hk hc hcell fin hcd) hd
theorem Yc {i j pos}:PE X (.Constant (.int i) j pos) (tC (.int i)):=fun _ _ _ H _ I h=>wpAny_Constant_int ⟨.int i,H,I.tok _,⟨_,rfl⟩,h⟩
theorem We {b j pos}:PE X (.Constant (.bool b) j pos) (tC (.bl b)):=fun _ _ _ H _ I h=>Constant_bool ⟨.bl b,H,I,rfl,h⟩
theorem XZ {j pos}:PE X (.Constant .none j pos) (tC .non):=fun _ _ _ H _ I h=>Constant_none ⟨.non,H,I,rfl,h⟩
theorem Yi {x j pos}:PE X (.Constant (.str x) j pos) (tC (.str x)):=fun _ _ _ H _ I h=>Calls.Constant_str ⟨.str x,H,I.tok _,⟨_,rfl⟩,h⟩
def Gl (X:Cx) (x:Str):Prop:=X.env.kindOf x=some .globalImplicit
theorem WE {E:Value→Shared→Prop} {pins:List (Addr×Obj)} {s:Shared} {σ:St} {H:Hp} {x:Str} {u:Value} {pos:Pos} {Q:Value→Shared→Prop} (I:Inv X pins σ H s) (hg:Gl X x) (hm:X.mg x=some u) (h:Q u s)
  (hd:(x==("__debug__":Str))=false:=by decide):wpAny (model X.prog X.w) X.A (eval (.Name x pos) X.env) Q E s :=
 Calls.Name_function_global I.ok.kind hg (Calls.loadGlobal_global (by rw [I.ok.glob];exact I.mod.glob.keeps I.bk) hm h) hd
theorem W8 {E:Value→Shared→Prop} {pins:List (Addr×Obj)} {s:Shared} {σ:St} {H:Hp} {x:Str} {u:Value} {pos:Pos} {Q:Value→Shared→Prop} (I:Inv X pins σ H s) (hg:Gl X x) (hm:X.mg x=none) (hv:bootBuiltins x=some u) (h:Q u s)
  (hn:x≠"__name__":=by decide) (hd:(x==("__debug__":Str))=false:=by decide):wpAny (model X.prog X.w) X.A (eval (.Name x pos) X.env) Q E s:=by
 obtain ⟨mb,h1,h2⟩:=I.mod.blt
 exact Calls.Name_function_global I.ok.kind hg (Calls.loadGlobal_builtin (by rw [I.ok.glob];exact I.mod.glob.keeps I.bk) hm (by rw [I.ok.blt];exact h1.keeps I.bk) ((h2 x hn).trans hv) h) hd
theorem Ya2 {x:Str} {v:V} {u:Value} {pos:Pos} (hg:Gl X x) (hm:X.mg x=some u) (r:YC v u) (hd:(x==("__debug__":Str))=false:=by decide):PE X (.Name x pos) (tC v) :=
 fun _ _ _ H _ I h=>WE I hg hm ⟨v,H,I,r,h⟩ hd
theorem Yeg {x:Str} {v:V} {u:Value} {pos:Pos} (hg:Gl X x) (hm:X.mg x=none) (hv:bootBuiltins x=some u) (r:YC v u) (hn:x≠"__name__":=by decide) (hd:(x==("__debug__":Str))=false:=by decide):PE X (.Name x pos) (tC v) :=
 fun _ _ _ H _ I h=>W8 I hg hm hv ⟨v,H,I,r,h⟩ hn hd
variable {a b:Expr} {ta tb:TE} {pos:Pos}
def tB (t:TE):TT:=fun σ H Q=>t σ H fun x H1=>∃ c,x = .bl c∧Q c H1
theorem Y1 {e:Expr} {t:TE} (h:PE X e t) (he:∀ whole,isTrue e X.env whole=(do let v ← whole;standAt e.pos;holding [v] (truthy v))):PT X e (tB t):=by
 intro pins s σ H Q I hw
 refine isTrue_plain (thn (h pins s σ H _ I hw) fun v s1 ⟨x,H1,I1,r1,q1⟩=>?_) (he _)
 obtain ⟨d,rfl,q⟩:=q1
 cases r1
 exact wpAny_truthy_bool ⟨H1,I1,q⟩
variable {tA tB':TT} {Y8:List Expr}
def tAnd (t u:TT):TT:=fun σ H Q=>t σ H fun c H1=>if c=true then u σ H1 Q else Q false H1
def tOr (t u:TT):TT:=fun σ H Q=>t σ H fun c H1=>if c=true then Q true H1 else u σ H1 Q
def tNot (t:TT):TT:=fun σ H Q=>t σ H fun c H1=>Q (!c) H1
theorem XV (ha:PT X a tA):PW X (.BoolOp .And [a] pos) tA:=by
 intro wh pins s σ H Q I h
 refine isTrue_and (thn (ha pins s σ H Q I h) fun c s1 e=>?_)
 cases c with
 | true=>exact isTrue_and_nil e
 | false=>exact e
theorem XI (ha:PT X a tA):PW X (.BoolOp .Or [a] pos) tA:=by
 intro wh pins s σ H Q I h
 refine isTrue_or (thn (ha pins s σ H Q I h) fun c s1 e=>?_)
 cases c with
 | false=>exact isTrue_or_nil e
 | true=>exact e
theorem Wf (ha:PT X a tA) (hb:PW X (.BoolOp .And (b::Y8) pos) tB'):PW X (.BoolOp .And (a::b::Y8) pos) (tAnd tA tB'):=by
 intro wh pins s σ H Q I h
 refine isTrue_and (thn (ha pins s σ H _ I h) fun c s1 ⟨H1,I1,q1⟩=>?_)
 cases c with
 | true=>exact hb wh pins s1 σ H1 Q I1 q1
 | false=>exact ⟨H1,I1,q1⟩
theorem XW (ha:PT X a tA) (hb:PW X (.BoolOp .Or (b::Y8) pos) tB'):PW X (.BoolOp .Or (a::b::Y8) pos) (tOr tA tB'):=by
 intro wh pins s σ H Q I h
 refine isTrue_or (thn (ha pins s σ H _ I h) fun c s1 ⟨H1,I1,q1⟩=>?_)
 cases c with
 | true=>exact ⟨H1,I1,q1⟩
 | false=>exact hb wh pins s1 σ H1 Q I1 q1
theorem X0 (ha:PT X a tA):PT X (.UnaryOp .Not a pos) (tNot tA):=by
 intro pins s σ H Q I h
 exact isTrue_not (ha pins s σ H (fun c H1=>Q (!c) H1) I h)
def Yd2 (ta tb:TE):TE:=fun σ H Q=>ta σ H fun x H1=>∃ c,x = .bl c∧if c=true then tb σ H1 Q else Q (.bl false) H1
def tOrV (ta tb:TE):TE:=fun σ H Q=>ta σ H fun x H1=>∃ c,x = .bl c∧if c=true then Q (.bl true) H1 else tb σ H1 Q
def Yd3 (ta:TE):TE:=fun σ H Q=>ta σ H fun x H1=>∃ c,x = .bl c∧Q (.bl (!c)) H1
theorem XE {op} {t:TE} (h:PE X a t):PE X (.BoolOp op [a] pos) t:=fun pins s σ H Q I hw=>BoolOp_one (h pins s σ H Q I hw)
theorem XF (ha:PE X a ta) (hb:PE X (.BoolOp .And (b::Y8) pos) tb):PE X (.BoolOp .And (a::b::Y8) pos) (Yd2 ta tb):=by
 intro pins s σ H Q I h
 refine BoolOp_and (thn (ha pins s σ H _ I h) fun v s1 ⟨x,H1,I1,r1,q1⟩=>?_)
 obtain ⟨c,rfl,q1⟩:=q1
 cases r1
 refine wpAny_truthy_bool ?_
 cases c with
 | true=>exact hb pins s1 σ H1 Q I1 q1
 | false=>exact ⟨.bl false,H1,I1,rfl,q1⟩
theorem UA (ha:PE X a ta):PE X (.UnaryOp .Not a pos) (Yd3 ta):=by
 intro pins s σ H Q I h
 refine UnaryOp_ (thn (ha pins s σ H _ I h) fun v s1 ⟨x,H1,I1,r1,q1⟩=>?_)
 obtain ⟨c,rfl,q1⟩:=q1
 cases r1
 exact not_of (wpAny_truthy_bool ⟨.bl (!c),H1,I1,rfl,q1⟩)
def tIf (t:TT) (ta tb:TE):TE:=fun σ H Q=>t σ H fun c H1=>if c=true then ta σ H1 Q else tb σ H1 Q
theorem QS {c:Expr} (hc:PT X c tA) (ha:PE X a ta) (hb:PE X b tb):PE X (.IfExp c a b pos) (tIf tA ta tb):=by
 intro pins s σ H Q I h
 refine wpAny_IfExp (thn (hc pins s σ H _ I h) fun d s1 ⟨H1,I1,q1⟩=>?_)
 cases d with
 | true=>exact ha pins s1 σ H1 Q I1 q1
 | false=>exact hb pins s1 σ H1 Q I1 q1
end
end L2
namespace L2
open PySem PySem.Spec PyProof.Rows
def SqL (K:PySem.W.Frag) (H:Hp) (a:Addr) (xs:List V):Prop :=
 Rd H a (.lst xs) ∨
  ∃ (o:Obj) (its:Array Value) (n:Nat),K.lookup a=some o∧o.cls = .type "list"∧o.dict=none∧o.data = .seq its n∧its.size≤sizeLine∧Yu xs its.toList
def SqT (K:PySem.W.Frag) (H:Hp) (a:Addr) (xs:List V):Prop :=
 Rd H a (.tup xs) ∨
  ∃ (o:Obj) (its:Array Value) (n:Nat),K.lookup a=some o∧o.cls = .type "tuple"∧o.data = .seq its n∧its.size≤sizeLine∧Yu xs its.toList
def absV:Value→Option V
 | .none=>some .non
 | .bool b=>some (.bl b)
 | .int i _=>some (.int i)
 | .str x _=>some (.str x)
 | .bytes b _=>some (.byt b)
 | .float b _=>some (.flt b)
 | .ref a=>some (.ref a)
 | .type n=>some (.ty n)
 | _=>none
theorem YC.abs {x:V} {u:Value} (r:YC x u):absV u=some x:=by
 cases x with
 | non=>cases r;rfl
 | bl _=>cases r;rfl
 | int _=>obtain ⟨t,rfl⟩:=r;rfl
 | str _=>obtain ⟨t,rfl⟩:=r;rfl
 | byt _=>obtain ⟨t,rfl⟩:=r;rfl
 | flt _=>obtain ⟨t,rfl⟩:=r;rfl
 | ref _=>cases r;rfl
 | ty _=>cases r;rfl
theorem YC.inj {x y:V} {u:Value} (r:YC x u) (q:YC y u):x=y:=Option.some.inj (r.abs.symm.trans q.abs)
theorem Yu.inj:∀ {xs ys:List V} {us:List Value},Yu xs us→Yu ys us→xs=ys
 | _,_,_,.nil,.nil=>rfl
 | _,_,_,.cons r t,.cons r' t'=>by rw [r.inj r',Yu.inj t t']
section
variable {X:Cx} {pins:List (Addr×Obj)} {σ:St} {H:Hp} {s:Shared} {a:Addr} {xs ys:List V}
theorem SqL.of {K:PySem.W.Frag} (h:H a=some (.lst xs)):SqL K H a xs := .inl (.inl h)
theorem SqT.of {K:PySem.W.Frag} (h:H a=some (.tup xs)):SqT K H a xs := .inl (.inl h)
theorem Inv.list (I:Inv X pins σ H s) (h:SqL X.K H a xs):∃ its:List Value,Yu xs its∧PlainL s.heap a its.toArray∧xs.length≤sizeLine:=by
 rcases h with h | ⟨o,its,n,hk,hc,hd,hs,hz,r⟩
 ·obtain ⟨z,its,n,r,e⟩:=h.ok I.hok
  exact ⟨its,r,⟨_,n,e,rfl,rfl,rfl⟩,z⟩
 ·refine ⟨its.toList,r,⟨o,n,I.kIn a o hk,hc,hd,by simpa using hs⟩,?_⟩
  have e:=r.length
  simp only [Array.length_toList] at e
  omega
theorem Inv.tuple (I:Inv X pins σ H s) (h:SqT X.K H a xs):∃ its:List Value,Yu xs its∧IsTup s.heap a its.toArray∧xs.length≤sizeLine:=by
 rcases h with h | ⟨o,its,n,hk,hc,hs,hz,r⟩
 ·obtain ⟨z,its,r,p⟩:=h.ok I.hok
  exact ⟨its,r,p,z⟩
 ·refine ⟨its.toList,r,⟨o,I.kIn a o hk,hc,n,by simpa using hs⟩,?_⟩
  have e:=r.length
  simp only [Array.length_toList] at e
  omega
theorem Inv.list_inj (I:Inv X pins σ H s) (h:SqL X.K H a xs) (h':SqL X.K H a ys):xs=ys:=by
 obtain ⟨its,r,⟨o,n,e,_,_,d⟩,_⟩:=I.list h
 obtain ⟨its',r',⟨o',n',e',_,_,d'⟩,_⟩:=I.list h'
 rw [e] at e';cases e'
 rw [d] at d'
 injection d' with d1 _
 have:its=its':=by simpa using congrArg Array.toList d1
 subst this
 exact r.inj r'
theorem Inv.tuple_inj (I:Inv X pins σ H s) (h:SqT X.K H a xs) (h':SqT X.K H a ys):xs=ys:=by
 obtain ⟨its,r,⟨o,e,_,n,d⟩,_⟩:=I.tuple h
 obtain ⟨its',r',⟨o',e',_,n',d'⟩,_⟩:=I.tuple h'
 rw [e] at e';cases e'
 rw [d] at d'
 injection d' with d1 _
 have:its=its':=by simpa using congrArg Array.toList d1
 subst this
 exact r.inj r'
end
abbrev Cx.wish (X:Cx) (E:Value→Shared→Prop):Cx:={ X with xe:=E }
abbrev Cx.nox (X:Cx):Cx:=X.wish fun _ _=>False
theorem Cx.Ok.wish {X:Cx} (ok:X.Ok) (E:Value→Shared→Prop):(X.wish E).Ok :=
 ⟨ok.mod,ok.kind,ok.glob,ok.blt,ok.above,ok.inj,ok.has,ok.cab,ok.hd,ok.frames,ok.stk,ok.exf,ok.bs,ok.bsz,ok.noex,ok.exfs,ok.funs,ok.frf⟩
theorem Cx.Ok.unwish {X:Cx} {E:Value→Shared→Prop} (ok:(X.wish E).Ok):X.Ok :=
 ⟨ok.mod,ok.kind,ok.glob,ok.blt,ok.above,ok.inj,ok.has,ok.cab,ok.hd,ok.frames,ok.stk,ok.exf,ok.bs,ok.bsz,ok.noex,ok.exfs,ok.funs,ok.frf⟩
section
variable {X:Cx} {pins:List (Addr×Obj)} {σ:St} {H:Hp} {s:Shared} {E:Value→Shared→Prop}
theorem Inv.wish (I:Inv X pins σ H s) (E:Value→Shared→Prop):Inv (X.wish E) pins σ H s:=⟨I.ok.wish E,I.os,I.bare,I.base,I.loc,I.cell,I.free,I.freeC,I.pin,I.hok,I.len⟩
theorem Inv.unwish (I:Inv (X.wish E) pins σ H s):Inv X pins σ H s:=⟨I.ok.unwish,I.os,I.bare,I.base,I.loc,I.cell,I.free,I.freeC,I.pin,I.hok,I.len⟩
theorem SP.unwish {D:Ends} {f:Flow} {s':Shared} (h:SP (X.wish E) pins D f s'):SP X pins D f s':=by
 cases f with
 | next=>obtain ⟨σ',H',I,q⟩:=h;exact ⟨σ',H',I.unwish,q⟩
 | brk=>obtain ⟨σ',H',I,q⟩:=h;exact ⟨σ',H',I.unwish,q⟩
 | cont=>obtain ⟨σ',H',I,q⟩:=h;exact ⟨σ',H',I.unwish,q⟩
 | ret u=>obtain ⟨v,σ',H',I,r,q⟩:=h;exact ⟨v,σ',H',I.unwish,r,q⟩
theorem PE.nox {e:Expr} {t:TE} (h:PE X.nox e t):PE X e t:=fun pins s σ H Q I hw =>
 wpAny_mono (h pins s σ H Q (I.wish _) hw) (fun _ _ ⟨v,H',I',r,q⟩=>⟨v,H',I'.unwish,r,q⟩) fun _ _ z=>False.elim z
theorem PT.nox {e:Expr} {t:TT} (h:PT X.nox e t):PT X e t:=fun pins s σ H Q I hw =>
 wpAny_mono (h pins s σ H Q (I.wish _) hw) (fun _ _ ⟨H',I',q⟩=>⟨H',I'.unwish,q⟩) fun _ _ z=>False.elim z
theorem PSs.nox {st:List Stmt} {t:TS} (h:PSs X.nox st t):PSs X st t:=fun pins s σ H D I hw =>
 wpAny_mono (h pins s σ H D (I.wish _) hw) (fun _ _ q=>q.unwish) fun _ _ z=>False.elim z
end
section
variable {X:Cx} {st:Stmt} {Y8:List Stmt} {t u:TS} {e:Expr} {te:TE} {pos:Pos}
def Yd4:TS:=fun D σ H=>D.nx σ H
def Wv (t u:TS):TS:=fun D σ H=>t { D with nx:=u D } σ H
theorem Yj:PSs X [] Yd4:=fun _ _ σ H _ I h=>wpAny_execs_nil ⟨σ,H,I,h⟩
theorem Yd (h1:PS X st t) (h2:PSs X Y8 u):PSs X (st::Y8) (Wv t u):=by
 intro pins s σ H D I h
 refine wpAny_execs_cons (thn (h1 pins s σ H { D with nx:=u D } I h) fun f s1 q=>?_)
 cases f with
 | next =>
  obtain ⟨σ',H',I',q⟩:=q
  exact h2 pins s1 σ' H' D I' q
 | ret v=>exact q
 | brk=>exact q
 | cont=>exact q
theorem Ye (h1:PS X st t):PSs X [st] t:=by
 intro pins s σ H D I h
 refine wpAny_execs_cons (thn (h1 pins s σ H D I h) fun f s1 q=>?_)
 cases f with
 | next=>exact wpAny_execs_nil q
 | ret v=>exact q
 | brk=>exact q
 | cont=>exact q
def Ye1:TS:=fun D σ H=>D.bk σ H
def tCont:TS:=fun D σ H=>D.ct σ H
theorem Inv.quiet {pins:List (Addr×Obj)} {σ:St} {H:Hp} {s:Shared} (I:Inv X pins σ H s):interactive X.env=false:=by simp [interactive,I.ok.kind]
def QD (te:TE):TS:=fun D σ H=>te σ H fun _ H1=>D.nx σ H1
theorem V4 (he:PE X e te) (hs:swapsWith e none pos.line X.env=pure false:=by rfl):PS X (.Expr e pos) (QD te):=by
 intro pins s σ H D I h
 exact wpAny_Expr_any (thn (he pins s σ H _ I h) fun v s1 ⟨x,H1,I1,r1,q1⟩=>⟨σ,H1,I1,q1⟩) I.quiet hs
def U0 (te:TE):TS:=fun D σ H=>te σ H D.rt
theorem Yg (he:PE X e te):PS X (.Return (some e) pos) (U0 te):=by
 intro pins s σ H D I h
 exact wpAny_Return_some (thn (he pins s σ H _ I h) fun v s1 ⟨x,H1,I1,r1,q1⟩=>⟨x,σ,H1,I1,r1,q1⟩)
def tRetN:TS:=fun D _ H=>D.rt .non H
def tIfS (c:TT) (t u:TS):TS:=fun D σ H=>c σ H fun b H1=>if b=true then t D σ H1 else u D σ H1
theorem Yo {c:Expr} {a b:List Stmt} {tc:TT} (hc:PT X c tc) (ha:PSs X a t) (hb:PSs X b u):PS X (.If c a b pos) (tIfS tc t u):=by
 intro pins s σ H D I h
 refine wpAny_If (thn (hc pins s σ H _ I h) fun d s1 ⟨H1,I1,q1⟩=>?_)
 cases d with
 | true=>exact ha pins s1 σ H1 D I1 q1
 | false=>exact hb pins s1 σ H1 D I1 q1
def Ycm:TS:=fun _ _ _=>False
theorem Ydl:PS X st Ycm:=fun _ _ _ _ _ _ h=>h.elim
end
abbrev TG:=V→St→Hp→(St→Hp→Prop)→Prop
abbrev TGs:=List V→St→Hp→(St→Hp→Prop)→Prop
def PG (X:Cx) (target:Expr) (t:TG):Prop :=
 ∀ (pins:List (Addr×Obj)) (s:Shared) (σ:St) (H:Hp) (v:V) (u:Value) (Q:St→Hp→Prop),Inv X pins σ H s→YC v u→t v σ H Q →
  wpAny (model X.prog X.w) X.A (assign target X.env u) (fun _ s'=>∃ σ' H',Inv X pins σ' H' s'∧Q σ' H') X.xe s
def PGs (X:Cx) (ts:List Expr) (t:TGs):Prop :=
 ∀ (pins:List (Addr×Obj)) (s:Shared) (σ:St) (H:Hp) (vs:List V) (us:List Value) (Q:St→Hp→Prop),Inv X pins σ H s→Yu vs us→t vs σ H Q →
  wpAny (model X.prog X.w) X.A (assignInOrder ((assignEach ts X.env).map (·.2)) us) (fun _ s'=>∃ σ' H',Inv X pins σ' H' s'∧Q σ' H') X.xe s
abbrev TSet:=V→V→V→Hp→(Hp→Prop)→Prop
abbrev TIp:=V→V→Hp→VK→Prop
section
variable {X:Cx} {pos:Pos}
def YD (i:Nat):TG:=fun v σ H Q=>Q (σ.set i (some v)) H
theorem YZ {i:Nat} {x:Str} (hN:X.N.Nodup) (hi:X.N[i]?=some x) (hx:Loc X.env.scope x) (hf:X.fn x=true∨X.env.scope.names.lookup x=some .local:=by first | exact .inl rfl | exact .inr rfl | assumption):PG X (.Name x pos) (YD i):=by
 intro pins s σ H v u Q I r h
 exact wpAny_assign_Name (Vq I hN hi hx r (fun s' I'=>⟨_,H,I',h⟩) hf)
def WH:TGs:=fun vs σ H Q=>vs=[]∧Q σ H
def Xm (t:TG) (u:TGs):TGs:=fun vs σ H Q=>∃ v r,vs=v::r∧t v σ H fun σ' H'=>u r σ' H' Q
theorem Ya3:PGs X [] WH:=by
 intro pins s σ H vs us Q I r h
 obtain ⟨e,h⟩:=h
 subst e
 cases r
 exact assignInOrder_nil ⟨σ,H,I,h⟩
theorem Vr {e:Expr} {es:List Expr} {t:TG} {u:TGs} (h1:PG X e t) (h2:PGs X es u)
  (hs:(assignEach (e::es) X.env).map (·.2)=assign e X.env::(assignEach es X.env).map (·.2)):PGs X (e::es) (Xm t u):=by
 intro pins s σ H vs us Q I r h
 obtain ⟨v,vr,e1,h⟩:=h
 subst e1
 cases r with
 | cons r rr =>
  rw [hs]
  refine assignInOrder_cons (thn (h1 pins s σ H _ _ _ I r h) fun _ s1 ⟨σ1,H1,I1,q1⟩=>?_)
  exact h2 pins s1 σ1 H1 _ _ Q I1 rr q1
def WI (K:PySem.W.Frag) (n:Nat) (t:TGs):TG:=fun v σ H Q=>∃ a xs,v = .ref a∧SqT K H a xs∧xs.length=n∧t xs σ H Q
theorem Ycn {es:List Expr} {k:Nat} {t:TGs} {n:Nat} (hc:X.calm=true) (h:PGs X es t)
  (hn:(assignEach es X.env).length=n) (hst:(assignEach es X.env).findIdx? (·.1)=none):PG X (.Tuple es k pos) (WI X.K n t):=by
 intro pins s σ H v u Q I r hw
 obtain ⟨a,xs,e1,hq,hl,hw⟩:=hw
 subst e1
 cases r
 obtain ⟨its,rv,ht,hz⟩:=I.tuple hq
 refine assign_Tuple_tuple (I.ok.hd hc) ht (by simp [hn,← hl,rv.length]) hst fun h' hx=>?_
 have I1:Inv X pins σ H { s with heap:=h' }:=I.kept (t':=s.toks) fun b o e=>hx b o (Nat.ne_of_lt (Heap.lt_size e)) e
 exact h pins _ σ H xs _ Q I1 (by simpa using rv) hw
def gSub (to ti:TE) (t:TSet):TG:=fun v σ H Q=>to σ H fun o H1=>ti σ H1 fun i H2=>t o i v H2 fun H3=>Q σ H3
def tAsg (te:TE) (g:TG):TS:=fun D σ H=>te σ H fun x H1=>g x σ H1 D.nx
theorem YJ {i:Nat} {x:Str} {e:Expr} {te:TE} {pos':Pos} (hN:X.N.Nodup) (hi:X.N[i]?=some x) (hx:Loc X.env.scope x) (he:PE X e te) (hs:swapsWith e (some (.Name x pos')) pos.line X.env=pure false) (hf:X.fn x=true∨X.env.scope.names.lookup x=some .local) :
  PS X (.Assign [.Name x pos'] e pos) (tAsg te (YD i)):=by
 intro pins s σ H D I h
 refine wpAny_Assign_Name (thn (he pins s σ H _ I h) fun v s1 ⟨y,H1,I1,r1,q1⟩=>?_) hs
 exact Vq I1 hN hi hx r1 (fun s2 I2=>⟨_,H1,I2,q1⟩) hf
def tAug (i:Nat) (te:TE) (ti:TIp):TS:=fun D σ H=>∃ x,σ[i]?=some (some x)∧te σ H fun y H1=>ti x y H1 fun z H2=>D.nx (σ.set i (some z)) H2
def ipI (f:Int→Int→Int):TIp:=fun x y H Q=>∃ i j,x = .int i∧y = .int j∧Q (.int (f i j)) H
end
section
variable {X:Cx} {pos:Pos}
end
structure It where
 go:Nat→Hp→Prop
 yld:Nat→Hp→V→Hp→Prop
 stop:Nat→Hp→Prop
def X3 (X:Cx) (pins:List (Addr×Obj)) (H:Hp) (b:Addr):Prop :=
 H b=none∧b≠X.env.locals∧b∉X.fs∧(b∈X.ex∨X.s₀.heap.objs.size≤b)∧(∀ x c,X.env.cells.lookup x=some c→c≠b)∧∀ p∈X.pn++pins,p.1≠b
theorem Inv.fpOk {X:Cx} {pins:List (Addr×Obj)} {σ:St} {H H':Hp} {s:Shared} {b:Addr} (I:Inv X pins σ H s) (hb:s.heap.objs.size≤b) (hn:H' b=none):X3 X pins H' b:=by
 refine ⟨hn,Nat.ne_of_gt (Nat.lt_of_lt_of_le I.lt hb),I.nofs hb,.inr (Nat.le_trans I.sz hb),fun x c e z=>?_,fun p hp z=>?_⟩
 ·obtain ⟨v,q⟩:=I.cell x c e
  exact absurd (Nat.lt_of_lt_of_le q.lt (by rw [z];exact hb)) (Nat.lt_irrefl _)
 ·exact absurd (Nat.lt_of_lt_of_le (Heap.lt_size (I.pin p hp).1) (by rw [z];exact hb)) (Nat.lt_irrefl _)
structure Turn (P:Program) (w:World) (K:PySem.W.Frag) (tg:Expr) (J:It) (fp:List Addr) (it:Addr) (tn:Nat→Heap→Prop):Prop where
 mem:it∈fp
 obj:∀ i h,tn i h→∀ b∈fp,∃ o,h.get? b=some o∧∀ v,o.data ≠ .cell v
 keep:∀ i h h',tn i h→(∀ b∈fp,∀ o,h.get? b=some o→h'.get? b=some o)→tn i h'
 item:∀ (X:Cx),X.prog=P→X.w=w→X.K=K→X.calm=true→∀ (i:Nat) (pins:List (Addr×Obj)) (s:Shared) (σ:St) (H:Hp) (E:Value→Shared→Prop),Inv X pins σ H s→(∀ b∈fp,X3 X pins H b)→tn i s.heap→J.go i H →
  wpAny (model P w) X.A (pyNext (.ref it)) (fun r s1=>∃ u,r=some u ∧
   wpAny (model P w) X.A (letOwnedTupleGo tg (.ref it) u) (fun _ s2=>∃ x H',Inv X pins σ H' s2∧YC x u∧J.yld i H x H'∧tn (i+1) s2.heap∧∀ b∈fp,H' b=none) E s1) E s
 done:∀ (X:Cx),X.prog=P→X.w=w→X.K=K→X.calm=true→∀ (i:Nat) (pins:List (Addr×Obj)) (s:Shared) (σ:St) (H:Hp) (E:Value→Shared→Prop),Inv X pins σ H s→(∀ b∈fp,X3 X pins H b)→tn i s.heap→J.stop i H →
  wpAny (model P w) X.A (pyNext (.ref it)) (fun r s1=>r=none∧Inv X pins σ H s1) E s
 self:∀ (A:Around) (i:Nat) (s:Shared) (Q:Value→Shared→Prop) (E:Value→Shared→Prop),tn i s.heap→Q (.ref it) s→wpAny (model P w) A (pyIter (.ref it)) Q E s
abbrev TI:=St→Hp→(It→Hp→Prop)→Prop
def PIE (X:Cx) (pins:List (Addr×Obj)) (σ:St) (tg:Expr) (R:It→Hp→Prop) (itv:Value) (s2:Shared):Prop :=
 ∃ (it:Addr) (fp:List Addr) (tn:Nat→Heap→Prop) (J:It) (H':Hp),itv = .ref it∧Inv X pins σ H' s2∧Turn X.prog X.w X.K tg J fp it tn∧tn 0 s2.heap∧(∀ b∈fp,X3 X pins H' b)∧R J H'
def PI (X:Cx) (tg iter:Expr) (wi:TI):Prop :=
 ∀ (pins:List (Addr×Obj)) (s:Shared) (σ:St) (H:Hp) (R:It→Hp→Prop),Inv X pins σ H s→wi σ H R →
  wpAny (model X.prog X.w) X.A (eval iter X.env) (fun v s1=>wpAny (model X.prog X.w) X.A (pyIter v) (PIE X pins σ tg R) X.xe s1) X.xe s
theorem YbE {M:Model} {A:Around} {E:Value→Shared→Prop} {s:Shared} {tg:Expr} {it:Addr} {u:Value} {o:Obj} {n:String} {vs:Array Value} {Q:Unit→Shared→Prop} (ho:s.heap.get? it=some o) (hc:o.cls = .type n) (hd:o.data = .fields vs)
  (hn:["enumerate","zip","dict_itemiterator","dict_reverseitemiterator","odict_iterator","itertools.zip_longest","itertools.pairwise"].contains n=false) (hQ:Q () s):wpAny M A (letOwnedTupleGo tg (.ref it) u) Q E s:=by
 unfold letOwnedTupleGo
 cases tg<;>first
  | exact wpAny_pure hQ
  | (cases u<;>first
    | exact wpAny_pure hQ
    | (refine wpAny_bind (wpAny_load ho ?_)
       rw [hc,hd]
       show wpAny M A (if (["enumerate","zip","dict_itemiterator","dict_reverseitemiterator","odict_iterator","itertools.zip_longest","itertools.pairwise"].contains n&&vs[0]?==some (rawInt _))=true then _ else _) Q E s
       rw [if_neg (by intro h;rw [hn,Bool.false_and] at h;cases h)]
       exact wpAny_pure hQ))
def Itl (K:PySem.W.Frag) (a:Addr):It :=
 ⟨fun i H=>∃ xs x,SqL K H a xs∧xs[i]?=some x,fun i H x H'=>H'=H∧∀ xs,SqL K H a xs→xs[i]?=some x,fun i H=>∃ xs,SqL K H a xs∧xs.length≤i⟩
def Itt (K:PySem.W.Frag) (a:Addr):It :=
 ⟨fun i H=>∃ xs x,SqT K H a xs∧xs[i]?=some x,fun i H x H'=>H'=H∧∀ xs,SqT K H a xs→xs[i]?=some x,fun i H=>∃ xs,SqT K H a xs∧xs.length≤i⟩
def Itr (lo:Int) (n:Nat):It:=⟨fun i _=>i<n,fun i H x H'=>H'=H∧x = .int (lo+i),fun i _=>n≤i⟩
theorem Yco {P:Program} {w:World} {K:PySem.W.Frag} {tg:Expr} (a it:Addr):Turn P w K tg (Itl K a) [it] it (fun i h=>h.IsListIter it a i) where
 mem:=by simp
 obj:=fun i h st b hb=>by
  have e:b=it:=by simpa using hb
  subst e
  obtain ⟨o,e,c,d⟩:=st
  exact ⟨o,e,fun v z=>by rw [d] at z;cases z⟩
 keep:=fun i h h' st k=>st.at fun o e=>k it (by simp) o e
 item:=by
  intro X hP hw hK hc i pins s σ H E I hf st hg
  subst hP hw hK
  obtain ⟨xs,x,hq,hx⟩:=hg
  obtain ⟨its,rv,p,hz⟩:=I.list hq
  obtain ⟨u,hu,ru⟩:=rv.get hx
  obtain ⟨f0,f1,f2,f3,f4,f5⟩:=hf it (by simp)
  refine wpAny_pyNext_list_item st p.isList (x:=u) (by simpa using hu) fun h' st' sb=>?_
  have I1:Inv X pins σ H { s with heap:=h' }:=I.turned (t':=s.toks) (fun b o hb e=>(sb.2 b hb).trans e) f0 f1 f3 f4 f5
  obtain ⟨o,e,c,d⟩:=id st'
  exact ⟨u,rfl,YbE (s:={ s with heap:=h' }) e c d (by decide) ⟨x,H,I1,ru,⟨rfl,fun ys hy=>by rw [I.list_inj hy hq];exact hx⟩,st',fun b hb=>(hf b hb).1⟩⟩
 done:=by
  intro X hP hw hK hc i pins s σ H E I hf st hg
  subst hP hw hK
  obtain ⟨xs,hq,hx⟩:=hg
  obtain ⟨its,rv,p,hz⟩:=I.list hq
  obtain ⟨f0,f1,f2,f3,f4,f5⟩:=hf it (by simp)
  have hl:=rv.length
  exact wpAny_pyNext_list_end (I.ok.hd hc) st p.isList (by simp;omega) fun h' eb=>⟨rfl,I.turned (t':=s.toks) (fun b o hb e=>eb b o hb e) f0 f1 f3 f4 f5⟩
 self:=fun _ _ _ _ _ st h=>wpAny_pyIter_listiter st h
theorem YbF {P:Program} {w:World} {K:PySem.W.Frag} {tg:Expr} (a it:Addr):Turn P w K tg (Itt K a) [it] it (fun i h=>h.IsTupleIter it a i) where
 mem:=by simp
 obj:=fun i h st b hb=>by
  have e:b=it:=by simpa using hb
  subst e
  obtain ⟨o,e,c,d⟩:=st
  exact ⟨o,e,fun v z=>by rw [d] at z;cases z⟩
 keep:=fun i h h' st k=>st.at fun o e=>k it (by simp) o e
 item:=by
  intro X hP hw hK hc i pins s σ H E I hf st hg
  subst hP hw hK
  obtain ⟨xs,x,hq,hx⟩:=hg
  obtain ⟨its,rv,p,hz⟩:=I.tuple hq
  obtain ⟨u,hu,ru⟩:=rv.get hx
  obtain ⟨f0,f1,f2,f3,f4,f5⟩:=hf it (by simp)
  refine wpAny_pyNext_tuple_item st (show s.heap.IsTuple a its.toArray from p) (x:=u) (by simpa using hu) fun h' st' sb=>?_
  have I1:Inv X pins σ H { s with heap:=h' }:=I.turned (t':=s.toks) (fun b o hb e=>(sb.2 b hb).trans e) f0 f1 f3 f4 f5
  obtain ⟨o,e,c,d⟩:=id st'
  exact ⟨u,rfl,YbE (s:={ s with heap:=h' }) e c d (by decide) ⟨x,H,I1,ru,⟨rfl,fun ys hy=>by rw [I.tuple_inj hy hq];exact hx⟩,st',fun b hb=>(hf b hb).1⟩⟩
 done:=by
  intro X hP hw hK hc i pins s σ H E I hf st hg
  subst hP hw hK
  obtain ⟨xs,hq,hx⟩:=hg
  obtain ⟨its,rv,p,hz⟩:=I.tuple hq
  obtain ⟨f0,f1,f2,f3,f4,f5⟩:=hf it (by simp)
  have hl:=rv.length
  exact wpAny_pyNext_tuple_end (I.ok.hd hc) st (show s.heap.IsTuple a its.toArray from p) (by simp;omega) fun h' eb=>⟨rfl,I.turned (t':=s.toks) (fun b o hb e=>eb b o hb e) f0 f1 f3 f4 f5⟩
 self:=fun _ _ _ _ _ st h=>wpAny_pyIter_tupleiter st h
theorem YbG {P:Program} {w:World} {K:PySem.W.Frag} {tg:Expr} (it:Addr) (lo:Int) (n:Nat):Turn P w K tg (Itr lo n) [it] it (fun i h=>IsRangeIter h it (lo+(i:Nat)*1) ((n:Int) - (i:Nat)) 1) where
 mem:=by simp
 obj:=fun i h st b hb=>by
  have e:b=it:=by simpa using hb
  subst e
  exact ⟨_,st,fun v z=>by
   have z':Data.fields _=Data.cell v:=z
   cases z'⟩
 keep:=fun i h h' st k=>k it (by simp) _ st
 item:=by
  intro X hP hw hK hc i pins s σ H E I hf st hg
  subst hP hw hK
  obtain ⟨f0,f1,f2,f3,f4,f5⟩:=hf it (by simp)
  have W:=Walks.range (prog:=X.prog) (w:=X.w) (I.ok.hd hc) it lo 1 n
  refine W.item i s _ _ hg st fun v h' tk hv st' kk=>?_
  obtain ⟨t,rfl⟩:=hv
  have I1:Inv X pins σ H { s with heap:=h',toks:=tk }:=I.turned (fun b o hb e=>kk b o (by simpa using hb) e) f0 f1 f3 f4 f5
  refine ⟨_,rfl,YbE (s:={ s with heap:=h',toks:=tk }) (n:="range_iterator") st' rfl rfl (by decide) ⟨.int (lo+i),H,I1,⟨t,?_⟩,⟨rfl,rfl⟩,st',fun b hb=>(hf b hb).1⟩⟩
  rw [Int.mul_one]
 done:=by
  intro X hP hw hK hc i pins s σ H E I hf st hg
  subst hP hw hK
  obtain ⟨f0,f1,f2,f3,f4,f5⟩:=hf it (by simp)
  exact wpAny_pyNext_range_end (I.ok.hd hc) st (by have:n≤i:=hg;omega) fun h' eb=>⟨rfl,I.turned (t':=s.toks) (fun b o hb e=>eb b o hb e) f0 f1 f3 f4 f5⟩
 self:=fun _ _ _ _ _ st h=>wpAny_pyIter_rangeiter st h
end L2
namespace L2
open PySem PySem.Spec PyProof.Rows
section
variable {X:Cx} {tg:Expr}
def WU (K:PySem.W.Frag) (tl:TE):TI:=fun σ H R=>tl σ H fun x H1=>∃ a,x = .ref a∧(∃ xs,SqL K H1 a xs)∧R (Itl K a) H1
def QU (K:PySem.W.Frag) (tl:TE):TI:=fun σ H R=>tl σ H fun x H1=>∃ a,x = .ref a∧(∃ xs,SqT K H1 a xs)∧R (Itt K a) H1
theorem XG {l:Expr} {tl:TE} (hl:PE X l tl):PI X tg l (WU X.K tl):=by
 intro pins s σ H R I h
 refine thn (hl pins s σ H _ I h) fun v s1 ⟨x,H1,I1,r1,q1⟩=>?_
 obtain ⟨a,e,⟨xs,hq⟩,q⟩:=q1
 subst e
 cases r1
 obtain ⟨its,rv,p,hz⟩:=I1.list hq
 refine wpAny_pyIter_list p.isList ?_
 refine ⟨s1.heap.objs.size,[s1.heap.objs.size],_,_,H1,rfl,I1.kept (t':=s1.toks) fun b o e=>Heap.get?_push_of_some _ e,Yco a _,⟨_,Heap.get?_push_size _ rfl,rfl,rfl⟩,fun b hb=>?_,q⟩
 have e:b=s1.heap.objs.size:=by simpa using hb
 subst e
 exact I1.fpOk (Nat.le_refl _) (I1.hok.fresh (Nat.le_refl _))
theorem WJ {l:Expr} {tl:TE} (hl:PE X l tl):PI X tg l (QU X.K tl):=by
 intro pins s σ H R I h
 refine thn (hl pins s σ H _ I h) fun v s1 ⟨x,H1,I1,r1,q1⟩=>?_
 obtain ⟨a,e,⟨xs,hq⟩,q⟩:=q1
 subst e
 cases r1
 obtain ⟨its,rv,p,hz⟩:=I1.tuple hq
 refine wpAny_pyIter_tuple (show s1.heap.IsTuple a its.toArray from p) ?_
 refine ⟨s1.heap.objs.size,[s1.heap.objs.size],_,_,H1,rfl,I1.kept (t':=s1.toks) fun b o e=>Heap.get?_push_of_some _ e,YbF a _,⟨_,Heap.get?_push_size _ rfl,rfl,rfl⟩,fun b hb=>?_,q⟩
 have e:b=s1.heap.objs.size:=by simpa using hb
 subst e
 exact I1.fpOk (Nat.le_refl _) (I1.hok.fresh (Nat.le_refl _))
theorem Ydm {pins:List (Addr×Obj)} {σ:St} {H:Hp} {s:Shared} {R:It→Hp→Prop} {E:Value→Shared→Prop} {lo hi:Int} {t u v:Tok} {tk:Nat} (I:Inv X pins σ H s) (h1 : -(2^62)≤lo) (h2:lo<2^62) (h3 : -(2^62)≤hi) (h4:hi<2^62)
  (q:R (Itr lo (hi - lo).toNat) H):wpAny (model X.prog X.w) X.A (pyIter (.ref s.heap.objs.size)) (PIE X pins σ tg R) E { s with heap:=s.heap.push { cls := .type "range",data := .fields #[.int lo t,.int hi u,.int 1 v] },toks:=tk }:=by
 refine wpAny_pyIter_range (IsRange.new ..) (small_one h1 h2 h3 h4) ?_
 have I1:Inv X pins σ H { s with heap:=s.heap.push { cls := .type "range",data := .fields #[.int lo t,.int hi u,.int 1 v] },toks:=tk }:=I.kept fun b o e=>Heap.get?_push_of_some _ e
 refine ⟨(s.heap.push { cls := .type "range",data := .fields #[.int lo t,.int hi u,.int 1 v] }).objs.size,[(s.heap.push { cls := .type "range",data := .fields #[.int lo t,.int hi u,.int 1 v] }).objs.size],_,_,H,rfl,
  I1.kept (t':=tk) fun b o e=>Heap.get?_push_of_some _ e,YbG _ lo (hi - lo).toNat,?_,fun b hb=>?_,q⟩
 ·have e1:lo+((0:Nat):Int)*1=lo:=by simp
  have e2:(((hi - lo).toNat:Nat):Int) - ((0:Nat):Int)=Builtin.Range.rangeSize lo hi 1:=by rw [rangeSize_one];split<;>omega
  show IsRangeIter _ _ (lo+((0:Nat):Int)*1) ((((hi - lo).toNat:Nat):Int) - ((0:Nat):Int)) 1
  rw [e1,e2]
  exact Heap.get?_push_size _ rfl
 ·have e:b=(s.heap.push { cls := .type "range",data := .fields #[.int lo t,.int hi u,.int 1 v] }).objs.size:=by simpa using hb
  subst e
  exact I1.fpOk (Nat.le_refl _) (I1.hok.fresh (Nat.le_refl _))
def UB (ta:TA):TI:=fun σ H R=>ta σ H fun vs H1=>∃ j:Int,vs=[.int j] ∧ -(2^62)≤j∧j<2^62∧R (Itr 0 j.toNat) H1
theorem Ws {a:Expr} {ta:TA} {p pos:Pos} (hg:Gl X "range") (hm:X.mg "range"=none) (ha:PA X [a] ta) (hs:starEach [a] X.env=[(false,eval a X.env)]):PI X tg (.Call (.Name "range" p) [a] [] pos) (UB ta):=by
 intro pins s σ H R I h
 refine Call_ (W8 I hg hm boot_range (PyProof.Rows.callWith_type1 (thn (ha pos pins s σ H _ I h) fun us s1 ⟨vs,H1,I1,r1,q1⟩=>?_) hs rfl))
 obtain ⟨j,e,q1,q2,q⟩:=q1
 subst e
 cases r1 with
 | cons r rr =>
  cases rr
  obtain ⟨t,rfl⟩:=r
  exact call_range_1 (Ydm I1 (by omega) (by omega) q1 q2 (by simpa using q))
def X4 (wi:TI) (g:TG) (tb:TS):TS:=fun D σ H=>wi σ H fun J H1=>∃ W:Nat→Nat→St→Hp→Prop,(∃ m,W 0 m σ H1)∧∀ i m σ H,W i m σ H →
 (J.stop i H∧D.nx σ H)∨(J.go i H∧∃ N:St→Hp→Prop,(∀ σ' H',N σ' H'→∃ m',m'<m∧W (i+1) m' σ' H')∧∀ x H',J.yld i H x H'→g x σ H' fun σ2 H2=>tb { D with nx:=N,ct:=N,bk:=D.nx } σ2 H2)
def W9 (fp:List Addr) (h:Heap):List (Addr×Obj):=fp.filterMap fun b=>(h.get? b).map fun o=>(b,o)
theorem XH {fp:List Addr} {h:Heap} {b:Addr} {o:Obj} (hb:b∈fp) (e:h.get? b=some o):(b,o)∈W9 fp h:=List.mem_filterMap.mpr ⟨b,hb,by rw [e];rfl⟩
theorem Ycp {fp:List Addr} {h:Heap} {p:Addr×Obj} (hp:p∈W9 fp h):p.1∈fp∧h.get? p.1=some p.2:=by
 obtain ⟨b,hb,e⟩:=List.mem_filterMap.mp hp
 cases q:h.get? b with
 | none=>rw [q] at e;cases e
 | some o =>
  rw [q] at e
  have e':(b,o)=p:=Option.some.inj e
  subst e'
  exact ⟨hb,q⟩
theorem Inv.pinned {pins:List (Addr×Obj)} {σ:St} {H:Hp} {s:Shared} {fp:List Addr} (I:Inv X pins σ H s) (hf:∀ b∈fp,X3 X pins H b) (ho:∀ b∈fp,∃ o,s.heap.get? b=some o∧∀ v,o.data ≠ .cell v):Inv X (pins++W9 fp s.heap) σ H s :=
 I.pins_of fun p hp=>(List.mem_append.mp hp).elim (fun z=>I.pin p (List.mem_append_right _ z)) fun z=>by
  obtain ⟨hb,e⟩:=Ycp z
  obtain ⟨f0,f1,f2,_⟩:=hf p.1 hb
  obtain ⟨o,e',d⟩:=ho p.1 hb
  rw [e] at e';cases e'
  exact ⟨e,f0,f1,f2,d⟩
theorem Inv.unpinned {pins pl:List (Addr×Obj)} {σ:St} {H:Hp} {s:Shared} (I:Inv X (pins++pl) σ H s):Inv X pins σ H s:=I.pins_of fun p hp=>I.pin p (List.mem_append_right _ (List.mem_append_left _ hp))
theorem Va {iter:Expr} {body:List Stmt} {wi:TI} {g:TG} {tb:TS} {pos:Pos} (hp:PassesOwn (model X.prog X.w) X.A X.env X.xe) (hc:X.calm=true) (hi:PI X tg iter wi) (hg:PG X tg g) (hb:PSs X body tb)
  (hs:∀ x,foldedSetIterable iter X.env x=pure x):PS X (.For tg iter body [] pos) (X4 wi g tb):=by
 intro pins s σ H D I h
 refine wpAny_For (thn (hi pins s σ H _ I h) fun v s1 h1=>thn h1 fun itv s2 h2=>?_) hs
 obtain ⟨it,fp,tn,J,H2,e,I2,T,st2,f2,W,⟨m0,w0⟩,turn⟩:=h2
 subst e
 -- what stays true of the iterator's objects through the loop
 have stat:∀ {H':Hp},(∀ b∈fp,H' b=none)→∀ b∈fp,X3 X pins H' b:=fun hn b hb=>⟨hn b hb,(f2 b hb).2⟩
 refine codeAny_forLoop_any (fun n s'=>∃ i σ' H',Inv X pins σ' H' s'∧tn i s'.heap∧(∀ b∈fp,H' b=none)∧W i n σ' H') ?_ m0 ⟨0,σ,H2,I2,st2,fun b hb=>(f2 b hb).1,w0⟩
 rintro n s3 ⟨i,σ3,H3,I3,st3,fr3,w3⟩
 rcases turn i n σ3 H3 w3 with ⟨stop,qn⟩ | ⟨go,N,hN,step⟩
 ·refine wpAny_passesOwn hp (thn (T.done X rfl rfl rfl hc i pins s3 σ3 H3 X.xe I3 (stat fr3) st3 stop) fun r s4 ⟨hr,I4⟩=>?_)
  subst hr
  exact wpAny_execs_nil ⟨σ3,H3,I4,qn⟩
 ·refine wpAny_passesOwn hp (thn (T.item X rfl rfl rfl hc i pins s3 σ3 H3 X.xe I3 (stat fr3) st3 go) fun r s4 ⟨u,hr,h4⟩=>?_)
  subst hr
  refine wpAny_passesOwn hp (thn h4 fun _ s5 ⟨x,H5,I5,r5,y5,st5,fr5⟩=>?_)
  have I5':=I5.pinned (stat fr5) (T.obj _ _ st5)
  refine wpAny_passesOwn hp (thn (hg _ s5 σ3 H5 x u _ I5' r5 (step x H5 y5)) fun _ s6 ⟨σ6,H6,I6,q6⟩=>?_)
  refine wpAny_passesOwn hp (thn (hb _ s6 σ6 H6 _ I6 q6) fun f s7 q7=>?_)
  have again:∀ {σ7:St} {H7:Hp},Inv X (pins++W9 fp s5.heap) σ7 H7 s7→N σ7 H7→∃ m,m<n∧∃ i σ' H',Inv X pins σ' H' s7∧tn i s7.heap∧(∀ b∈fp,H' b=none)∧W i m σ' H':=fun {σ7 H7} I7 n7=>by
   obtain ⟨m',hm,w7⟩:=hN σ7 H7 n7
   refine ⟨m',hm,i+1,σ7,H7,I7.unpinned,T.keep _ _ _ st5 fun b hb o e=>(I7.pin (b,o) (List.mem_append_right _ (List.mem_append_right _ (XH hb e)))).1,fun b hb=>?_,w7⟩
   obtain ⟨o,e,d⟩:=T.obj _ _ st5 b hb
   exact (I7.pin (b,o) (List.mem_append_right _ (List.mem_append_right _ (XH hb e)))).2.1
  cases f with
  | next=>obtain ⟨σ7,H7,I7,n7⟩:=q7;exact again I7 n7
  | cont=>obtain ⟨σ7,H7,I7,n7⟩:=q7;exact again I7 n7
  | brk=>obtain ⟨σ7,H7,I7,q7⟩:=q7;exact ⟨σ7,H7,I7.unpinned,q7⟩
  | ret v=>obtain ⟨x7,σ7,H7,I7,r7,q7⟩:=q7;exact ⟨x7,σ7,H7,I7.unpinned,r7,q7⟩
end
theorem QV {K:PySem.W.Frag} {a:Addr} {xs:List V} {g:TG} {tb:TS} {D:Ends} {σ:St} {H:Hp} (Pv:Nat→St→Hp→Prop) (h0:Pv 0 σ H) (hl:∀ i σ H,i≤xs.length→Pv i σ H→SqL K H a xs)
  (hs:∀ i x σ H,xs[i]?=some x→Pv i σ H→g x σ H fun σ2 H2=>tb { D with nx:=Pv (i+1),ct:=Pv (i+1),bk:=D.nx } σ2 H2) (hd:∀ σ H,Pv xs.length σ H→D.nx σ H) :
  ∃ W:Nat→Nat→St→Hp→Prop,(∃ m,W 0 m σ H)∧∀ i m σ H,W i m σ H →
   ((Itl K a).stop i H∧D.nx σ H)∨((Itl K a).go i H∧∃ N:St→Hp→Prop,(∀ σ' H',N σ' H'→∃ m',m'<m∧W (i+1) m' σ' H')∧∀ x H',(Itl K a).yld i H x H'→g x σ H' fun σ2 H2=>tb { D with nx:=N,ct:=N,bk:=D.nx } σ2 H2):=by
 refine ⟨fun i m σ H=>m=xs.length - i∧i≤xs.length∧Pv i σ H,⟨xs.length,by simp,Nat.zero_le _,h0⟩,?_⟩
 rintro i m σ H ⟨rfl,hi,p⟩
 have q:=hl i σ H hi p
 by_cases hlt:i<xs.length
 ·refine .inr ⟨⟨xs,xs[i],q,by simp [hlt]⟩,Pv (i+1),fun σ' H' p'=>⟨xs.length - (i+1),by omega,rfl,hlt,p'⟩,fun x H' y=>?_⟩
  obtain ⟨e,y⟩:=y
  subst e
  exact hs i x σ _ (y xs q) p
 ·have e:i=xs.length:=by omega
  subst e
  exact .inl ⟨⟨xs,q,Nat.le_refl _⟩,hd σ H p⟩
theorem Ya4 {K:PySem.W.Frag} {a:Addr} {xs:List V} {g:TG} {tb:TS} {D:Ends} {σ:St} {H:Hp} (Pv:Nat→St→Hp→Prop) (h0:Pv 0 σ H) (hl:∀ i σ H,i≤xs.length→Pv i σ H→SqT K H a xs)
  (hs:∀ i x σ H,xs[i]?=some x→Pv i σ H→g x σ H fun σ2 H2=>tb { D with nx:=Pv (i+1),ct:=Pv (i+1),bk:=D.nx } σ2 H2) (hd:∀ σ H,Pv xs.length σ H→D.nx σ H) :
  ∃ W:Nat→Nat→St→Hp→Prop,(∃ m,W 0 m σ H)∧∀ i m σ H,W i m σ H →
   ((Itt K a).stop i H∧D.nx σ H)∨((Itt K a).go i H∧∃ N:St→Hp→Prop,(∀ σ' H',N σ' H'→∃ m',m'<m∧W (i+1) m' σ' H')∧∀ x H',(Itt K a).yld i H x H'→g x σ H' fun σ2 H2=>tb { D with nx:=N,ct:=N,bk:=D.nx } σ2 H2):=by
 refine ⟨fun i m σ H=>m=xs.length - i∧i≤xs.length∧Pv i σ H,⟨xs.length,by simp,Nat.zero_le _,h0⟩,?_⟩
 rintro i m σ H ⟨rfl,hi,p⟩
 have q:=hl i σ H hi p
 by_cases hlt:i<xs.length
 ·refine .inr ⟨⟨xs,xs[i],q,by simp [hlt]⟩,Pv (i+1),fun σ' H' p'=>⟨xs.length - (i+1),by omega,rfl,hlt,p'⟩,fun x H' y=>?_⟩
  obtain ⟨e,y⟩:=y
  subst e
  exact hs i x σ _ (y xs q) p
 ·have e:i=xs.length:=by omega
  subst e
  exact .inl ⟨⟨xs,q,Nat.le_refl _⟩,hd σ H p⟩
theorem Ycq {lo:Int} {n:Nat} {g:TG} {tb:TS} {D:Ends} {σ:St} {H:Hp} (Pv:Nat→St→Hp→Prop) (h0:Pv 0 σ H)
  (hs:∀ i σ H,i<n→Pv i σ H→g (.int (lo+i)) σ H fun σ2 H2=>tb { D with nx:=Pv (i+1),ct:=Pv (i+1),bk:=D.nx } σ2 H2) (hd:∀ σ H,Pv n σ H→D.nx σ H) :
  ∃ W:Nat→Nat→St→Hp→Prop,(∃ m,W 0 m σ H)∧∀ i m σ H,W i m σ H →
   ((Itr lo n).stop i H∧D.nx σ H)∨((Itr lo n).go i H∧∃ N:St→Hp→Prop,(∀ σ' H',N σ' H'→∃ m',m'<m∧W (i+1) m' σ' H')∧∀ x H',(Itr lo n).yld i H x H'→g x σ H' fun σ2 H2=>tb { D with nx:=N,ct:=N,bk:=D.nx } σ2 H2):=by
 refine ⟨fun i m σ H=>m=n - i∧i≤n∧Pv i σ H,⟨n,by simp,Nat.zero_le _,h0⟩,?_⟩
 rintro i m σ H ⟨rfl,hi,p⟩
 by_cases hlt:i<n
 ·refine .inr ⟨hlt,Pv (i+1),fun σ' H' p'=>⟨n - (i+1),by omega,rfl,hlt,p'⟩,fun x H' y=>?_⟩
  obtain ⟨e,y⟩:=y
  subst e y
  exact hs i σ _ hlt p
 ·have e:i=n:=by omega
  subst e
  exact .inl ⟨Nat.le_refl _,hd σ H p⟩
end L2
namespace L2
open PySem PySem.Spec PyProof.Rows
abbrev R2:=V→V→Hp→VK→Prop
def OpR (X:Cx) (f:Value→Value→Sem Value) (r:R2):Prop :=
 ∀ (pins:List (Addr×Obj)) (s:Shared) (σ:St) (H:Hp) (x y:V) (v u:Value) (Q:VK),Inv X pins σ H s→YC x v→YC y u→r x y H Q →
  wpAny (model X.prog X.w) X.A (f v u) (EP X pins σ Q) X.xe s
def UnR (X:Cx) (f:Value→Sem Value) (r:V→Hp→VK→Prop):Prop :=
 ∀ (pins:List (Addr×Obj)) (s:Shared) (σ:St) (H:Hp) (x:V) (v:Value) (Q:VK),Inv X pins σ H s→YC x v→r x H Q →
  wpAny (model X.prog X.w) X.A (f v) (EP X pins σ Q) X.xe s
def Xk (X:Cx) (f:Value) (r:List V→Hp→VK→Prop):Prop :=
 ∀ (pins:List (Addr×Obj)) (s:Shared) (σ:St) (H:Hp) (xs:List V) (us:List Value) (Q:VK),Inv X pins σ H s→Yu xs us→r xs H Q →
  wpAny (model X.prog X.w) X.A (call f us) (EP X pins σ Q) X.xe s
def tOp (r:R2) (ta tb:TE):TE:=fun σ H Q=>ta σ H fun x H1=>tb σ H1 fun y H2=>r x y H2 Q
def tUn (r:V→Hp→VK→Prop) (ta:TE):TE:=fun σ H Q=>ta σ H fun x H1=>r x H1 Q
def rI (C:Int→Int→Prop) (g:Int→Int→V):R2:=fun x y H Q=>∃ i j,x = .int i∧y = .int j∧C i j∧Q (g i j) H
def rI0 (g:Int→Int→V):R2:=fun x y H Q=>∃ i j,x = .int i∧y = .int j∧Q (g i j) H
def rU (g:Int→V):V→Hp→VK→Prop:=fun x H Q=>∃ i,x = .int i∧Q (g i) H
section
variable {X:Cx} {a b c:Expr} {ta tb tc:TE} {pos:Pos}
theorem binT (ha:PE X a ta) (hb:PE X b tb) {pins:List (Addr×Obj)} {s:Shared} {σ:St} {H:Hp} {R:V→V→Hp→Prop} (I:Inv X pins σ H s)
  (h:ta σ H fun x H1=>tb σ H1 fun y H2=>R x y H2) {Q:Value→Shared→Prop} {f:Value→Value→Sem Value}
  (hf:∀ v u s2 x y H2,Inv X pins σ H2 s2→YC x v→YC y u→R x y H2→wpAny (model X.prog X.w) X.A (f v u) Q X.xe s2) :
  wpAny (model X.prog X.w) X.A (eval a X.env) (fun v s₁=>wpAny (model X.prog X.w) X.A (eval b X.env) (fun u s₂=>wpAny (model X.prog X.w) X.A (f v u) Q X.xe s₂) X.xe s₁) X.xe s:=by
 refine thn (ha pins s σ H _ I h) fun v s1 ⟨x,H1,I1,r1,q1⟩=>?_
 refine thn (hb pins s1 σ H1 _ I1 q1) fun u s2 ⟨y,H2,I2,r2,q2⟩=>?_
 exact hf v u s2 x y H2 I2 r1 r2 q2
theorem Ys {op:Operator} {r:R2} (ho:OpR X (binaryOp op) r) (ha:PE X a ta) (hb:PE X b tb):PE X (.BinOp a op b pos) (tOp r ta tb):=by
 intro pins s σ H Q I h
 exact wpAny_BinOp (binT ha hb I h fun v u s2 x y H2 I2 rx ry q=>ho pins s2 σ H2 x y v u Q I2 rx ry q)
theorem Yd5 {op:UnaryOp} {r:V→Hp→VK→Prop} (ho:UnR X (unaryOp op) r) (ha:PE X a ta):PE X (.UnaryOp op a pos) (tUn r ta):=by
 intro pins s σ H Q I h
 exact UnaryOp_ (thn (ha pins s σ H _ I h) fun v s1 ⟨x,H1,I1,r1,q1⟩=>ho pins s1 σ H1 x v Q I1 r1 q1)
theorem opI {f:Value→Value→Sem Value} {C:Int→Int→Prop} {g:Int→Int→Int}
  (rule:∀ (i j:Int) (t u:Tok) (s:Shared) (Q:Value→Shared→Prop) (E:Value→Shared→Prop),C i j→Q (.int (g i j) s.toks) { s with toks:=s.toks+1 }→wpAny (model X.prog X.w) X.A (f (.int i t) (.int j u)) Q E s) :
  OpR X f (rI C fun i j => .int (g i j)):=by
 intro pins s σ H x y v u Q I rx ry h
 obtain ⟨i,j,rfl,rfl,hc,q⟩:=h
 obtain ⟨t,rfl⟩:=rx
 obtain ⟨t',rfl⟩:=ry
 exact rule i j t t' s _ _ hc ⟨.int (g i j),H,I.tok _,⟨_,rfl⟩,q⟩
theorem opI0 {f:Value→Value→Sem Value} {g:Int→Int→Int}
  (rule:∀ (i j:Int) (t u:Tok) (s:Shared) (Q:Value→Shared→Prop) (E:Value→Shared→Prop),Q (.int (g i j) s.toks) { s with toks:=s.toks+1 }→wpAny (model X.prog X.w) X.A (f (.int i t) (.int j u)) Q E s) :
  OpR X f (rI0 fun i j => .int (g i j)):=by
 intro pins s σ H x y v u Q I rx ry h
 obtain ⟨i,j,rfl,rfl,q⟩:=h
 obtain ⟨t,rfl⟩:=rx
 obtain ⟨t',rfl⟩:=ry
 exact rule i j t t' s _ _ ⟨.int (g i j),H,I.tok _,⟨_,rfl⟩,q⟩
theorem YbH {f:Value→Value→Sem Value} {g:Int→Int→Bool}
  (rule:∀ (i j:Int) (t u:Tok) (s:Shared) (Q:Value→Shared→Prop) (E:Value→Shared→Prop),Q (.bool (g i j)) s→wpAny (model X.prog X.w) X.A (f (.int i t) (.int j u)) Q E s) :
  OpR X f (rI0 fun i j => .bl (g i j)):=by
 intro pins s σ H x y v u Q I rx ry h
 obtain ⟨i,j,rfl,rfl,q⟩:=h
 obtain ⟨t,rfl⟩:=rx
 obtain ⟨t',rfl⟩:=ry
 exact rule i j t t' s _ _ ⟨.bl (g i j),H,I,rfl,q⟩
def CPow (i j:Int):Prop:=0≤j∧j≤1000000∧i.natAbs<2^64
def CMul (i j:Int):Prop:=(-(2^64)<i∧i<2^64)∨(-(2^64)<j∧j<2^64)
theorem CMul.ok {i j:Int} (h:CMul i j):IntMulOk i j:=by
 rcases h with ⟨h1,h2⟩ | ⟨h1,h2⟩
 ·exact .of_left (intBits_le_64 h1 h2)
 ·exact .of_right (intBits_le_64 h1 h2)
theorem VJ:OpR X (binaryOp .Add) (rI0 fun i j => .int (i+j)):=opI0 fun _ _ _ _ _ _ _ q=>add_int q
theorem YX:OpR X (binaryOp .Sub) (rI0 fun i j => .int (i - j)):=opI0 fun _ _ _ _ _ _ _ q=>sub_int q
theorem Xd:OpR X (binaryOp .Mod) (rI (fun _ j=>0<j) fun i j => .int (i%j)):=opI fun i j _ _ _ _ _ hc q=>by
 have h1:(0:Int)<j:=hc
 exact mod_int' (by omega) (by rw [Int.fmod_eq_emod_of_nonneg i (by omega)];exact q)
theorem VM:OpR X (binaryOp .Pow) (rI CPow fun i j => .int (i^j.toNat)):=opI fun _ _ _ _ _ _ _ hc q=>pow_int_small hc.1 hc.2.1 hc.2.2 q
theorem unI {f:Value→Sem Value} {g:Int→Int}
  (rule:∀ (i:Int) (t:Tok) (s:Shared) (Q:Value→Shared→Prop) (E:Value→Shared→Prop),Q (.int (g i) s.toks) { s with toks:=s.toks+1 }→wpAny (model X.prog X.w) X.A (f (.int i t)) Q E s) :
  UnR X f (rU fun i => .int (g i)):=by
 intro pins s σ H x v Q I rx h
 obtain ⟨i,rfl,q⟩:=h
 obtain ⟨t,rfl⟩:=rx
 exact rule i t s _ _ ⟨.int (g i),H,I.tok _,⟨_,rfl⟩,q⟩
theorem Ycr:UnR X (unaryOp .USub) (rU fun i => .int (-i)):=unI fun _ _ _ _ _ q=>neg_int q
end
def Um:V→V→Bool
 | .non,.non=>true | .non,.int _=>true | .int _,.non=>true | .non,.bl _=>true | .bl _,.non=>true | .non,.str _=>true | .str _,.non=>true
 | .int _,.int _=>true | .bl _,.bl _=>true | .str _,.str _=>true | .byt _,.byt _=>true
 | .int _,.str _=>true | .str _,.int _=>true | .bl _,.str _=>true | .str _,.bl _=>true
 | _,_=>false
def rEq:R2:=fun x y H Q=>Um x y=true∧Q (.bl (decide (x=y))) H
def rNe:R2:=fun x y H Q=>Um x y=true∧Q (.bl (!decide (x=y))) H
theorem Ya5 {i j:Int}:decide (V.int i=V.int j)=(i==j):=by
 rw [Bool.eq_iff_iff]
 simp
theorem Ycs {i j:Bool}:decide (V.bl i=V.bl j)=(i==j):=by
 rw [Bool.eq_iff_iff]
 simp
theorem Ya6 {i j:Str}:decide (V.str i=V.str j)=(i==j):=by
 rw [Bool.eq_iff_iff]
 simp
theorem Ya7 {i j:Array UInt8}:decide (V.byt i=V.byt j)=(i.toList==j.toList):=by
 rw [Bool.eq_iff_iff]
 cases i
 cases j
 simp
section
variable {X:Cx} {a b c:Expr} {ta tb tc:TE} {pos:Pos}
theorem YQ {pins:List (Addr×Obj)} {σ:St} {H:Hp} {s:Shared} {Q:VK} {k k':Bool} (I:Inv X pins σ H s) (q:Q (.bl k) H) (e:k=k'):EP X pins σ Q (.bool k') s:=by
 subst e
 exact ⟨.bl k,H,I,rfl,q⟩
theorem Yq:OpR X (compareOp .Eq) rEq:=by
 intro pins s σ H x y v u Q I rx ry h
 obtain ⟨hs,q⟩:=h
 cases x with
 | non =>
  cases rx
  cases y with
  | non=>cases ry;exact PySem.EqNone.eq_none_none (YQ I q (by simp))
  | bl j=>cases ry;exact PySem.EqNone.eq_none_bool (YQ I q (by simp))
  | int j=>obtain ⟨t',rfl⟩:=ry;exact PySem.EqNone.eq_none_int (YQ I q (by simp))
  | str j=>obtain ⟨t',rfl⟩:=ry;exact PySem.EqNone.eq_none_str (YQ I q (by simp))
  | _=>exact absurd (show false=true from hs) Bool.false_ne_true
 | bl i =>
  cases rx
  cases y with
  | non=>cases ry;exact PySem.EqNone.eq_bool_none (YQ I q (by simp))
  | bl j=>cases ry;exact eq_bool (YQ I q Ycs)
  | str j=>obtain ⟨t',rfl⟩:=ry;exact PySem.EqMixed.eq_bool_str (YQ I q (by simp))
  | _=>exact absurd (show false=true from hs) Bool.false_ne_true
 | int i =>
  obtain ⟨t,rfl⟩:=rx
  cases y with
  | non=>cases ry;exact PySem.EqNone.eq_int_none (YQ I q (by simp))
  | int j=>obtain ⟨t',rfl⟩:=ry;exact eq_int (YQ I q Ya5)
  | str j=>obtain ⟨t',rfl⟩:=ry;exact PySem.EqMixed.eq_int_str (YQ I q (by simp))
  | _=>exact absurd (show false=true from hs) Bool.false_ne_true
 | str i =>
  obtain ⟨t,rfl⟩:=rx
  cases y with
  | non=>cases ry;exact PySem.EqNone.eq_str_none (YQ I q (by simp))
  | bl j=>cases ry;exact PySem.EqMixed.eq_str_bool (YQ I q (by simp))
  | int j=>obtain ⟨t',rfl⟩:=ry;exact PySem.EqMixed.eq_str_int (YQ I q (by simp))
  | str j=>obtain ⟨t',rfl⟩:=ry;exact eq_str (YQ I q Ya6)
  | _=>exact absurd (show false=true from hs) Bool.false_ne_true
 | byt i =>
  obtain ⟨t,rfl⟩:=rx
  cases y with
  | byt j=>obtain ⟨t',rfl⟩:=ry;exact PySem.W.eq_bytes (YQ I q Ya7)
  | _=>exact absurd (show false=true from hs) Bool.false_ne_true
 | _=>cases y<;>exact absurd (show false=true from hs) Bool.false_ne_true
theorem V5:OpR X (compareOp .NotEq) rNe:=by
 intro pins s σ H x y v u Q I rx ry h
 obtain ⟨hs,q⟩:=h
 cases x with
 | non =>
  cases rx
  cases y with
  | non=>cases ry;exact PySem.EqNone.ne_none_none (YQ I q (by simp))
  | bl j=>cases ry;exact PySem.EqNone.ne_none_bool (YQ I q (by simp))
  | int j=>obtain ⟨t',rfl⟩:=ry;exact PySem.EqNone.ne_none_int (YQ I q (by simp))
  | str j=>obtain ⟨t',rfl⟩:=ry;exact PySem.EqNone.ne_none_str (YQ I q (by simp))
  | _=>exact absurd (show false=true from hs) Bool.false_ne_true
 | bl i =>
  cases rx
  cases y with
  | non=>cases ry;exact PySem.EqNone.ne_bool_none (YQ I q (by simp))
  | bl j=>cases ry;exact ne_bool (YQ I q (congrArg not Ycs))
  | str j=>obtain ⟨t',rfl⟩:=ry;exact PySem.EqMixed.ne_bool_str (YQ I q (by simp))
  | _=>exact absurd (show false=true from hs) Bool.false_ne_true
 | int i =>
  obtain ⟨t,rfl⟩:=rx
  cases y with
  | non=>cases ry;exact PySem.EqNone.ne_int_none (YQ I q (by simp))
  | int j=>obtain ⟨t',rfl⟩:=ry;exact ne_int (YQ I q (congrArg not Ya5))
  | str j=>obtain ⟨t',rfl⟩:=ry;exact PySem.EqMixed.ne_int_str (YQ I q (by simp))
  | _=>exact absurd (show false=true from hs) Bool.false_ne_true
 | str i =>
  obtain ⟨t,rfl⟩:=rx
  cases y with
  | non=>cases ry;exact PySem.EqNone.ne_str_none (YQ I q (by simp))
  | bl j=>cases ry;exact PySem.EqMixed.ne_str_bool (YQ I q (by simp))
  | int j=>obtain ⟨t',rfl⟩:=ry;exact PySem.EqMixed.ne_str_int (YQ I q (by simp))
  | str j=>obtain ⟨t',rfl⟩:=ry;exact ne_str (YQ I q (congrArg not Ya6))
  | _=>exact absurd (show false=true from hs) Bool.false_ne_true
 | byt i =>
  obtain ⟨t,rfl⟩:=rx
  cases y with
  | byt j=>obtain ⟨t',rfl⟩:=ry;exact PySem.W.ne_bytes (YQ I q (congrArg not Ya7))
  | _=>exact absurd (show false=true from hs) Bool.false_ne_true
 | _=>cases y<;>exact absurd (show false=true from hs) Bool.false_ne_true
theorem QE:OpR X (compareOp .Lt) (rI0 fun i j => .bl (decide (i<j))):=YbH fun _ _ _ _ _ _ _ q=>lt_int q
theorem op_le:OpR X (compareOp .LtE) (rI0 fun i j => .bl (decide (i≤j))):=YbH fun _ _ _ _ _ _ _ q=>le_int q
theorem op_gt:OpR X (compareOp .Gt) (rI0 fun i j => .bl (decide (j<i))):=YbH fun _ _ _ _ _ _ _ q=>gt_int q
theorem op_ge:OpR X (compareOp .GtE) (rI0 fun i j => .bl (decide (j≤i))):=YbH fun _ _ _ _ _ _ _ q=>ge_int q
theorem QW:OpR X (compareOp .Is) (fun x y H Q=>y = .non∧Q (.bl (decide (x = .non))) H):=by
 intro pins s σ H x y v u Q I rx ry h
 obtain ⟨rfl,q⟩:=h
 cases ry
 refine is_none_gen (YQ I q ?_)
 cases x<;>first
  | (cases rx;rfl)
  | (obtain ⟨t,rfl⟩:=rx;rfl)
theorem Yl (b:Expr) {op:CmpOp} (h:op ≠ .In:=by decide) (h2:op ≠ .NotIn:=by decide):behindInMarks op b=false:=by
 have e1:(op==CmpOp.In)=false:=by cases op<;>first | rfl | exact absurd rfl h
 have e2:(op==CmpOp.NotIn)=false:=by cases op<;>first | rfl | exact absurd rfl h2
 cases b<;>simp [behindInMarks,e1,e2]
theorem Xs {op:CmpOp} {r:R2} (ho:OpR X (compareOp op) r) (ha:PE X a ta) (hb:PE X b tb) (hm:behindInMarks op b=false):PE X (.Compare a [op] [b] pos) (tOp r ta tb):=by
 intro pins s σ H Q I h
 exact wpAny_Compare1 (binT ha hb I h fun v u s2 x y H2 I2 rx ry q=>ho pins s2 σ H2 x y v u Q I2 rx ry q) hm
def Yd6 (t:TE):TT:=fun σ H Q=>t σ H fun x H'=>∃ k,x = .bl k∧Q k H'
theorem Yk {op:CmpOp} {r:R2} (ho:OpR X (compareOp op) r) (ha:PE X a ta) (hb:PE X b tb) (hm:behindInMarks op b=false):PT X (.Compare a [op] [b] pos) (Yd6 (tOp r ta tb)):=by
 intro pins s σ H Q I h
 refine wpAny_isTrue_Compare1 (thn (ha pins s σ H _ I h) fun v s1 ⟨x,H1,I1,r1,q1⟩=>thn (hb pins s1 σ H1 _ I1 q1) fun u s2 ⟨y,H2,I2,r2,q2⟩ =>
  thn (ho pins s2 σ H2 x y v u _ I2 r1 r2 q2) fun c s3 ⟨z,H3,I3,r3,k,e,q3⟩=>?_) hm
 subst e
 cases r3
 exact wpAny_truthy_bool ⟨H3,I3,q3⟩
def Yct (r r':R2) (ta tb tc:TE):TE:=fun σ H Q=>ta σ H fun x H1=>tb σ H1 fun y H2=>r x y H2 fun z H3=>∃ k,z = .bl k ∧
 (if k=true then tc σ H3 fun w' H4=>r' y w' H4 Q else Q (.bl false) H3)
theorem Ydn {op op':CmpOp} {r r':R2} (ho:OpR X (compareOp op) r) (ho':OpR X (compareOp op') r') (ha:PE X a ta) (hb:PE X b tb) (hc:PE X c tc)
  (hm:lastMarks [op,op'] [b,c]=false):PE X (.Compare a [op,op'] [b,c] pos) (Yct r r' ta tb tc):=by
 intro pins s σ H Q I h
 refine Compare_chain (thn (ha pins s σ H _ I h) fun v s1 ⟨x,H1,I1,r1,q1⟩=>chain_link (thn (hb pins s1 σ H1 _ I1 q1) fun u s2 ⟨y,H2,I2,r2,q2⟩ =>
  thn (ho pins s2 σ H2 x y v u _ I2 r1 r2 q2) fun d s3 ⟨z,H3,I3,r3,k,e,q3⟩=>?_)) hm
 subst e
 cases r3
 refine wpAny_truthy_bool ?_
 cases k with
 | false=>exact ite_ff ⟨.bl false,H3,I3,rfl,q3⟩
 | true=>exact ite_tt (chain_last (thn (hc pins s3 σ H3 _ I3 q3) fun w' s4 ⟨z',H4,I4,r4,q4⟩=>ho' pins s4 σ H4 y z' u w' Q I4 r2 r4 q4))
theorem VN:(sizeLine:Nat)<2^63:=by rw [sizeLine_eq];decide
theorem UC:OpR X (binaryOp .Add) (fun x y H Q=>∃ i j,x = .str i∧y = .str j∧i.length+j.length≤sizeLine∧Q (.str (i++j)) H):=by
 intro pins s σ H x y v u Q I rx ry h
 obtain ⟨i,j,rfl,rfl,hz,q⟩:=h
 obtain ⟨t,rfl⟩:=rx
 obtain ⟨t',rfl⟩:=ry
 exact add_str (fun t' tk=>⟨.str (i++j),H,I.tok _,⟨_,rfl⟩,q⟩) hz
theorem Wg {x:V} {us:List Value} (r:Yu [x] us):∃ u,us=[u]∧YC x u:=by
 cases r with
 | cons r1 r2=>cases r2;exact ⟨_,rfl,r1⟩
theorem YbI {x y:V} {us:List Value} (r:Yu [x,y] us):∃ u w',us=[u,w']∧YC x u∧YC y w':=by
 cases r with
 | cons r1 r2 =>
  cases r2 with
  | cons r3 r4=>cases r4;exact ⟨_,_,rfl,r1,r3⟩
theorem Ycu:Xk X (.type "int") (fun xs H Q=>(∃ i,xs=[.int i]∧Q (.int i) H)∨∃ k,xs=[.bl k]∧Q (.int (if k then 1 else 0)) H):=by
 intro pins s σ H xs us Q I r h
 rcases h with ⟨i,rfl,q⟩ | ⟨k,rfl,q⟩
 ·obtain ⟨u,rfl,t,rfl⟩:=Wg r
  exact call_int_int ⟨.int i,H,I,⟨_,rfl⟩,q⟩
 ·obtain ⟨u,rfl,r1⟩:=Wg r
  cases r1
  exact call_int_bool ⟨.int (if k then 1 else 0),H,I.tok _,⟨_,rfl⟩,q⟩
end
end L2
namespace L2
open PySem PySem.Spec PyProof.Rows
structure ObjM (h:Heap) (x dx C:Addr) (mA:Str→Option Value):Prop where
 obj:h.get? x=some (PySem.W.instObj C dx)
 ns:h.Ns1 dx mA
 ne:dx≠x
theorem Ycv {h:Heap} {dx:Addr} {mA:Str→Option Value} (n:h.Ns1 dx mA):∃ od,h.get? dx=some od∧∀ name,PySem.W.lookIn name od=some (mA name):=by
 obtain ⟨o,es,ep,ho,hd,hk,_,hm⟩:=n
 refine ⟨o,ho,fun name=>?_⟩
 have e:=hm name
 unfold nsFind findBy at e
 rw [← Array.find?_toList] at e
 unfold PySem.W.lookIn
 rw [hd]
 dsimp only
 split
 ·rename_i y q
  rw [q] at e
  exact congrArg some e
 ·rename_i q
  rw [q] at e
  have a:es.toList.any (·.refKey)=false:=by
   rw [List.any_eq_false]
   intro y hy
   obtain ⟨z,t,hkey⟩:=hk y (Array.mem_toList_iff.mp hy)
   simp [DictEntry.refKey,hkey]
  have a':¬ es.toList.any (·.refKey)=true:=by rw [a];exact Bool.false_ne_true
  rw [if_neg a']
  exact congrArg some e
theorem ObjM.look {h:Heap} {x dx C:Addr} {mA:Str→Option Value} (I:ObjM h x dx C mA):∃ od,PySem.W.InstAt h x (PySem.W.instObj C dx) C (some od)∧∀ name,PySem.W.lookIn name od=some (mA name) :=
 let ⟨od,ho,hl⟩:=Ycv I.ns
 ⟨od,⟨I.obj,rfl,rfl,ho⟩,hl⟩
section
variable {prog:Program} {w:World} {A:Around} {E:Value→Shared→Prop} {s:Shared} {K:PySem.W.Frag} {x dx C f:Addr} {mA:Str→Option Value} {name:Str} {v:Value}
end
def Ww (f:Str) (v:V):List (Str×V)→List (Str×V)
 | []=>[(f,v)]
 | (g,x)::r=>if g=f then (g,v)::r else (g,x)::Ww f v r
theorem Uh (f g:Str) (v:V):∀ fs:List (Str×V),(Ww f v fs).lookup g=if g=f then some v else fs.lookup g
 | []=>by
  show List.lookup g [(f,v)]=_
  by_cases h:g=f
  ·have hb:(g==f)=true:=beq_iff_eq.mpr h
   simp only [List.lookup,hb,if_pos h]
  ·have hb:(g==f)=false:=beq_eq_false_iff_ne.mpr h
   simp only [List.lookup,hb,if_neg h]
 | (k,x)::r=>by
  have ih:=Uh f g v r
  rw [show Ww f v ((k,x)::r)=(if k=f then (k,v)::r else (k,x)::Ww f v r) from rfl]
  by_cases hk:k=f
  ·rw [if_pos hk]
   by_cases h:g=k
   ·have hb:(g==k)=true:=beq_iff_eq.mpr h
    simp only [List.lookup,hb,if_pos (h.trans hk)]
   ·have hb:(g==k)=false:=beq_eq_false_iff_ne.mpr h
    simp only [List.lookup,hb,if_neg (fun e:g=f=>h (e.trans hk.symm))]
  ·rw [if_neg hk]
   by_cases h:g=k
   ·have hb:(g==k)=true:=beq_iff_eq.mpr h
    simp only [List.lookup,hb,if_neg (fun e:g=f=>hk (h.symm.trans e))]
   ·have hb:(g==k)=false:=beq_eq_false_iff_ne.mpr h
    simp only [List.lookup,hb]
    exact ih
theorem VO (f:Str) (v:V):∀ fs:List (Str×V),f∈(Ww f v fs).map (·.1)∧∀ g,g∈fs.map (·.1)→g∈(Ww f v fs).map (·.1)
 | []=>⟨by simp [Ww],fun g h=>by simp at h⟩
 | (k,x)::r=>by
  obtain ⟨i1,i2⟩:=VO f v r
  rw [show Ww f v ((k,x)::r)=(if k=f then (k,v)::r else (k,x)::Ww f v r) from rfl]
  by_cases hk:k=f
  ·rw [if_pos hk]
   subst hk
   exact ⟨by simp,fun g h=>by simpa using h⟩
  ·rw [if_neg hk]
   refine ⟨?_,fun g h=>?_⟩
   ·rw [List.map_cons]
    exact List.mem_cons_of_mem _ i1
   ·rw [List.map_cons] at h ⊢
    rcases List.mem_cons.mp h with e | e
    ·exact List.mem_cons.mpr (.inl e)
    ·exact List.mem_cons_of_mem _ (i2 g e)
theorem Vp.some_of {v:V} {o:Option Value} (r:Vp (some v) o):∃ u,o=some u∧YC v u:=by
 cases o with
 | none=>exact (show False from r).elim
 | some u=>exact ⟨u,rfl,r⟩
theorem Ycw {v:V} {u:Value} (r:YC v u):PySem.W.handedIn u=true:=by
 cases v with
 | non=>cases (show u=Value.none from r);rfl
 | bl b=>cases (show u=Value.bool b from r);rfl
 | int i=>obtain ⟨t,e⟩:=(show ∃ t,u=Value.int i t from r);cases e;rfl
 | str x=>obtain ⟨t,e⟩:=(show ∃ t,u=Value.str x t from r);cases e;rfl
 | byt b=>obtain ⟨t,e⟩:=(show ∃ t,u=Value.bytes b t from r);cases e;rfl
 | flt b=>obtain ⟨t,e⟩:=(show ∃ t,u=Value.float b t from r);cases e;rfl
 | ref a=>cases (show u=Value.ref a from r);rfl
 | ty n=>cases (show u=Value.type n from r);rfl
section
variable {P:Program} {w:World} {H H':Hp} {h h':Heap} {a C dx:Addr} {fs fs':List (Str×V)}
theorem Ya8 (hok:HOk P w H h) (e:H a=some (.ins C dx fs)):∃ mA,ObjM h a dx C mA∧(∀ f,Vp (fs.lookup f) (mA f))∧PySem.Within mA (fs.map (·.1))∧fs.length≤1000∧H dx=some (.own a):=by
 obtain ⟨d,z,ne,ob,mA,n,r,q⟩:=(show YM P w H h a (.ins C dx fs) from hok a _ e)
 exact ⟨mA,⟨ob,n,ne⟩,r,q,z,d⟩
end
structure Cls (K:PySem.W.Frag) (C:Addr):Prop where
 pg:PySem.W.plainGet K C Str.empty=true
 hd:PySem.W.hasDictIn K C=true
 po:PySem.W.plainOver K C=true
 sa:PySem.W.findIn K (.ref C) "__setattr__"=some (some (.builtin "object.__setattr__"))
theorem Cls.get {K:PySem.W.Frag} {C:Addr} (c:Cls K C) (f:Str):PySem.W.plainGet K C f=true:=c.pg
def Ycx (K:PySem.W.Frag) (C:Addr) (f:Str):Prop:=PySem.W.findIn K (.ref C) f=some none
structure Meth (K:PySem.W.Frag) (C:Addr) (m:Str) (f:Addr):Prop where
 at_:PySem.W.findIn K (.ref C) m=some (some (.ref f))
 fn:PySem.W.isFn K (.ref f)=true
 kp:PySem.W.keepIn K (.ref f)=true
section
variable {X:Cx} {pins:List (Addr×Obj)} {σ:St} {H:Hp} {s:Shared} {a C dx:Addr} {fs:List (Str×V)} {f:Str} {v:V} {A:Around} {E:Value→Shared→Prop}
theorem Yeh {prog:Program} {w:World} {env:Env} {e:Expr} {f:Str} {pos:Pos} {s:Shared} {Q:Value→Shared→Prop} (hb:attributeBase e f env (eval e env)=eval e env)
  (h:wpAny (model prog w) A (eval e env) (fun o s₁=>wpAny (model prog w) A (getAttr o f true) Q E s₁) E s):wpAny (model prog w) A (eval (.Attribute e f pos) env) Q E s :=
 Attribute_any_ h (by rw [arm_eval_Attribute,hb])
end
def tFld (K:PySem.W.Frag) (ta:TE) (f:Str):TE:=fun σ H Q=>ta σ H fun x H1=>∃ a C dx fs v,x = .ref a∧H1 a=some (.ins C dx fs)∧Cls K C∧Ycx K C f∧fs.lookup f=some v∧Q v H1
def sFld (K:PySem.W.Frag) (ta tv:TE) (f:Str):TS:=fun D σ H=>tv σ H fun y H1=>ta σ H1 fun x H2=>∃ a C dx fs,x = .ref a∧H2 a=some (.ins C dx fs)∧Cls K C∧Ycx K C f∧fs.length<1000 ∧
 D.nx σ (upd H2 a (.ins C dx (Ww f y fs)))
section
variable {X:Cx} {o e value:Expr} {f:Str} {pos pos' tpos:Pos} {ta tv:TE}
end
section
variable {X:Cx} {pins:List (Addr×Obj)} {σ:St} {H:Hp} {s:Shared} {A:Around} {E:Value→Shared→Prop} {Q:Value→Shared→Prop} {c:Value} {b:Bool}
inductive TyOf (K:PySem.W.Frag) (H:Hp):V→Value→Prop where
 | non:TyOf K H .non (.type "NoneType")
 | bl (x:Bool):TyOf K H (.bl x) (.type "bool")
 | int (i:Int):TyOf K H (.int i) (.type "int")
 | str (x:Str):TyOf K H (.str x) (.type "str")
 | flt (x:UInt64):TyOf K H (.flt x) (.type "float")
 | lst {a:Addr} {xs:List V} (e:H a=some (.lst xs)):TyOf K H (.ref a) (.type "list")
 | frz {a:Addr} {o:Obj} {xs:List V} (e:H a=some (.frz o (.lst xs))):TyOf K H (.ref a) (.type "list")
 | tup {a:Addr} {xs:List V} (e:H a=some (.tup xs)):TyOf K H (.ref a) (.type "tuple")
 | dK {a:Addr} {kvs:List (Key×V)} (e:H a=some (.dK kvs)):TyOf K H (.ref a) (.type "dict")
 | dT {a:Addr} {kvs:List (List Key×V)} (e:H a=some (.dT kvs)):TyOf K H (.ref a) (.type "dict")
 | ins {a C dx:Addr} {fs:List (Str×V)} (e:H a=some (.ins C dx fs)) (cl:Cls K C) (ha:PySem.W.findIn K (.ref C) "__class__"=some (some (.builtin "object.__class__")))
   (hn:PySem.W.specialIn K (.builtin "object.__class__") "__get__"=some (some (.builtin "getset_descriptor.__get__"))) (htk:PySem.W.takesIn K (.builtin "object.__class__")=some true)
   (hm:PySem.W.mroIn K C (.type "object")=some true):TyOf K H (.ref a) (.ref C)
theorem Ycy {x:V} {u t:Value} (I:Inv X pins σ H s) (rx:YC x u) (ty:TyOf X.K H x t) (e:PySem.W.kitOne X.K t c=some b) (h:∀ tk,Q (.bool b) { s with toks:=tk }) :
  wpAny (model X.prog X.w) A (call (.builtin "isinstance") [u,c]) Q E s:=by
 cases ty with
 | non=>cases (show u=Value.none from rx);exact PySem.W.kia_one PySem.W.kitx_none I.kIn True.intro e (fun z=>nomatch z) h
 | bl y=>cases (show u=Value.bool y from rx);exact PySem.W.kia_one PySem.W.kitx_bool I.kIn True.intro e (fun z=>nomatch z) h
 | int i=>obtain ⟨t,q⟩:=(show ∃ t,u=Value.int i t from rx);cases q;exact PySem.W.kia_one PySem.W.kitx_int I.kIn True.intro e (fun z=>nomatch z) h
 | str y=>obtain ⟨t,q⟩:=(show ∃ t,u=Value.str y t from rx);cases q;exact PySem.W.kia_one PySem.W.kitx_str I.kIn True.intro e (fun z=>nomatch z) h
 | flt y=>obtain ⟨t,q⟩:=(show ∃ t,u=Value.float y t from rx);cases q;exact PySem.W.kia_one PySem.W.kitx_float I.kIn True.intro e (fun z=>nomatch z) h
 | @lst a xs ea =>
  cases (show u=Value.ref a from rx)
  obtain ⟨_,_,n,_,h1⟩:=(show YM X.prog X.w H s.heap a (.lst xs) from I.hok a _ ea)
  exact PySem.W.kia_one PySem.W.kitx_list I.kIn ⟨_,h1,rfl⟩ e (fun z=>nomatch z) h
 | @frz a ob xs ea =>
  cases (show u=Value.ref a from rx)
  obtain ⟨_,_,_,n,_,h1⟩:=(show YM X.prog X.w H s.heap a (.frz ob (.lst xs)) from I.hok a _ ea)
  exact PySem.W.kia_one PySem.W.kitx_list I.kIn ⟨_,h1,rfl⟩ e (fun z=>nomatch z) h
 | @tup a xs ea =>
  cases (show u=Value.ref a from rx)
  obtain ⟨_,_,_,p⟩:=(show YM X.prog X.w H s.heap a (.tup xs) from I.hok a _ ea)
  obtain ⟨o,h1,h2,_⟩:=p
  exact PySem.W.kia_one PySem.W.kitx_tuple I.kIn ⟨o,h1,h2⟩ e (fun z=>nomatch z) h
 | @dK a kvs ea =>
  cases (show u=Value.ref a from rx)
  obtain ⟨_,_,vs,_,p⟩:=(show YM X.prog X.w H s.heap a (.dK kvs) from I.hok a _ ea)
  obtain ⟨o,es,ep,h1,h2,_⟩:=p
  exact PySem.W.kia_one PySem.W.kitx_dict I.kIn ⟨o,h1,h2.1⟩ e (fun z=>nomatch z) h
 | @dT a kvs ea =>
  cases (show u=Value.ref a from rx)
  obtain ⟨_,_,xs,_,o,es,ep,h1,h2,_⟩:=(show YM X.prog X.w H s.heap a (.dT kvs) from I.hok a _ ea)
  exact PySem.W.kia_one PySem.W.kitx_dict I.kIn ⟨o,h1,h2.1⟩ e (fun z=>nomatch z) h
 | @ins a C dx fs ea cl ha hn htk hm =>
  cases (show u=Value.ref a from rx)
  obtain ⟨mA,O,_⟩:=Ya8 I.hok ea
  obtain ⟨od,J,_⟩:=O.look
  exact PySem.W.kia_one (PySem.W.kitx_own (cl.get _) cl.hd ha hn htk hm) I.kIn J e (fun z=>nomatch z) h
end
end L2
namespace L2
open PySem PySem.Spec PyProof.Rows
structure Room (k:Nat) (A:Around):Prop where
 hd:A.handled=none
 dp:A.depth+3*k+5<recursionLimit
 un:A.units+16*k+200<cLine
 gd:A.guards=some []
theorem Room.mono {j k:Nat} {A:Around} (r:Room k A) (h:j≤k):Room j A:=⟨r.hd,by have:=r.dp;omega,by have:=r.un;omega,r.gd⟩
theorem Room.deeper {k:Nat} {A:Around} (r:Room (k+1) A) (env:Env):Room k (A.deeper env) :=
 ⟨r.hd,by have:=r.dp;show A.depth+1+3*k+5<_;omega,by have:=r.un;show A.units+3+16*k+200<_;omega,r.gd⟩
theorem Room.in1 {k:Nat} {A:Around} (r:Room (k+1) A):Room k A.in1 :=
 ⟨r.hd,by have:=r.dp;show A.depth+3*k+5<_;omega,by have:=r.un;show A.units+1+16*k+200<_;omega,r.gd⟩
theorem YbJ {A:Around} {C:Addr} {us:List Value} {kw:List (Str×Value)}:(A.under (.builtin "type.__call__" ⟨.ref C::us,kw⟩)).depth=A.depth+1:=by
 first | rfl | simp [Around.under,Code.weight,Code.isCreation,Code.isGuard,Code.isCaller,Code.frames,Code.isFrame,guardIds]
theorem YbK {A:Around} {C:Addr} {us:List Value} {kw:List (Str×Value)}:(A.under (.builtin "type.__call__" ⟨.ref C::us,kw⟩)).units=A.units+1:=by
 first | rfl | simp [Around.under,Code.cUnits,Code.frames,Code.isFrame]
theorem Room.make {k:Nat} {A:Around} (r:Room (k+1) A) (C:Addr) (us:List Value) (kw:List (Str×Value)):Room k (A.under (.builtin "type.__call__" ⟨.ref C::us,kw⟩)) :=
 ⟨r.hd,by have:=r.dp;rw [YbJ];omega,by have:=r.un;rw [YbK];omega,by first | exact r.gd | simpa [Around.under,Code.isGuard,Code.isFrame,guardIds] using r.gd⟩
theorem Room.depth {k:Nat} {A:Around} (r:Room k A):A.depth<recursionLimit:=by have:=r.dp;omega
theorem Room.units {k:Nat} {A:Around} (r:Room k A):A.units+64<cLine:=by have:=r.un;omega
def Uo:TA:=fun _ H Q=>Q [] H
def WV (ta:TE) (tr:TA):TA:=fun σ H Q=>ta σ H fun x H1=>tr σ H1 fun xs H2=>Q (x::xs) H2
section
variable {X:Cx} {e:Expr} {es:List Expr} {te:TE} {t:TA} {pos:Pos}
theorem Yb:PA X [] Uo:=fun _ _ _ _ H Q I h=>Calls.spliced_nil ⟨[],H,I,.nil,h⟩
theorem Ya (ha:PE X e te) (hr:PA X es t) (hs:starEach (e::es) X.env=(false,eval e X.env)::starEach es X.env:=by rfl):PA X (e::es) (WV te t):=by
 intro pos pins s σ H Q I h
 rw [hs]
 show wpAny _ _ (spliced ((false,eval e X.env)::backTo pos (starEach es X.env))) _ _ s
 refine Calls.spliced_cons (thn (ha pins s σ H _ I h) fun u s1 ⟨x,H1,I1,r1,q1⟩=>?_)
 exact thn (hr pos pins s1 σ H1 _ I1 q1) fun us s2 ⟨xs,H2,I2,r2,q2⟩=>⟨x::xs,H2,I2,.cons r1 r2,q2⟩
def tTup (t:TA):TE:=fun σ H Q=>t σ H fun xs H1=>xs.length≤sizeLine∧∀ p,H1 p=none→Q (.ref p) (upd H1 p (.tup xs))
def tLst (t:TA):TE:=fun σ H Q=>t σ H fun xs H1=>xs.length≤sizeLine∧∀ p,H1 p=none→Q (.ref p) (upd H1 p (.lst xs))
theorem Yp {x1} (h:PA X es t):PE X (.Tuple es x1 pos) (tTup t):=by
 intro pins s σ H Q I hq
 refine wpAny_Tuple_spliced (thn (h pos pins s σ H _ I hq) fun us s1 ⟨xs,H1,I1,r,z,q⟩=>⟨by rw [← r.length];exact z,?_⟩)
 have hf:H1 s1.heap.objs.size=none:=I1.hok.fresh (Nat.le_refl _)
 refine ⟨.ref s1.heap.objs.size,upd H1 s1.heap.objs.size (.tup xs),I1.laid (t':=s1.toks) (fun b u e=>Heap.get?_push_of_some _ e) (Nat.le_refl _) ?_,rfl,q _ hf⟩
 exact ⟨z,us,r,⟨_,Heap.get?_push_size _ rfl,rfl,_,rfl⟩⟩
theorem UD (h:PA X es t):PE X (.List es pos) (tLst t):=by
 intro pins s σ H Q I hq
 refine wpAny_List_spliced (thn (h pos pins s σ H _ I hq) fun us s1 ⟨xs,H1,I1,r,z,q⟩=>⟨by rw [← r.length];exact z,?_⟩)
 have hf:H1 s1.heap.objs.size=none:=I1.hok.fresh (Nat.le_refl _)
 refine ⟨.ref s1.heap.objs.size,upd H1 s1.heap.objs.size (.lst xs),I1.laid (t':=s1.toks) (fun b u e=>Heap.get?_push_of_some _ e) (Nat.le_refl _) ?_,rfl,q _ hf⟩
 exact ⟨z,us,0,r,Heap.get?_push_size _ rfl⟩
end
abbrev Sp:=List V→Hp→VK→XK→Prop
abbrev CXT:=List Env→Hp→Shared→XK→Value→Shared→Prop
structure Env0 (P:Program) (w:World) (K:PySem.W.Frag) (mg:Str→Option Value) (base:Heap) (A:Around) (outer:List Env) (s:Shared) (H:Hp):Prop where
 frames:A.frames=some outer
 mod:Mod K mg base
 bs:∀ b o,base.get? b=some o→s.heap.get? b=some o∧H b=none
 bsz:base.objs.size≤s.heap.objs.size
 funs:s.heap.FunFrames base outer
 frf:∀ b∈frs outer,H b=none
 hok:HOk P w H s.heap
 bare:AllBare s.gens
def CE (outer:List Env) (P:Program) (w:World) (H:Hp) (s:Shared) (Q:VK) (u:Value) (s':Shared):Prop :=
 ∃ v H',s'.os=s.os∧AllBare s'.gens∧Un (frs outer) [] H H' s.heap s'.heap∧HOk P w H' s'.heap∧YC v u∧Q v H'
def CR (CX:CXT) (outer:List Env) (P:Program) (w:World) (H:Hp) (s:Shared) (Q:VK) (E:XK) (r:Result) (s':Shared):Prop :=
 match r with
 | .ok (.ret u)=>CE outer P w H s Q u s'
 | .ok _=>False
 | .error e=>CX outer H s E e s'
structure FnOk (P:Program) (w:World) (K:PySem.W.Frag) (mg:Str→Option Value) (base:Heap) (CX:CXT) (k:Nat) (f:Addr) (fd:FuncData) (ps:List Str) (sp:Sp):Prop where
 len:∀ vs H Q E,sp vs H Q E→vs.length=ps.length
 run:∀ (A:Around) (outer:List Env) (s:Shared) (H:Hp) (args:Args) (us:List Value) (vs:List V) (Q:VK) (E:XK),Room k A→Env0 P w K mg base A outer s H→BindsTo s fd args (ps.zip us)→Yu vs us→sp vs H Q E →
  codeAny (model P w) A (.call (.ref f) args) (CR CX outer P w H s Q E) s
theorem FnOk.mono {P:Program} {w:World} {K:PySem.W.Frag} {mg:Str→Option Value} {base:Heap} {CX:CXT} {j k:Nat} {f:Addr} {fd:FuncData} {ps:List Str} {sp:Sp} (F:FnOk P w K mg base CX j f fd ps sp) (h:j≤k) :
  FnOk P w K mg base CX k f fd ps sp:=⟨F.len,fun A outer s H args us vs Q E hr=>F.run A outer s H args us vs Q E (hr.mono h)⟩
theorem Env0.make {P:Program} {w:World} {K:PySem.W.Frag} {mg:Str→Option Value} {base:Heap} {A:Around} {outer:List Env} {s:Shared} {H:Hp} (e:Env0 P w K mg base A outer s H) (C:Addr) (us:List Value) (kw:List (Str×Value)) :
  Env0 P w K mg base (A.under (.builtin "type.__call__" ⟨.ref C::us,kw⟩)) outer s H:=⟨by first | exact e.frames | (simpa [Around.under,Code.envs,Code.isFrame,pushEnvs] using e.frames),e.mod,e.bs,e.bsz,e.funs,e.frf,e.hok,e.bare⟩
theorem Env0.in1 {P:Program} {w:World} {K:PySem.W.Frag} {mg:Str→Option Value} {base:Heap} {A:Around} {outer:List Env} {s:Shared} {H:Hp} (e:Env0 P w K mg base A outer s H) :
  Env0 P w K mg base A.in1 outer s H:=⟨e.frames,e.mod,e.bs,e.bsz,e.funs,e.frf,e.hok,e.bare⟩
section
variable {X:Cx} {pins:List (Addr×Obj)} {σ:St} {H:Hp} {s s':Shared}
theorem Inv.env0 (I:Inv X pins σ H s):Env0 X.prog X.w X.K X.mg X.base X.A X.stack s H :=
 ⟨I.ok.frames,I.ok.mod,I.bs,Nat.le_trans I.ok.bsz I.sz,I.stack,I.stkFree,I.hok,I.bare⟩
theorem Inv.after {Q:VK} {u:Value} (I:Inv X pins σ H s) (h:CE X.stack X.prog X.w H s Q u s'):EP X pins σ Q u s':=by
 obtain ⟨v,H',os,bare,un,hok,r,q⟩:=h
 obtain ⟨hh,g,d,t,os'⟩:=s'
 obtain rfl:os'=s.os:=os
 exact ⟨v,H',I.call (h':=hh) (g':=g) (d':=d) (t':=t) (ch:=[]) un hok bare (fun b z=>absurd z (by simp)),r,q⟩
end
def UE (sp:Sp) (dvs:List V) (E:XK) (t:TA):TE:=fun σ H Q=>t σ H fun vs H1=>sp (vs++dvs) H1 Q E
def tMeth (C:Addr) (m:Str) (sp:Sp) (dvs:List V) (E:XK) (ta:TE) (t:TA):TE:=fun σ H Q=>ta σ H fun x H1=>∃ a dx fs,x = .ref a∧H1 a=some (.ins C dx fs)∧fs.lookup m=none ∧
 t σ H1 fun vs H2=>sp (x::(vs++dvs)) H2 Q E
def tMake (C:Addr) (sp:Sp) (dvs:List V) (E:XK) (t:TA):TE:=fun σ H Q=>t σ H fun vs H1=>∀ x dx,H1 x=none→H1 dx=none→dx≠x →
 sp (.ref x::(vs++dvs)) (upd (upd H1 dx (.own x)) x (.ins C dx [])) (fun v H2=>v = .non∧Q (.ref x) H2) E
def XC (K:PySem.W.Frag) (fd:FuncData) (ps:List Str) (ds:List Value):Prop :=
 ∀ (s:Shared) (us:List Value),K.In s.heap→(us++ds).length=ps.length→BindsTo s fd ⟨us,[]⟩ (ps.zip (us++ds))
theorem XC.all {K:PySem.W.Frag} {fd:FuncData} {ps:List Str} (h:∀ us:List Value,us.length=ps.length→bindArgs fd ⟨us,[]⟩=pure (ps.zip us)):XC K fd ps []:=fun s us _ hl=>by
 rw [List.append_nil] at hl ⊢
 exact .of_eq (h us hl)
def Vb (CX:CXT) (X:Cx) (E:XK):Prop:=∀ (pins:List (Addr×Obj)) (σ:St) (H:Hp) (s:Shared) (e:Value) (s':Shared),Inv X pins σ H s→CX X.stack H s E e s'→X.xe e s'
section
variable {X:Cx} {CX:CXT} {k:Nat} {f C:Addr} {fd:FuncData} {ps:List Str} {sp:Sp} {dvs:List V} {ds:List Value} {E:XK} {x m:Str} {p pos apos:Pos} {e o:Expr} {es:List Expr} {ta:TE} {t:TA}
theorem QX {pins:List (Addr×Obj)} {σ:St} {H:Hp} {s:Shared} {Q:VK} {us:List Value} {vs:List V} (F:FnOk X.prog X.w X.K X.mg X.base CX k f fd ps sp) (hr:Room k X.A) (hb:XC X.K fd ps ds) (hd:Yu dvs ds) (hx:Vb CX X E)
  (I:Inv X pins σ H s) (r:Yu vs us) (h:sp (vs++dvs) H Q E):wpAny (model X.prog X.w) X.A (call (.ref f) us) (EP X pins σ Q) X.xe s:=by
 have r2:Yu (vs++dvs) (us++ds):=r.append hd
 have hl:(us++ds).length=ps.length:=by rw [← r2.length];exact F.len _ _ _ _ h
 refine wpAny_call (codeAny_mono (F.run X.A X.stack s H ⟨us,[]⟩ (us++ds) (vs++dvs) Q E hr I.env0 (hb s us I.kIn hl) r2 h) fun r s' hq=>?_)
 cases r with
 | error e=>exact hx pins σ H s e s' I hq
 | ok fl =>
  cases fl with
  | ret u=>exact I.after hq
  | next=>exact False.elim hq
  | brk=>exact False.elim hq
  | cont=>exact False.elim hq
theorem Ya9 (F:FnOk X.prog X.w X.K X.mg X.base CX k f fd ps sp) (hr:Room k X.A) (hg:Gl X x) (hm:X.mg x=some (.ref f)) (hk:PySem.W.keepIn X.K (.ref f)=true) (hb:XC X.K fd ps ds) (hd:Yu dvs ds) (hx:Vb CX X E)
  (ha:PA X (e::es) t) (hdb:(x==("__debug__":Str))=false:=by decide) (he:starEach (e::es) X.env=(false,eval e X.env)::starEach es X.env:=by rfl) (hpl:(backTo pos (starEach es X.env)).any (·.1)=false:=by rfl) :
  PE X (.Call (.Name x p) (e::es) [] pos) (UE sp dvs E t):=by
 intro pins s σ H Q I h
 refine wpAny_Call_Name_kw (WE I hg hm ?_ hdb)
 refine PySem.W.callWith_K (h₀:=X.base) I.ok.mod.kin hk (thn (ha pos pins s σ H _ I h) fun us s1 ⟨vs,H1,I1,r,q⟩=>⟨I1.kIn,?_⟩) he hpl
 exact QX F hr hb hd hx I1 r q
end
section
variable {X:Cx} {CX:CXT} {k:Nat} {f C:Addr} {fd:FuncData} {ps ks:List Str} {sp:Sp} {E:XK} {x m:Str} {p pos apos kpos:Pos} {e o:Expr} {es:List Expr} {kws:List Keyword} {te ta:TE} {t tk:TA} {nm:Option Str}
variable {g:List Value→List Value→List Value} {gV:List V→List V→List V}
end
structure FnScope (N P:List Str) (sc:Scope):Prop where
 kind:sc.kind = .function
 co:sc.isCoroutine=false
 gen:sc.isGenerator=false
 nd:N.Nodup
 pre:N.take P.length=P
 par:∀ x∈P,sc.names.lookup x=some .local∨sc.names.lookup x=some .cell
 nofree:∀ y∈sc.names,y.2 ≠ .free
theorem Qg {kindOf:Str→Option NameKind} {x:Str}:∀ {binds:List (Str×Value)} {m:Str→Option Value},(∀ v,(x,v)∉binds)→bindL kindOf binds m x=m x
 | [],_,_=>rfl
 | (n,v)::r,m,h=>by
  unfold bindL
  rw [Qg fun w hw=>h w (List.mem_cons_of_mem _ hw)]
  split
  ·have:x≠n:=by rintro rfl;exact h v List.mem_cons_self
   simp [this]
  ·rfl
theorem Qh {kindOf:Str→Option NameKind} {x:Str}:∀ {binds:List (Str×Value)} {m:Str→Option Value},(∀ v,(x,v)∉binds)→bindC kindOf binds m x=m x
 | [],_,_=>rfl
 | (n,v)::r,m,h=>by
  unfold bindC
  rw [Qh fun w hw=>h w (List.mem_cons_of_mem _ hw)]
  split
  ·rfl
  ·have:x≠n:=by rintro rfl;exact h v List.mem_cons_self
   simp [this]
theorem Qi {kindOf:Str→Option NameKind} {x:Str} {v:Value}:∀ {P:List Str} {vs:List Value} {i:Nat} {m:Str→Option Value},P.Nodup→P[i]?=some x→vs[i]?=some v→kindOf x=some .local →
  bindL kindOf (P.zip vs) m x=some v
 | [],_,_,_,_,h,_,_=>by simp at h
 | _::_,[],_,_,_,_,h,_=>by simp at h
 | p::P,w::vs,0,m,nd,h1,h2,hk=>by
  simp at h1 h2;subst h1;subst h2
  show bindL kindOf ((p,w)::P.zip vs) m p=_
  unfold bindL
  rw [Qg fun v hv=>(List.nodup_cons.mp nd).1 (List.of_mem_zip hv).1,if_pos hk]
  simp
 | p::P,w::vs,i+1,m,nd,h1,h2,hk=>by
  show bindL kindOf ((p,w)::P.zip vs) m x=_
  unfold bindL
  exact Qi (i:=i) (List.nodup_cons.mp nd).2 (by simpa using h1) (by simpa using h2) hk
theorem Qj {kindOf:Str→Option NameKind} {x:Str} {v:Value}:∀ {P:List Str} {vs:List Value} {i:Nat} {m:Str→Option Value},P.Nodup→P[i]?=some x→vs[i]?=some v→kindOf x≠some .local →
  bindC kindOf (P.zip vs) m x=some v
 | [],_,_,_,_,h,_,_=>by simp at h
 | _::_,[],_,_,_,_,h,_=>by simp at h
 | p::P,w::vs,0,m,nd,h1,h2,hk=>by
  simp at h1 h2;subst h1;subst h2
  show bindC kindOf ((p,w)::P.zip vs) m p=_
  unfold bindC
  rw [Qh fun v hv=>(List.nodup_cons.mp nd).1 (List.of_mem_zip hv).1,if_neg hk]
  simp
 | p::P,w::vs,i+1,m,nd,h1,h2,hk=>by
  show bindC kindOf ((p,w)::P.zip vs) m x=_
  unfold bindC
  exact Qj (i:=i) (List.nodup_cons.mp nd).2 (by simpa using h1) (by simpa using h2) hk
def start (N:List Str) (vs:List V):St:=vs.map some++List.replicate (N.length - vs.length) none
def W4 (CX:CXT) (P:Program) (w:World) (K:PySem.W.Frag) (mg:Str→Option Value) (base:Heap) (N:List Str) (qual:Str) (scope:Scope) (f:Addr) (cd:Value) (A:Around) (outer:List Env) (s:Shared) (H:Hp) (E:XK):Cx where
 prog:=P
 w:=w
 K:=K
 mg:=mg
 base:=base
 A:=A.deeper (envOfC qual scope s.heap.objs.size f cd)
 N:=N
 s₀:=s
 H₀:=H
 env:=envOfC qual scope s.heap.objs.size f cd
 outer:=outer
 stack:=envOfC qual scope s.heap.objs.size f cd::outer
 ex:=[]
 calm:=true
 fn:=fun _=>true
 pn:=[]
 xe:=fun e s'=>wpAny (model P w) (A.deeper (envOfC qual scope s.heap.objs.size f cd)) (leaving (envOfC qual scope s.heap.objs.size f cd) e) (fun _ s''=>CX outer H s E e s'') (fun e' s''=>CX outer H s E e' s'') s'
theorem QY {sc:Scope} {n:Nat} {x:Str} (h:sc.names.lookup x=some .cell):∃ c,(cellsFrom n sc.names []).lookup x=some c:=by
 have q:=PySem.W.cellsFrom_some sc.names n [] (.inl h)
 exact Option.isSome_iff_exists.mp q
theorem Ycz {CX:CXT} {P:Program} {w:World} {K:PySem.W.Frag} {mg:Str→Option Value} {base:Heap} {N ps:List Str} {qual:Str} {scope:Scope} {f:Addr} {cd:Value} {A:Around} {outer:List Env} {s s1:Shared} {H:Hp} {E:XK} {us:List Value} {vs:List V}
  (S:FnScope N ps scope) (hd:A.handled=none) (e0:Env0 P w K mg base A outer s H) (hl:vs.length=ps.length) (r:Yu vs us)
  (x:InCallC s s.heap.objs.size (bindL (envOfC qual scope s.heap.objs.size f cd).kindOf (ps.zip us) fun _=>none) (cellsFrom (s.heap.objs.size+1) scope.names []) (bindC (envOfC qual scope s.heap.objs.size f cd).kindOf (ps.zip us) fun _=>none) s1) :
  Inv (W4 CX P w K mg base N qual scope f cd A outer s H E) [] (start N vs) H s1:=by
 have hpl:ps.length≤N.length:=by have:=congrArg List.length S.pre;rw [List.length_take] at this;omega
 obtain ⟨h1,tk,rfl,hk⟩:=x.done
 have noA:∀ b:Addr,b∉(W4 CX P w K mg base N qual scope f cd A outer s H E).ex:=fun b z=>absurd (show b∈([]:List Addr) from z) (by simp)
 refine ⟨⟨e0.mod,S.kind,rfl,rfl,Nat.le_refl _,fun y z c h1 h2=>?_,fun y hy=>?_,fun y c _ h=>?_,fun _=>hd,Around.frames_deeper e0.frames,.inr ⟨rfl,rfl⟩,fun b z=>absurd z (noA b),e0.bs,e0.bsz,fun b _ _=>noA b,fun b z=>absurd z (noA b),e0.funs,e0.frf⟩,
  rfl,e0.bare,Un.kept hk,⟨_,x.toInCall.ns,fun i y v h1 h2 h3=>?_⟩,fun y c h=>⟨_,x.cell y c h⟩,e0.hok.fresh (Nat.le_refl _),fun y c h=>?_,fun p hp=>absurd (show p∈([]:List (Addr×Obj)) from hp) (by simp),e0.hok.kept hk,?_⟩
 ·exact name_of_addr x.apart (PySem.mem_of_lookup h1) (PySem.mem_of_lookup h2)
 ·have hy:scope.names.lookup y=some .cell∨scope.names.lookup y=some .free:=hy
  rcases hy with hy | hy
  ·exact QY hy
  ·exact absurd rfl (S.nofree _ (PySem.mem_of_lookup hy))
 ·exact Nat.le_of_lt (x.above y c (PySem.mem_of_lookup h))
 ·have hi:i<vs.length:=by
   unfold start at h2
   by_cases hi:i<vs.length
   ·exact hi
   ·rw [List.getElem?_append_right (by simpa using hi)] at h2
    rw [List.getElem?_replicate] at h2
    split at h2<;>cases h2
  have ha:vs[i]?=some v:=by
   unfold start at h2
   rw [List.getElem?_append_left (by simpa using hi),List.getElem?_map] at h2
   cases e:vs[i]? with
   | none=>rw [e] at h2;cases h2
   | some a=>rw [e] at h2;cases h2;rfl
  obtain ⟨u,hu,rv⟩:=r.get ha
  have hp:ps[i]?=some y:=by
   rw [← S.pre,List.getElem?_take_of_lt (by omega)];exact h1
  have ndP:ps.Nodup:=by rw [← S.pre];exact S.nd.sublist (List.take_sublist _ _)
  refine ⟨u,rv,?_⟩
  rcases S.par y (List.mem_of_getElem? hp) with k | k
  ·exact .inl ⟨k,Qi ndP hp hu k⟩
  ·obtain ⟨c,e⟩:=QY (n:=s.heap.objs.size+1) k
   refine .inr ⟨.inl k,c,e,?_⟩
   have q:=x.cell y c e
   rw [Qj ndP hp hu (by show scope.names.lookup y≠_;rw [k];decide)] at q
   exact q
 ·exact e0.hok.fresh (Nat.le_of_lt (x.above y c (PySem.mem_of_lookup h)))
 ·unfold start
  show _=N.length
  rw [List.length_append,List.length_map,List.length_replicate]
  omega
theorem YbL {CX:CXT} {P:Program} {w:World} {K:PySem.W.Frag} {mg:Str→Option Value} {base:Heap} {k:Nat} {f:Addr} {name qual:Str} {params:Arguments} {body:List Stmt} {scope:Scope} {dV kV doc pm cdv ct oc:Value} {an od:Option Addr}
  {osl:Array (Option Value)} {N ps:List Str} {sp:Sp} (lk:K.lookup f=some ⟨oc,od,.func (PySem.W.fnOf name qual params body scope dV kV doc pm an cdv ct),osl⟩) (hcd:PySem.W.codeIn K cdv qual=true) (S:FnScope N ps scope)
  (len:∀ vs H Q E,sp vs H Q E→vs.length=ps.length)
  (hbody:∀ (A:Around) (outer:List Env) (s:Shared) (H:Hp) (vs:List V) (Q:VK) (E:XK),Room k (A.deeper (envOfC qual scope s.heap.objs.size f cdv))→sp vs H Q E →
   ∃ t,PSs (W4 CX P w K mg base N qual scope f cdv A outer s H E) body t∧t { nx:=fun _ H'=>Q .non H',rt:=Q } (start N vs) H) :
  FnOk P w K mg base CX (k+1) f (PySem.W.fnOf name qual params body scope dV kV doc pm an cdv ct) ps sp:=by
 refine ⟨len,fun A outer s H args us vs Q E hr e0 hb r hsp=>?_⟩
 have hl:=len _ _ _ _ hsp
 have KX:K.In s.heap:=e0.mod.kin.keeps fun b o e=>(e0.bs b o e).1
 have lim:s.heap.NoLimit:=e0.mod.nolimit.keeps fun b o e=>(e0.bs b o e).1
 have hkind:∀ y∈ps.zip us,scope.names.lookup y.1=some .local∨(scope.names.lookup y.1=some .cell∧((cellsFrom (s.heap.objs.size+1) scope.names []).lookup y.1).isSome=true):=fun ⟨n,v⟩ hy=>by
  rcases S.par n (List.of_mem_zip hy).1 with q | q
  ·exact .inl q
  ·exact .inr ⟨q,PySem.W.cellsFrom_some _ _ _ (.inl q)⟩
 refine codeAny_call_function hr.depth (KX _ _ lk) rfl S.co S.gen rfl (PySem.W.codeRec_of KX hcd) (hb _ _ _ _ ?_)
 refine wpAny_newFunctionEnv_cells S.kind hkind fun env he s1 x=>?_
 subst he
 refine ⟨lim.keeps x.toInCall.keep,codeAny_func ?_⟩
 obtain ⟨t,ht,hq⟩:=hbody A outer s H vs Q E (hr.deeper _) hsp
 have I:Inv (W4 CX P w K mg base N qual scope f cdv A outer s H E) [] (start N vs) H s1:=Ycz S hr.hd e0 hl r x
 refine wpAny_mono (ht [] s1 (start N vs) H _ I hq) (fun fl s' hs=>?_) fun e s' hs=>hs
 have fin:∀ {σ':St} {H':Hp} {v:V} {u:Value},Inv (W4 CX P w K mg base N qual scope f cdv A outer s H E) [] σ' H' s'→YC v u→Q v H'→CE outer P w H s Q u s' :=
  fun {σ' H' v u} J rv q=>⟨v,H',J.os,J.bare,J.base,J.hok,rv,q⟩
 cases fl with
 | ret u =>
  obtain ⟨v,σ',H',J,rv,q⟩:=hs
  exact fin J rv q
 | next =>
  obtain ⟨σ',H',J,q⟩:=hs
  exact fin (v:=V.non) (u:=Value.none) J rfl q
 | brk =>
  obtain ⟨_,_,_,q⟩:=hs
  exact False.elim q
 | cont =>
  obtain ⟨_,_,_,q⟩:=hs
  exact False.elim q
end L2
namespace L2
open PySem PySem.Spec PyProof.Rows
section
variable {X:Cx} {x:Str} {p pos:Pos} {e:Expr} {es:List Expr} {t:TA} {id T:String} {r:List V→Hp→VK→Prop}
def tCB (r:List V→Hp→VK→Prop) (t:TA):TE:=fun σ H Q=>t σ H fun vs H1=>r vs H1 Q
theorem Ydo (hc:Xk X (.builtin id) r) (hg:Gl X x) (hm:X.mg x=none) (hv:bootBuiltins x=some (.builtin id)) (ha:PA X (e::es) t) (hn:x≠"__name__":=by decide) (hdb:(x==("__debug__":Str))=false:=by decide)
  (he:starEach (e::es) X.env=(false,eval e X.env)::starEach es X.env:=by rfl) (hpl:(backTo pos (starEach es X.env)).any (·.1)=false:=by rfl):PE X (.Call (.Name x p) (e::es) [] pos) (tCB r t):=by
 intro pins s σ H Q I h
 refine wpAny_Call_Name_kw (W8 I hg hm hv ?_ hn hdb)
 exact PyProof.Rows.callWith_builtin1 (thn (ha pos pins s σ H _ I h) fun us s1 ⟨vs,H1,I1,r1,q1⟩=>hc pins s1 σ H1 vs us Q I1 r1 q1) he hpl
theorem YcA (hc:Xk X (.type T) r) (hg:Gl X x) (hm:X.mg x=none) (hv:bootBuiltins x=some (.type T)) (ha:PA X (e::es) t) (hn:x≠"__name__":=by decide) (hdb:(x==("__debug__":Str))=false:=by decide)
  (he:starEach (e::es) X.env=(false,eval e X.env)::starEach es X.env:=by rfl) (hpl:(backTo pos (starEach es X.env)).any (·.1)=false:=by rfl):PE X (.Call (.Name x p) (e::es) [] pos) (tCB r t):=by
 intro pins s σ H Q I h
 refine wpAny_Call_Name_kw (W8 I hg hm hv ?_ hn hdb)
 exact PyProof.Rows.callWith_type1 (thn (ha pos pins s σ H _ I h) fun us s1 ⟨vs,H1,I1,r1,q1⟩=>hc pins s1 σ H1 vs us Q I1 r1 q1) he hpl
end
end L2
namespace HT
open PySem PyProof.Rows
section
open PySem.SeqAt
open PySem.AutoSeq1 (wpAny_loadPart')
open PySem.MeetsSeq PySem.MeetsSeq2 PySem.MeetsSeq3
end
section
variable {prog:Program} {w:World} {A:Around} {E:Value→Shared→Prop} {s:Shared}
def sIx (n d:Nat):Option Int→Nat
 | none=>d
 | some v=>if v<0 then (v+(n:Int)).toNat else min v.toNat n
theorem sIx_none (n d:Nat):sIx n d none=d:=rfl
theorem sIx_nat (n d k:Nat):sIx n d (some (k:Int))=min k n:=by
 show (if (k:Int)<0 then ((k:Int)+(n:Int)).toNat else min (k:Int).toNat n)=min k n
 rw [if_neg (by omega),Int.toNat_natCast]
end
end HT
namespace L2
open PySem PySem.Spec PyProof.Rows
abbrev TO:=St→Hp→(Option Int→Hp→Prop)→Prop
def PO (X:Cx) (e:Option Expr) (t:TO):Prop :=
 ∀ (pins:List (Addr×Obj)) (s:Shared) (σ:St) (H:Hp) (Q:Option Int→Hp→Prop),Inv X pins σ H s→t σ H Q →
  wpAny (model X.prog X.w) X.A (evalPart e X.env) (fun u s'=>∃ o H',Inv X pins σ H' s'∧IsPart u o∧Q o H') X.xe s
def Yba:TO:=fun _ H Q=>Q none H
def Yd7 (t:TE):TO:=fun σ H Q=>t σ H fun x H1=>∃ i,x = .int i∧Q (some i) H1
theorem UF {ns:List Int}:∀ {us:List Value},Yu (ns.map V.int) us→IntsAre us ns:=by
 induction ns with
 | nil=>intro us r;rw [List.map_nil] at r;cases r;exact .nil
 | cons n ns ih =>
  intro us r
  rw [List.map_cons] at r
  cases r with
  | cons r1 r2 =>
   obtain ⟨t,e⟩:=r1
   subst e
   exact .cons n t (ih r2)
section
variable {X:Cx} {e:Expr} {te:TE} {lo hi:Option Expr} {tl th:TO} {pos p2:Pos}
theorem Yei:PO X none Yba:=by
 intro pins s σ H Q I h
 rw [evalPart_none]
 exact wpAny_pure ⟨none,H,I,.none,h⟩
theorem Yej (h:PE X e te):PO X (some e) (Yd7 te):=by
 intro pins s σ H Q I hw
 rw [evalPart_some]
 refine thn (h pins s σ H _ I hw) fun u s1 ⟨x,H1,I1,r1,q1⟩=>?_
 obtain ⟨i,rfl,q⟩:=q1
 obtain ⟨t,rfl⟩:=r1
 exact ⟨some i,H1,I1,.int i t,q⟩
def SlR (X:Cx) (r:V→Option Int→Option Int→Hp→VK→Prop):Prop :=
 ∀ (pins:List (Addr×Obj)) (s:Shared) (σ:St) (H:Hp) (x:V) (v vl vu:Value) (lo hi:Option Int) (sl:Addr) (Q:VK),Inv X pins σ H s→YC x v→s.heap.IsSliceOf sl vl vu .none→IsPart vl lo→IsPart vu hi→r x lo hi H Q →
  ∃ T id,typeLookup (.type T) "__getitem__"=pure (some (.builtin id))∧s.TypeIs v T∧wpAny (model X.prog X.w) X.A (getItem v (.ref sl)) (EP X pins σ Q) X.xe s
def tSl (r:V→Option Int→Option Int→Hp→VK→Prop) (te:TE) (tl th:TO):TE:=fun σ H Q=>te σ H fun x H1=>tl σ H1 fun l H2=>th σ H2 fun u H3=>r x l u H3 Q
theorem Ydp {r:V→Option Int→Option Int→Hp→VK→Prop} (hr:SlR X r) (he:PE X e te) (hl:PO X lo tl) (hu:PO X hi th):PE X (.Subscript e (.Slice lo hi none p2) pos) (tSl r te tl th):=by
 intro pins s σ H Q I h
 refine Subscript_ (thn (he pins s σ H _ I h) fun v s1 ⟨x,H1,I1,r1,q1⟩=>?_)
 refine wpAny_Slice (thn (hl pins s1 σ H1 _ I1 q1) fun vl s2 ⟨l,H2,I2,pl,q2⟩=>thn (hu pins s2 σ H2 _ I2 q2) fun vu s3 ⟨u,H3,I3,pu,q3⟩=>?_)
 rw [evalPart_none]
 refine wpAny_pure ?_
 have I4:Inv X pins σ H3 { s3 with heap:=s3.heap.push { cls := .type "slice",data := .fields #[vl,vu,.none] } }:=I3.kept (t':=s3.toks) fun b ob q=>Heap.get?_push_of_some _ q
 obtain ⟨T,id,hT,ht,hg⟩:=hr pins { s3 with heap:=s3.heap.push { cls := .type "slice",data := .fields #[vl,vu,.none] } } σ H3 x v vl vu l u s3.heap.objs.size Q I4 r1 (Heap.IsSliceOf.new ..) pl pu q3
 show wpAny (model X.prog X.w) X.A (subscriptTail e (.Slice lo hi none p2) v (.ref s3.heap.objs.size)) (EP X pins σ Q) X.xe { s3 with heap:=s3.heap.push { cls := .type "slice",data := .fields #[vl,vu,.none] } }
 exact tail_any (ops:=[.ref s3.heap.objs.size,v]) ht hT hg (by with_unfolding_all rfl)
def U3 (xs:List V) (lo hi:Option Int):List V:=(xs.drop (HT.sIx xs.length 0 lo)).take (HT.sIx xs.length xs.length hi - HT.sIx xs.length 0 lo)
theorem YaQ (xs:List V) (lo hi:Option Int):(U3 xs lo hi).length≤xs.length:=by
 unfold U3
 rw [List.length_take,List.length_drop]
 omega
end
end L2
namespace L2
open PySem PySem.Spec PyProof.Rows
def ixN (n:Nat) (i:Int):Option Nat:=if 0≤i then (if i<n then some i.toNat else none) else if -(n:Int)≤i then some (i+n).toNat else none
def atI {α:Type} (xs:List α) (i:Int):Option α:=(ixN xs.length i).bind fun j=>xs[j]?
theorem Yek {n:Nat} {i:Int} {j:Nat} (h:ixN n i=some j):seqIndex? i n=some j∧j<n ∧ -(n:Int)≤i∧i<n:=by
 unfold ixN at h
 by_cases h0:0≤i
 ·rw [if_pos h0] at h
  by_cases h1:i<n
  ·rw [if_pos h1] at h
   have e:i.toNat=j:=Option.some.inj h
   exact ⟨by rw [seqIndex_of h0 h1,e],by omega,by omega,h1⟩
  ·rw [if_neg h1] at h;cases h
 ·rw [if_neg h0] at h
  by_cases h1 : -(n:Int)≤i
  ·rw [if_pos h1] at h
   have e:(i+n).toNat=j:=Option.some.inj h
   exact ⟨by rw [seqIndex_neg (by omega) h1,e],by omega,h1,by omega⟩
  ·rw [if_neg h1] at h;cases h
theorem U4 {α:Type} {xs:List α} {i:Int} {v:α} (h:atI xs i=some v):∃ j,seqIndex? i xs.length=some j∧xs[j]?=some v∧j<xs.length ∧ -(xs.length:Int)≤i∧i<xs.length:=by
 unfold atI at h
 cases e:ixN xs.length i with
 | none=>rw [e] at h;cases h
 | some j =>
  rw [e] at h
  obtain ⟨h1,h2,h3,h4⟩:=Yek e
  exact ⟨j,h1,h,h2,h3,h4⟩
theorem Vc {α:Type} {xs:List α} {j:Nat} {v:α} (h:xs[j]?=some v):atI xs (j:Int)=some v:=by
 have hj:j<xs.length:=(List.getElem?_eq_some_iff.mp h).1
 have e:ixN xs.length (j:Int)=some j:=by
  unfold ixN
  rw [if_pos (by omega),if_pos (by omega)];simp
 unfold atI;rw [e];exact h
def Yel (b:Expr):Prop:=∀ o i,subscripted b false o i=operate [o,i] (getItem o i)
def IxR (X:Cx) (r:R2):Prop :=
 ∀ (value slice:Expr) (pins:List (Addr×Obj)) (s:Shared) (σ:St) (H:Hp) (x y:V) (v u:Value) (Q:VK),Inv X pins σ H s→YC x v→YC y u→r x y H Q →
  subscripted slice false v u=operate [v,u] (getItem v u)→wpAny (model X.prog X.w) X.A (subscriptTail value slice v u) (EP X pins σ Q) X.xe s
def MtR (X:Cx) (id:String) (r:V→List V→Hp→VK→Prop):Prop :=
 ∀ (pins:List (Addr×Obj)) (s:Shared) (σ:St) (H:Hp) (x:V) (xs:List V) (v:Value) (us:List Value) (Q:VK),Inv X pins σ H s→YC x v→Yu xs us→r x xs H Q →
  wpAny (model X.prog X.w) X.A (call (.builtin id) (v::us)) (EP X pins σ Q) X.xe s
section
variable {X:Cx} {a b:Expr} {ta tb:TE} {pos:Pos}
theorem Yy {r:R2} (hr:IxR X r) (ha:PE X a ta) (hb:PE X b tb) (hs:Yel b):PE X (.Subscript a b pos) (tOp r ta tb):=by
 intro pins s σ H Q I h
 exact Subscript_ (binT ha hb I h fun v u s2 x y H2 I2 rx ry q=>hr a b pins s2 σ H2 x y v u Q I2 rx ry q (hs _ _))
def rIxL (K:PySem.W.Frag):R2:=fun x y H Q=>∃ p xs i v,x = .ref p∧y = .int i∧SqL K H p xs∧atI xs i=some v∧Q v H
def rIxT (K:PySem.W.Frag):R2:=fun x y H Q=>∃ p xs i v,x = .ref p∧y = .int i∧SqT K H p xs∧atI xs i=some v∧Q v H
def rIxS:R2:=fun x y H Q=>∃ z i c,x = .str z∧y = .int i∧z.length≤sizeLine∧atI z.cps.toList i=some c∧Q (.str ⟨#[c]⟩) H
theorem V6:IxR X (rIxL X.K):=by
 intro value slice pins s σ H x y v u Q I rx ry h hs
 obtain ⟨p,xs,i,z,rfl,rfl,hq,he,q⟩:=h
 cases rx
 obtain ⟨t,rfl⟩:=ry
 obtain ⟨its,r,pl,hz⟩:=I.list hq
 obtain ⟨j,h1,h2,h3,h4,h5⟩:=U4 he
 obtain ⟨w,ew,rw'⟩:=r.get h2
 have hl:=r.length
 have hn:=VN
 have fin:EP X pins σ Q w s:=⟨z,H,I,rw',q⟩
 by_cases h0:0≤i
 ·have hj:i.toNat=j:=by
   rw [seqIndex_of h0 h5] at h1
   exact Option.some.inj h1
  exact item_listR pl.isList h0 (by omega) (by rw [hj];simpa using ew) fin hs
 ·have hj:(i+(its.toArray.size:Int)).toNat=j:=by
   rw [seqIndex_neg (by omega) h4] at h1
   rw [List.size_toArray,← hl]
   exact Option.some.inj h1
  exact subscriptTail_builtinR (x:=w) pl.isList.typeIs slot_list_getitem.lookup
   (wpAny_getItem_list_neg (Q:=fun r s'=>r=w∧EP X pins σ Q r s') pl.isList (by omega) (by rw [List.size_toArray]<;>omega) (by omega) (by rw [hj];simpa using ew) ⟨rfl,fin⟩) hs
theorem Yw:IxR X (rIxT X.K):=by
 intro value slice pins s σ H x y v u Q I rx ry h hs
 obtain ⟨p,xs,i,z,rfl,rfl,hq,he,q⟩:=h
 cases rx
 obtain ⟨t,rfl⟩:=ry
 obtain ⟨its,r,pl,hz⟩:=I.tuple hq
 obtain ⟨j,h1,h2,h3,h4,h5⟩:=U4 he
 obtain ⟨w,ew,rw'⟩:=r.get h2
 have hl:=r.length
 have hn:=VN
 have fin:EP X pins σ Q w s:=⟨z,H,I,rw',q⟩
 exact subscriptTail_builtinR (x:=w) pl.typeIs slot_tuple_getitem.lookup
  (getItem_tuple (j:=j) (Q:=fun r s'=>r=w∧EP X pins σ Q r s') pl (by omega) (by omega) (by rw [List.size_toArray,← hl];exact h1) (by simpa using ew) ⟨rfl,fin⟩) hs
theorem Ye2:IxR X rIxS:=by
 intro value slice pins s σ H x y v u Q I rx ry h hs
 obtain ⟨z,i,c,rfl,rfl,hz,he,q⟩:=h
 obtain ⟨t,rfl⟩:=rx
 obtain ⟨t',rfl⟩:=ry
 obtain ⟨j,h1,h2,h3,h4,h5⟩:=U4 he
 have hl:z.cps.toList.length=z.length:=by simp [Str.length]
 rw [hl] at h1 h4 h5
 have hn:=VN
 exact tail_any (typeIs_str s z t) slot_str_getitem.lookup (getItem_str (c:=c) (by
  have e1:decide (i < -(2^63:Int))=false:=decide_eq_false (by omega)
  have e2:decide (i≥2^63)=false:=decide_eq_false (by omega)
  rw [e1,e2,Bool.or_false]) (by rw [h1];simpa using h2) ⟨.str ⟨#[c]⟩,H,I.tok _,⟨_,rfl⟩,q⟩) hs
theorem Inv.lst {pins:List (Addr×Obj)} {σ:St} {H:Hp} {s:Shared} {p:Addr} {xs:List V} (I:Inv X pins σ H s) (h:H p=some (.lst xs)) :
  ∃ (its:List Value) (n:Nat),Yu xs its∧s.heap.get? p=some { cls := .type "list",data := .seq its.toArray n }∧xs.length≤sizeLine:=by
 obtain ⟨z,its,n,r,e⟩:=I.hok p _ h
 exact ⟨its,n,r,e,z⟩
def rSetL:V→V→V→Hp→(Hp→Prop)→Prop:=fun o i v H Q=>∃ p xs k j,o = .ref p∧i = .int k∧H p=some (.lst xs)∧ixN xs.length k=some j∧Q (upd H p (.lst (xs.set j v)))
theorem QZ (lo hi:Option Int) (n:Nat):(sliceBounds lo hi none n).1=((HT.sIx n 0 lo:Nat):Int)∧(sliceBounds lo hi none n).2.1=((HT.sIx n n hi:Nat):Int)∧(sliceBounds lo hi none n).2.2=1:=by
 refine ⟨?_,?_,rfl⟩
 ·cases lo with
  | none=>simp [sliceBounds,HT.sIx]
  | some i =>
   simp only [sliceBounds,HT.sIx,Option.getD_none,show (1:Int)>0 by decide,if_true]
   by_cases h:i<0
   ·simp only [h,if_true]<;>omega
   ·simp only [h,if_false]<;>omega
 ·cases hi with
  | none=>simp [sliceBounds,HT.sIx]
  | some i =>
   simp only [sliceBounds,HT.sIx,Option.getD_none,show (1:Int)>0 by decide,if_true]
   by_cases h:i<0
   ·simp only [h,if_true]<;>omega
   ·simp only [h,if_false]<;>omega
theorem Qy (its:List Value) (lo hi:Option Int):slicePick its.toArray lo hi none=((its.drop (HT.sIx its.length 0 lo)).take (HT.sIx its.length its.length hi - HT.sIx its.length 0 lo)).toArray:=by
 obtain ⟨h1,h2,h3⟩:=QZ lo hi its.toArray.size
 unfold slicePick
 rw [h1,h2,h3]
 simp only [sliceRange_one,pick_run,List.size_toArray]<;>rfl
def rSlL (K:PySem.W.Frag):V→Option Int→Option Int→Hp→VK→Prop:=fun x lo hi H Q=>∃ a xs,x = .ref a∧SqL K H a xs∧∀ p,H p=none→Q (.ref p) (upd H p (.lst (U3 xs lo hi)))
theorem Yem:SlR X (rSlL X.K):=by
 intro pins s σ H x v vl vu lo hi sl Q I rx hs pl pu h
 obtain ⟨a,xs,rfl,hx,q⟩:=h
 cases rx
 obtain ⟨its,r,ht,hz⟩:=I.list hx
 have hlen:=r.length
 refine ⟨"list",_,slot_list_getitem.lookup,ht.isList.typeIs,?_⟩
 refine wpAny_getItem_list_slice ht.isList hs pl pu .none (by simp) ?_ (by rw [List.size_toArray]<;>omega)
 rw [Qy,← hlen]
 refine ⟨.ref s.heap.objs.size,_,I.laid (t':=s.toks) (o := .lst (U3 xs lo hi)) (fun b ob q=>Heap.get?_push_of_some _ q) (Nat.le_refl _) ?_,rfl,q _ (I.hok.fresh (Nat.le_refl _))⟩
 exact ⟨Nat.le_trans (YaQ xs lo hi) hz,_,0,(r.drop (HT.sIx xs.length 0 lo)).take (HT.sIx xs.length xs.length hi - HT.sIx xs.length 0 lo),Heap.get?_push_size _ rfl⟩
def WW:V→Bool
 | .non=>true
 | .bl _=>true
 | .int _=>true
 | .str _=>true
 | _=>false
def eqV:V→V→Bool
 | .non,.non=>true
 | .bl a,.bl b=>a==b
 | .bl a,.int b=>(if a then 1 else 0)==b
 | .int a,.bl b=>a==(if b then 1 else 0)
 | .int a,.int b=>a==b
 | .str a,.str b=>a==b
 | _,_=>false
theorem Ye3 {A:Around} {s:Shared} {y x:V} {u v:Value} (ry:YC y u) (rx:YC x v) (fy:WW y=true) (fx:WW x=true):SeqAt.EqAt A s u v (eqV y x):=by
 cases y with
 | non =>
  cases ry
  cases x with
  | non=>cases rx;exact SeqAt.EqAt.same _
  | bl b=>cases rx;exact SeqAt.EqAt.none_bool b
  | int b=>obtain ⟨t,rfl⟩:=rx;exact SeqAt.EqAt.none_int b t
  | str b=>obtain ⟨t,rfl⟩:=rx;exact SeqAt.EqAt.none_str b t
  | _=>exact absurd (show false=true from fx) Bool.false_ne_true
 | bl a =>
  cases ry
  cases x with
  | non=>cases rx;exact SeqAt.EqAt.bool_none a
  | bl b=>cases rx;exact SeqAt.EqAt.bool_bool a b
  | int b=>obtain ⟨t,rfl⟩:=rx;exact SeqAt.EqAt.bool_int a b t
  | str b=>obtain ⟨t,rfl⟩:=rx;exact SeqAt.EqAt.bool_str a b t
  | _=>exact absurd (show false=true from fx) Bool.false_ne_true
 | int a =>
  obtain ⟨t',rfl⟩:=ry
  cases x with
  | non=>cases rx;exact SeqAt.EqAt.int_none a t'
  | bl b=>cases rx;exact SeqAt.EqAt.int_bool a t' b
  | int b=>obtain ⟨t,rfl⟩:=rx;exact SeqAt.EqAt.int_int a t' b t
  | str b=>obtain ⟨t,rfl⟩:=rx;exact SeqAt.EqAt.int_str a t' b t
  | _=>exact absurd (show false=true from fx) Bool.false_ne_true
 | str a =>
  obtain ⟨t',rfl⟩:=ry
  cases x with
  | non=>cases rx;exact SeqAt.EqAt.str_none a t'
  | bl b=>cases rx;exact SeqAt.EqAt.str_bool a t' b
  | int b=>obtain ⟨t,rfl⟩:=rx;exact SeqAt.EqAt.str_int a t' b t
  | str b=>obtain ⟨t,rfl⟩:=rx;exact SeqAt.EqAt.str_str a t' b t
  | _=>exact absurd (show false=true from fx) Bool.false_ne_true
 | _=>exact absurd (show false=true from fy) Bool.false_ne_true
def eqU (x:V) (u:Value):Bool:=match u with
 | .none=>eqV .non x
 | .bool b=>eqV (.bl b) x
 | .int i _=>eqV (.int i) x
 | .str z _=>eqV (.str z) x
 | _=>false
theorem YcB {x y:V} {u:Value} (r:YC y u) (f:WW y=true):eqU x u=eqV y x:=by
 cases y with
 | non=>cases r;rfl
 | bl b=>cases r;rfl
 | int i=>obtain ⟨t,rfl⟩:=r;rfl
 | str z=>obtain ⟨t,rfl⟩:=r;rfl
 | _=>exact absurd (show false=true from f) Bool.false_ne_true
theorem Vd {x:V}:∀ {xs:List V} {us:List Value},Yu xs us→xs.all WW=true→us.any (eqU x)=xs.any fun y=>eqV y x
 | _,_,.nil,_=>rfl
 | y::xs,u::us,.cons r t,f=>by
  rw [List.all_cons,Bool.and_eq_true] at f
  rw [List.any_cons,List.any_cons,YcB r f.1,Vd t f.2]
theorem WK {A:Around} {s:Shared} {x:V} {v:Value} (rx:YC x v) (fx:WW x=true):∀ {xs:List V} {us:List Value},Yu xs us→xs.all WW=true→∀ u∈us,SeqAt.EqAt A s u v (eqU x u)
 | _,_,.nil,_=>fun u hu=>by cases hu
 | y::xs,u::us,.cons r t,f=>fun u' hu=>by
  rw [List.all_cons,Bool.and_eq_true] at f
  rcases List.mem_cons.mp hu with rfl | hu
  ·rw [YcB r f.1];exact Ye3 r rx f.1 fx
  ·exact WK rx fx t f.2 u' hu
def inV (x:V) (xs:List V):Bool:=xs.any fun y=>eqV y x
def rIn (K:PySem.W.Frag) (neg:Bool):R2:=fun x y H Q=>∃ p xs,y = .ref p∧(SqL K H p xs∨SqT K H p xs)∧WW x=true∧xs.all WW=true∧Q (.bl (if neg then !inV x xs else inV x xs)) H
theorem WX:OpR X (compareOp .In) (rIn X.K false):=by
 intro pins s σ H x y v u Q I rx ry h
 obtain ⟨p,xs,rfl,hq,fx,fs,q⟩:=h
 cases ry
 rcases hq with hq | hq
 ·obtain ⟨its,r,pl,hz⟩:=I.list hq
  refine SeqAt.in_listAt (eqU x) pl.isList (fun w hw=>WK rx fx r fs w (by simpa using hw)) ⟨.bl _,H,I,rfl,?_⟩
  rw [show its.toArray.any (eqU x)=its.any (eqU x) by simp,Vd r fs]
  exact q
 ·obtain ⟨its,r,pl,hz⟩:=I.tuple hq
  refine SeqAt.in_tupleAt (eqU x) pl (fun w hw=>WK rx fx r fs w (by simpa using hw)) ⟨.bl _,H,I,rfl,?_⟩
  rw [show its.toArray.any (eqU x)=its.any (eqU x) by simp,Vd r fs]
  exact q
theorem Q0:OpR X (compareOp .NotIn) (rIn X.K true):=by
 intro pins s σ H x y v u Q I rx ry h
 obtain ⟨p,xs,rfl,hq,fx,fs,q⟩:=h
 cases ry
 rcases hq with hq | hq
 ·obtain ⟨its,r,pl,hz⟩:=I.list hq
  refine SeqAt.notIn_listAt (eqU x) pl.isList (fun w hw=>WK rx fx r fs w (by simpa using hw)) ⟨.bl _,H,I,rfl,?_⟩
  rw [show its.toArray.any (eqU x)=its.any (eqU x) by simp,Vd r fs]
  exact q
 ·obtain ⟨its,r,pl,hz⟩:=I.tuple hq
  refine SeqAt.notIn_tupleAt (eqU x) pl (fun w hw=>WK rx fx r fs w (by simpa using hw)) ⟨.bl _,H,I,rfl,?_⟩
  rw [show its.toArray.any (eqU x)=its.any (eqU x) by simp,Vd r fs]
  exact q
theorem Xe:Xk X (.builtin "len") (fun xs H Q=>∃ p ys,xs=[.ref p]∧(SqL X.K H p ys∨SqT X.K H p ys)∧Q (.int ys.length) H):=by
 intro pins s σ H xs us Q I r h
 obtain ⟨p,ys,rfl,hq,q⟩:=h
 obtain ⟨u,rfl,rx⟩:=Wg r
 cases rx
 have hn:=VN
 rcases hq with hq | hq
 ·obtain ⟨its,r',pl,hz⟩:=I.list hq
  have hlen:=r'.length
  exact Calls.call_len_list pl.isList (by simp only [List.size_toArray]<;>omega) ⟨.int ys.length,H,I.tok _,⟨s.toks+1,by rw [List.size_toArray,hlen]⟩,q⟩
 ·obtain ⟨its,r',pl,hz⟩:=I.tuple hq
  have hlen:=r'.length
  exact len_tuple pl (by simp only [List.size_toArray]<;>omega) ⟨.int ys.length,H,I.tok _,⟨s.toks+1,by rw [List.size_toArray,hlen]⟩,q⟩
theorem VP:Xk X (.builtin "len") (fun xs H Q=>∃ z,xs=[.str z]∧z.length≤sizeLine∧Q (.int z.length) H):=by
 intro pins s σ H xs us Q I r h
 obtain ⟨z,rfl,hz,q⟩:=h
 obtain ⟨u,rfl,t,rfl⟩:=Wg r
 have hn:=VN
 exact len_str (by omega) ⟨.int z.length,H,I.tok _,⟨_,rfl⟩,q⟩
theorem Q1:Xk X (.type "list") (fun xs H Q=>∃ p ys,xs=[.ref p]∧(SqL X.K H p ys∨SqT X.K H p ys)∧∀ l,H l=none→Q (.ref l) (upd H l (.lst ys))):=by
 intro pins s σ H xs us Q I r h
 obtain ⟨p,ys,rfl,hq,q⟩:=h
 obtain ⟨u,rfl,rx⟩:=Wg r
 cases rx
 have fin:∀ (its:List Value),Yu ys its→ys.length≤sizeLine→∀ (h':Heap) (c':Nat),(∀ b o',s.heap.get? b=some o'→h'.get? b=some o') →
   h'.get? s.heap.objs.size=some { cls := .type "list",dict:=none,data := .seq its.toArray c',slots:=#[] }→EP X pins σ Q (.ref s.heap.objs.size) { s with heap:=h' }:=fun its r' hz h' c' kp e =>
  ⟨.ref s.heap.objs.size,_,I.laid (t':=s.toks) kp (Nat.le_refl _) (show YM X.prog X.w _ h' _ (.lst ys) from ⟨hz,its,c',r',e⟩),rfl,q _ (I.hok.fresh (Nat.le_refl _))⟩
 rcases hq with hq | hq
 ·obtain ⟨its,r',pl,hz⟩:=I.list hq
  have hlen:=r'.length
  obtain ⟨o,ho,hc,n,hd⟩:=pl.isList
  exact call_list_seq p (.inl rfl) ho hc hd (fun h' c' kp e=>fin its r' hz h' c' kp e) (by simp only [List.size_toArray]<;>omega)
 ·obtain ⟨its,r',pl,hz⟩:=I.tuple hq
  have hlen:=r'.length
  obtain ⟨o,ho,hc,n,hd⟩:=pl
  exact call_list_seq p (.inr rfl) ho hc hd (fun h' c' kp e=>fin its r' hz h' c' kp e) (by simp only [List.size_toArray]<;>omega)
theorem Wx:Xk X (.type "tuple") (fun xs H Q=>∃ p ys,xs=[.ref p]∧((SqL X.K H p ys∧∀ l,H l=none→Q (.ref l) (upd H l (.tup ys)))∨(SqT X.K H p ys∧Q (.ref p) H))):=by
 intro pins s σ H xs us Q I r h
 obtain ⟨p,ys,rfl,h⟩:=h
 obtain ⟨u,rfl,rx⟩:=Wg r
 cases rx
 rcases h with ⟨hq,q⟩ | ⟨hq,q⟩
 ·obtain ⟨its,r',pl,hz⟩:=I.list hq
  have hlen:=r'.length
  refine call_tuple_list pl.isList (fun h' kp=>?_) (by simp only [List.size_toArray]<;>omega)
  have I1:Inv X pins σ H { s with heap:=h' }:=I.kept (t':=s.toks) kp
  have I2:Inv X pins σ (upd H h'.objs.size (.tup ys)) { s with heap:=h'.push { cls := .type "tuple",data := .seq its.toArray } } :=
   I1.laid (t':=s.toks) (fun b o e=>Heap.get?_push_of_some _ e) (Nat.le_refl _) (show YM X.prog X.w _ _ _ (.tup ys) from ⟨hz,its,r',IsTup.new _ _⟩)
  exact ⟨.ref h'.objs.size,_,I2,rfl,q _ (I1.hok.fresh (Nat.le_refl _))⟩
 ·obtain ⟨its,r',pl,hz⟩:=I.tuple hq
  exact call_tuple_same pl ⟨.ref p,H,I,rfl,q⟩
def tyV (K:PySem.W.Frag) (T:String) (x:V) (H:Hp):Prop:=match x with
 | .str _=>T="str"
 | .int _=>T="int"
 | .ref p=>(T="list"∧∃ xs,SqL K H p xs)∨(T="tuple"∧∃ o,K.lookup p=some o∧o.cls = .type "tuple"∧o.dict=none) ∨
   (T="dict"∧((∃ kvs,H p=some (.dK kvs))∨∃ kvs,H p=some (.dT kvs)))∨(T="set"∧∃ S n,H p=some (.set S n))
 | _=>False
theorem Ye4 {pins:List (Addr×Obj)} {σ:St} {H:Hp} {s:Shared} {T:String} {x:V} {v:Value} (I:Inv X pins σ H s) (r:YC x v) (ty:tyV X.K T x H) :
  s.TypeIs v T∧∀ a,v = .ref a→∃ ob,s.heap.get? a=some ob∧ob.dict=none:=by
 cases x with
 | str z =>
  obtain ⟨t,rfl⟩:=r
  cases (show T="str" from ty)
  exact ⟨typeIs_str s z t,fun _ e=>nomatch e⟩
 | int i =>
  obtain ⟨t,rfl⟩:=r
  cases (show T="int" from ty)
  exact ⟨typeIs_int s i t,fun _ e=>nomatch e⟩
 | ref p =>
  cases r
  rcases ty with ⟨rfl,xs,hq⟩ | ⟨rfl,o,hk,hc,hd⟩ | ⟨rfl,hk⟩ | ⟨rfl,S,n,hk⟩
  ·obtain ⟨its,_,pl,_⟩:=I.list hq
   refine ⟨pl.isList.typeIs,fun a e=>?_⟩
   cases e
   obtain ⟨o,n,e,c,hd,_⟩:=pl
   exact ⟨o,e,hd⟩
  ·refine ⟨⟨o,I.kIn p o hk,hc⟩,fun a e=>?_⟩
   cases e
   exact ⟨o,I.kIn _ o hk,hd⟩
  ·have z:∃ o,s.heap.get? p=some o∧o.ExactDict:=by
    rcases hk with ⟨kvs,hk⟩ | ⟨kvs,hk⟩
    ·obtain ⟨_,_,_,_,o,_,_,e,ex,_⟩:=I.hok p _ hk
     exact ⟨o,e,ex⟩
    ·obtain ⟨_,_,_,_,o,_,_,e,ex,_⟩:=I.hok p _ hk
     exact ⟨o,e,ex⟩
   obtain ⟨o,e,ex⟩:=z
   refine ⟨⟨o,e,ex.1⟩,fun a e2=>?_⟩
   cases e2
   exact ⟨o,e,ex.2.1⟩
  ·obtain ⟨o,_,_,_,e,ex,_⟩:=I.hok p _ hk
   refine ⟨⟨o,e,ex.1⟩,fun a e2=>?_⟩
   cases e2
   exact ⟨o,e,ex.2.1⟩
 | _=>exact False.elim ty
def tBM0 (K:PySem.W.Frag) (T:String) (r:V→List V→Hp→VK→Prop) (to:TE):TE:=fun σ H Q=>to σ H fun x H1=>tyV K T x H1∧r x [] H1 Q
def tBM (K:PySem.W.Frag) (T:String) (r:V→List V→Hp→VK→Prop) (to:TE) (t:TA):TE:=fun σ H Q=>to σ H fun x H1=>tyV K T x H1∧t σ H1 fun xs H2=>r x xs H2 Q
variable {o e:Expr} {es:List Expr} {to:TE} {t:TA} {name:Str} {apos cpos:Pos} {T id:String} {r:V→List V→Hp→VK→Prop}
theorem UG (pa:PlainAttrs T) (slot:Slot T name id) (hty:typeOf (.builtin id)=pure (.type "method_descriptor")) (hm:MtR X id r) (ho:PE X o to) (ha:PA X (e::es) t)
  (hbase:attributeBase o name X.env (eval o X.env)=eval o X.env)
  (hfew:((backTo cpos (starEach (e::es) X.env)).all (fun x => !x.1)&&(backToKw cpos (keywordEach [] X.env)).all (fun x=>x.1.isSome)
   && decide ((e::es).length+([]:List Keyword).length+(if ([]:List Keyword).isEmpty then 0 else 1)<30))=true)
  (hline:(apos.endLine==cpos.line)=true) (hs:starEach (e::es) X.env=(false,eval e X.env)::starEach es X.env) (hplain:(backTo cpos (starEach es X.env)).any (·.1)=false) :
  PE X (.Call (.Attribute o name apos) (e::es) [] cpos) (tBM X.K T r to t):=by
 intro pins s σ H Q I h
 refine wpAny_Call_method_late hbase hfew hline rfl (thn (ho pins s σ H _ I h) fun v s1 ⟨x,H1,I1,r1,ty,q1⟩=>?_)
 obtain ⟨h1,h2⟩:=Ye4 I1 r1 ty
 refine ⟨T,id,pa,slot,hty,h1,h2,?_⟩
 have hA:=ha cpos pins s1 σ H1 _ I1 q1
 rw [hs] at hA ⊢
 refine Calls.callWith_builtin (by show (false||(backTo cpos (starEach es X.env)).any (·.1))=false;rw [hplain]<;>rfl) (Calls.evalArgs_plain ?_)
 exact thn hA fun us s2 ⟨vs,H2,I2,r2,q2⟩=>hm pins s2 σ H2 x vs v us Q I2 r1 r2 q2
/- xs.append(e),list.index on a module's tuple .. are MtR facts of 06m -/
end
end L2
namespace L2
open PySem PySem.Spec PyProof.Rows
def MtM (X:Cx) (id:String) (r:V→List V→Hp→VK→Prop):Prop :=
 ∀ (pins:List (Addr×Obj)) (s:Shared) (σ:St) (H:Hp) (x:V) (xs:List V) (v:Value) (us:List Value) (Q:VK),Inv X pins σ H s→YC x v→Yu xs us→r x xs H Q →
  wpAny (model X.prog X.w) X.A (call (.builtin id) (v::us)) (EP X pins σ Q) X.xe s
theorem Yu.one:∀ {x:V} {us:List Value},Yu [x] us→∃ u,us=[u]∧YC x u
 | _,_,.cons r .nil=>⟨_,rfl,r⟩
theorem Yu.two:∀ {x y:V} {us:List Value},Yu [x,y] us→∃ u v,us=[u,v]∧YC x u∧YC y v
 | _,_,_,.cons r (.cons q .nil)=>⟨_,_,rfl,r,q⟩
theorem Yu.zero:∀ {us:List Value},Yu [] us→us=[]
 | _,.nil=>rfl
theorem Yu.eraseIdx:∀ {xs:List V} {us:List Value} (i:Nat),Yu xs us→Yu (xs.eraseIdx i) (us.eraseIdx i)
 | _,_,_,.nil => .nil
 | _,_,0,.cons _ t=>t
 | _,_,i+1,.cons r t => .cons r (Yu.eraseIdx i t)
theorem Yu.reverse {xs:List V} {us:List Value} (h:Yu xs us):Yu xs.reverse us.reverse:=by
 induction h with
 | nil=>exact .nil
 | cons r t ih=>rw [List.reverse_cons,List.reverse_cons];exact Yu.append ih (.cons r .nil)
theorem Qk {α:Type}:∀ (l:List α) (i:Nat),(l.eraseIdx i).length≤l.length
 | [],_=>Nat.le_refl _
 | _::_,0=>Nat.le_succ _
 | _::r,i+1=>Nat.succ_le_succ (Qk r i)
section
variable {X:Cx} {pins:List (Addr×Obj)} {σ:St} {H:Hp} {s:Shared} {l b:Addr} {xs ys zs:List V}
theorem Inv.lset {its its':List Value} {n:Nat} {f:Array Value→Array Value} {t':Nat} (I:Inv X pins σ H s) (hH:H l=some (.lst xs))
  (e:s.heap.get? l=some { cls := .type "list",data := .seq its.toArray n }) (hf:f its.toArray=its'.toArray) (hv:Yu ys its') (hz:ys.length≤sizeLine) :
  Inv X pins σ (upd H l (.lst ys)) { s with heap:=s.heap.update l (Obj.mapSeq f),toks:=t' }:=by
 have q:=PySem.IsL.update e f
 rw [hf] at q
 refine I.write (x:=l) (e:=l) (by rw [hH];exact trivial) (.inl rfl) (fun b' u hb hu=>(Heap.get?_update_other s.heap (Obj.mapSeq f) (Ne.symm hb)).trans hu) ⟨_,q⟩ ?_
 exact ⟨hz,its',_,hv,q⟩
theorem Inv.lnew {its:List Value} {t':Nat} (I:Inv X pins σ H s) (hv:Yu ys its) (hz:ys.length≤sizeLine) :
  Inv X pins σ (upd H s.heap.objs.size (.lst ys)) { s with heap:=s.heap.push { cls := .type "list",data := .seq its.toArray },toks:=t' } :=
 I.laid (fun _ _ q=>Heap.get?_push_of_some _ q) (Nat.le_refl _) ⟨hz,its,0,hv,Heap.get?_push_size _ rfl⟩
theorem Inv.fresh (I:Inv X pins σ H s):H s.heap.objs.size=none:=I.hok.fresh (Nat.le_refl _)
theorem Inv.lstM (I:Inv X pins σ H s) (hH:H l=some (.lst xs)):xs.length≤sizeLine∧∃ (its:List Value) (n:Nat),Yu xs its∧xs.length=its.length∧s.heap.get? l=some { cls := .type "list",data := .seq its.toArray n }:=by
 obtain ⟨z,its,n,r,e⟩:=I.hok l _ hH
 exact ⟨z,its,n,r,r.length,e⟩
theorem Ydq {n:Nat} (h:n≤sizeLine):Builtin.List.listTooLong n=false:=by
 unfold Builtin.List.listTooLong
 exact decide_eq_false (by omega)
end
section
variable {X:Cx}
def Ybb:V→List V→Hp→VK→Prop:=fun x vs H Q=>∃ l xs y,x = .ref l∧vs=[y]∧H l=some (.lst xs)∧xs.length<sizeLine∧Q .non (upd H l (.lst (xs++[y])))
theorem WY:MtM X "list.append" Ybb:=by
 intro pins s σ H x vs v us Q I rx rv h
 obtain ⟨l,xs,y,rfl,rfl,hH,hz,q⟩:=h
 cases rx
 obtain ⟨u,rfl,ru⟩:=rv.one
 obtain ⟨z,its,n,r,hl,e⟩:=I.lstM hH
 refine call_meets F.slot_list_append ⟨_,e,rfl⟩ F.entry_list_append (F.args_list_append_2 _ _) (PySem.list_append l its.toArray n u (by rw [List.size_toArray];omega)) ⟨e,?_⟩
 refine ⟨.non,_,I.lset (its':=its++[u]) hH e (by simp) (r.append (.cons ru .nil)) ?_,rfl,q⟩
 rw [List.length_append,List.length_singleton]
 omega
def Ybc:V→List V→Hp→VK→Prop:=fun x vs H Q=>∃ l b xs zs,x = .ref l∧vs=[.ref b]∧H l=some (.lst xs)∧H b=some (.lst zs)∧xs.length+zs.length≤sizeLine∧Q .non (upd H l (.lst (xs++zs)))
theorem YcC:MtM X "list.extend" Ybc:=by
 intro pins s σ H x vs v us Q I rx rv h
 obtain ⟨l,b,xs,zs,rfl,rfl,hH,hB,hz,q⟩:=h
 cases rx
 obtain ⟨u,rfl,ru⟩:=rv.one
 cases ru
 obtain ⟨z,its,n,r,hl,e⟩:=I.lstM hH
 obtain ⟨z2,its2,n2,r2,hl2,e2⟩:=I.lstM hB
 have hsz:its.toArray.size+its2.toArray.size≤sizeLine:=by rw [List.size_toArray,List.size_toArray];omega
 have hlong:¬ (!its.toArray.isEmpty&&Builtin.List.listTooLong (its.toArray.size+its2.toArray.size))=true:=by
  rw [Ydq hsz,Bool.and_false]
  exact Bool.false_ne_true
 refine call_meets F.slot_list_extend ⟨_,e,rfl⟩ F.entry_list_extend (F.args_list_extend_2 _ _)
  (AutoSeq1.list_extend_list_list_0 l its.toArray n b its2.toArray n2 hlong (by rw [List.size_toArray];omega) (by omega)) ⟨e,e2,?_⟩
 refine ⟨.non,_,I.lset (its':=its++its2) hH e (by simp) (r.append r2) ?_,rfl,q⟩
 rw [List.length_append]
 omega
def Ye5:V→List V→Hp→VK→Prop:=fun x vs H Q=>∃ l xs i k y,x = .ref l∧vs=[.int i]∧H l=some (.lst xs) ∧ -(2^63)≤i∧i<2^63∧seqIndex? i xs.length=some k∧xs[k]?=some y∧Q y (upd H l (.lst (xs.eraseIdx k)))
theorem Ydr:MtM X "list.pop" Ye5:=by
 intro pins s σ H x vs v us Q I rx rv h
 obtain ⟨l,xs,i,k,y,rfl,rfl,hH,h1,h2,hk,hy,q⟩:=h
 cases rx
 obtain ⟨u,rfl,ru⟩:=rv.one
 obtain ⟨t,rfl⟩:=ru
 obtain ⟨z,its,n,r,hl,e⟩:=I.lstM hH
 obtain ⟨w,hw,rw'⟩:=r.get hy
 refine call_meets F.slot_list_pop ⟨_,e,rfl⟩ F.entry_list_pop (F.args_list_pop_2 _ _)
  (MeetsSeq.list_pop_at l its.toArray n i t k w (fitsIndex_both h1 h2) (by rw [List.size_toArray,← hl];exact hk) (by rw [← Array.getElem?_toList];exact hw) (by rw [List.size_toArray];omega)) ⟨e,?_⟩
 refine ⟨y,_,I.lset (its':=its.eraseIdx k) hH e ?_ (r.eraseIdx k) ?_,rw',q⟩
 ·show its.toArray.eraseIdxIfInBounds k=(its.eraseIdx k).toArray
  rw [List.eraseIdxIfInBounds_toArray]
 ·have:=Qk xs k
  omega
def Yds:V→List V→Hp→VK→Prop:=fun x vs H Q=>∃ l xs,x = .ref l∧vs=[]∧H l=some (.lst xs)∧Q .non (upd H l (.lst xs.reverse))
def rCat:R2:=fun x y H Q=>∃ l b xs zs,x = .ref l∧y = .ref b∧H l=some (.lst xs)∧H b=some (.lst zs)∧xs.length+zs.length≤sizeLine∧∀ p,H p=none→Q (.ref p) (upd H p (.lst (xs++zs)))
theorem YcD:OpR X (binaryOp .Add) rCat:=by
 intro pins s σ H x y v u Q I rx ry h
 obtain ⟨l,b,xs,zs,rfl,rfl,hH,hB,hz,q⟩:=h
 cases rx
 cases ry
 obtain ⟨z,its,n,r,hl,e⟩:=I.lstM hH
 obtain ⟨z2,its2,n2,r2,hl2,e2⟩:=I.lstM hB
 refine PySem.P.add_list e e2 ?_ (by rw [List.size_toArray,List.size_toArray];omega)
 have ea:its.toArray++its2.toArray=(its++its2).toArray:=by simp
 rw [ea]
 exact ⟨.ref _,_,I.lnew (t':=s.toks) (r.append r2) (by rw [List.length_append];omega),rfl,q _ I.fresh⟩
end
section
variable {prog:Program} {w:World} {A:Around} {E:Value→Shared→Prop} {s:Shared}
end
section
variable {X:Cx}
end
end L2
namespace Att
open PySem PySem.W PySem.Calls PyProof.Rows
theorem UH {P:Params} {h:Heap}:∀ (ns:List Int) (vs:List Value),WellAll P h vs (ns.map WData.int)→IntsAre vs ns:=by
 intro ns
 induction ns with
 | nil =>
  intro vs w
  rw [List.map_nil] at w
  cases w
  exact .nil
 | cons n ns ih =>
  intro vs w
  rw [List.map_cons] at w
  cases w with
  | cons a b =>
   cases a
   exact .cons _ _ (ih _ b)
theorem YcE {l:OpenLaw} {n:Nat} (hn:l.most=some n) {P:Params} {h:Heap} {args:List WData} {vals:List Value}
  (hpre:l.row.toRowW.claim.pre args=true) (hwl:WellAll P h vals args) :
  ∃ a vs ns,vals=[Value.ref a]∧args=[WData.list (ns.map WData.int)]∧h.get? a=some { cls := .type "list",data := .seq vs.toArray }∧IntsAre vs ns∧ns.length≤n:=by
 have hsh:WShape.hasAll [] args [.list .int]=true:=(pre_splitW hpre).1
 have hc:l.pre.holds [] { args:=args }=true:=(pre_splitW hpre).2
 obtain ⟨d,r,rfl,h1,h2⟩:=hasAllW_cons hsh
 obtain rfl:=hasAllW_nil h2
 obtain ⟨xs,rfl,h3⟩:=hasW_list h1
 obtain ⟨ns,rfl⟩:=items_int h3
 have hlen:ns.length≤n:=by
  unfold OpenLaw.pre at hc
  have h4:(WTm.not (.lt (.lit (.int (n:Int))) (.len (.arg 0)))).holds [] { args:=[.list (ns.map .int)] }=true:=by
   have h4:=(holds_andW hc).1
   rw [hn] at h4
   exact h4
  have h5:=condW_of h4 (w_not (w_lt w_lit (w_len_list (w_arg rfl))))
  rw [List.length_map] at h5
  refine Nat.le_of_not_lt fun q=>?_
  have q':(n:Int)<((ns.length:Nat):Int):=by omega
  first
   | (rw [decide_eq_true q'] at h5;exact absurd h5 (by decide))
   | (simp at h5;omega)
 cases hwl with
 | cons w1 w2 =>
  cases w2
  cases w1 with
  | list ho hall=>exact ⟨_,_,ns,rfl,rfl,ho,UH ns _ hall,hlen⟩
theorem YcF (l:OpenLaw) (args:List WData):l.row.toRowW.claim.post args (.bool true) args=true :=
 postW_of (r:=l.row.toRowW) (X:=(true==true))
  (show WShape.has [] (.bool true) .bool=true by first | rfl | decide | simp [WShape.has,WShape.arms,WShape.armsAll])
  (show (WTm.eq .res (.lit (.bool true))).value [] { args:=args,res:=some (.bool true),after:=args }=some (.bool (true==true)) from w_eq_bool (w_res rfl) w_lit) rfl
theorem attach_call {l:OpenLaw} {n:Nat} {q:Program} {loose:List Str} {XP:(Str→Option Value)→Heap→Prop} {YP:World→Heap→Prop} {d:DefRec}
  (hn:l.most=some n) (hdf:d.params.defaults=[])
  (call:∀ (w:World) (s₀ s₁:Shared) (mg mb:Str→Option Value) (fa:Addr) (o:Obj) (pm cd doc:Value) (a:Addr) (vs:List Value) (ns:List Int),
   Ground q loose [] XP w s₀ mg mb s₁.heap→YP w s₁.heap →
   s₁.heap.get? fa=some o→o.data = .func (docDef d.name d.params d.body d.scope pm cd doc)→s₁.heap.CodeRec cd d.name→mg d.name=some (.ref fa) →
   s₁.heap.get? a=some { cls := .type "list",data := .seq vs.toArray }→IntsAre vs ns→ns.length≤n→s₁.gens=#[] →
   codeAny (model l.prog w) callerA (.call (.ref fa) ⟨[.ref a],[]⟩) (fun r s'=>r = .ok (.ret (.bool true))∧OldK s₁.heap s'.heap∧s'.os=s₁.os∧AllBare s'.gens) s₁) :
  WalkO q loose XP YP l.row.toRowW d [] (fun f vs=>PySem.call f vs):=by
 intro w s₀ s₁ mg mb G Y fa o pm cd doc dV kV ho hd hcd hD hmg hg args vals as hpre hlay hrd hwl hlo
 obtain rfl:dV = .none:=Dflts.none hD hdf
 obtain rfl:kV = .none:=Dflts.noKw hD
 obtain ⟨a,vs,ns,rfl,rfl,hobj,hints,hlen⟩:=YcE hn hpre hwl
 refine enter_call (codeAny_mono (call w s₀ s₁ mg mb fa o pm cd doc a vs ns G Y ho (fd_plain hd) hcd hmg hobj hints hlen hg) fun r s' hq=>?_)
 obtain ⟨rfl,h2,h3,h4⟩:=hq
 exact ⟨.inl ⟨.bool true,.bool true,[],rfl,fun _=>rfl,.bool true,YcF l _,fun _=>⟨List.Pairwise.nil,fun _ hm=>(nomatch hm)⟩⟩,h2,h3,h4⟩
section
variable {prog:Program} {w:World} {A:Around} {E:Value→Shared→Prop} {s:Shared} {K:Frag}
def ledger (h:Heap) (L d:Addr):List (Addr×Obj):=(List.range h.objs.size).filterMap fun a=>if a=L∨a=d then none else (h.get? a).map fun o=>(a,o)
end
end Att
namespace L2
open PySem PySem.Spec PyProof.Rows
theorem Ql:∀ {vs:List Value} {ns:List Int},IntsAre vs ns→Yu (ns.map V.int) vs
 | _,_,.nil => .nil
 | _,_,.cons n t h => .cons ⟨t,rfl⟩ (Ql h)
end L2
namespace L2
open PySem PySem.Spec PyProof.Rows
end L2
namespace L2
open PySem PySem.Spec PyProof.Rows
def Yen (s:Stmt) (j:Nat):Stmt:=match s with
 | .ClassDef _ _ _ body _ _ _ _ _ _ _=>body.getD j (.Pass ⟨0,0,0,0⟩)
 | _ => .Pass ⟨0,0,0,0⟩
def Xv (s:Stmt):Arguments:=match s with
 | .FunctionDef _ a _ _ _ _ _ _ _ _=>a
 | _=>{ posonlyargs:=[],args:=[],vararg:=none,kwonlyargs:=[],kw_defaults:=[],kwarg:=none,defaults:=[] }
def Xa (s:Stmt):List Stmt:=match s with
 | .FunctionDef _ _ b _ _ _ _ _ _ _=>b
 | _=>[]
def Yn (s:Stmt):Scope:=match s with
 | .FunctionDef _ _ _ _ _ _ sc _ _ _=>sc
 | _=>{ kind := .function,names:=[],isGenerator:=false,isCoroutine:=false }
abbrev CX0:CXT:=fun _ _ _ _ _ _=>False
abbrev E0:XK:=fun _ _ _=>False
theorem QF {X:Cx}:Vb CX0 X E0:=fun _ _ _ _ _ _ _ h=>h.elim
structure Fun (K:PySem.W.Frag) (x qual:Str) (st:Stmt) (f:Addr) (fd:FuncData):Prop where
 ex:∃ (oc:Value) (od:Option Addr) (kV doc pm:Value) (an:Option Addr) (cdv ct:Value) (osl:Array (Option Value)),
  fd=PySem.W.fnOf x qual (Xv st) (Xa st) (Yn st) .none kV doc pm an cdv ct∧K.lookup f=some ⟨oc,od,.func fd,osl⟩∧PySem.W.codeIn K cdv qual=true
 kp:PySem.W.keepIn K (.ref f)=true
section
variable {P:Program} {w:World} {K:PySem.W.Frag} {mg:Str→Option Value} {base:Heap}
theorem Fun.ok {x qual:Str} {st:Stmt} {f:Addr} {fd:FuncData} {N ps:List Str} {k:Nat} {sp:Sp} (F:Fun K x qual st f fd) (S:FnScope N ps (Yn st)) (len:∀ vs H Q E,sp vs H Q E→vs.length=ps.length)
  (hbody:∀ (cdv:Value) (A:Around) (outer:List Env) (s:Shared) (H:Hp) (vs:List V) (Q:VK) (E:XK),Room k (A.deeper (envOfC qual (Yn st) s.heap.objs.size f cdv))→sp vs H Q E →
   ∃ t,PSs (W4 CX0 P w K mg base N qual (Yn st) f cdv A outer s H E).nox (Xa st) t∧t { nx:=fun _ H'=>Q .non H',rt:=Q } (start N vs) H):FnOk P w K mg base CX0 (k+1) f fd ps sp:=by
 obtain ⟨oc,od,kV,doc,pm,an,cdv,ct,osl,rfl,lk,hcd⟩:=F.ex
 refine YbL lk hcd S len fun A outer s H vs Q E hr hsp=>?_
 obtain ⟨t,h,q⟩:=hbody cdv A outer s H vs Q E hr hsp
 exact ⟨t,h.nox,q⟩
theorem Fun.binds {x qual:Str} {st:Stmt} {f:Addr} {fd:FuncData} {ps:List Str} (F:Fun K x qual st f fd)
  (h:∀ (kV doc pm:Value) (an:Option Addr) (cdv ct:Value) (us:List Value),us.length=ps.length→bindArgs (PySem.W.fnOf x qual (Xv st) (Xa st) (Yn st) .none kV doc pm an cdv ct) ⟨us,[]⟩=pure (ps.zip us)):XC K fd ps []:=by
 obtain ⟨oc,od,kV,doc,pm,an,cdv,ct,osl,rfl,lk,hcd⟩:=F.ex
 exact .all (h kV doc pm an cdv ct)
theorem UI {x qual:Str} {st:Stmt} {f:Addr} {oc:Value} {od an:Option Addr} {osl:Array (Option Value)} {kV doc pm cdv ct:Value} (l:K.lookup f=some ⟨oc,od,.func (PySem.W.fnOf x qual (Xv st) (Xa st) (Yn st) .none kV doc pm an cdv ct),osl⟩)
  (c:PySem.W.codeIn K cdv qual=true) (k:PySem.W.keepIn K (.ref f)=true):Fun K x qual st f (PySem.W.fnOf x qual (Xv st) (Xa st) (Yn st) .none kV doc pm an cdv ct):=⟨⟨oc,od,kV,doc,pm,an,cdv,ct,osl,rfl,l,c⟩,k⟩
end
section
variable {X:Cx}
theorem pv (i:Nat) {x:Str} {pos:Pos} (hN:X.N[i]?=some x:=by rfl) (hv:Vis X.env.scope x:=by first | exact .inl rfl | exact .inr (.inl rfl) | exact .inr (.inr rfl)) (hd:(x==("__debug__":Str))=false:=by decide)
  (hcd:(x==("__classdict__":Str))=false:=by decide):PE X (.Name x pos) (Wd i):=QR hN hv hd hcd
end
theorem XR {A B:Prop} (h:B):if false=true then A else B:=by
 rw [if_neg Bool.false_ne_true]
 exact h
theorem VQ {A B:Prop} (h:A):if true=true then A else B:=by
 rw [if_pos rfl]
 exact h
theorem YB {c A B:Prop} [Decidable c] (h1:c→A) (h2:¬ c→B):if c then A else B:=by
 by_cases h:c
 ·rw [if_pos h]
  exact h1 h
 ·rw [if_neg h]
  exact h2 h
def Yf (H H':Hp):Prop:=∀ b o,H b=some o→H' b=some o
theorem Yf.refl (H:Hp):Yf H H:=fun _ _ h=>h
theorem Yf.trans {H H1 H2:Hp} (a:Yf H H1) (b:Yf H1 H2):Yf H H2:=fun c o h=>b c o (a c o h)
theorem Yf.free {H H':Hp} (e:Yf H H') {l:Addr} (h:H' l=Option.none):H l=Option.none:=by
 cases q:H l with
 | none=>rfl
 | some o =>
  rw [e l o q] at h
  cases h
theorem Yf.seq {K:PySem.W.Frag} {H H':Hp} {a:Addr} {xs:List V} (e:Yf H H') (h:SqL K H a xs):SqL K H' a xs:=by
 rcases h with (h | ⟨o,h⟩) | h
 ·exact .inl (.inl (e _ _ h))
 ·exact .inl (.inr ⟨o,e _ _ h⟩)
 ·exact .inr h
end L2
namespace L2
open PySem PySem.Spec PyProof.Rows
section
variable {κ:Type} [DecidableEq κ]
theorem KV.any {kvs:List (κ×V)} {vs:List (κ×Value)} (r:KV kvs vs) (k:κ):(kvs.any fun kv=>decide (kv.1=k))=vs.any fun kv=>decide (kv.1=k):=by
 unfold KV at r
 induction r with
 | nil=>rfl
 | cons h t ih=>rw [List.any_cons,List.any_cons,ih,h.1]
theorem KV.keys {kvs:List (κ×V)} {vs:List (κ×Value)} (r:KV kvs vs):kvs.map (·.1)=vs.map (·.1):=by
 unfold KV at r
 induction r with
 | nil=>rfl
 | cons h t ih=>rw [List.map_cons,List.map_cons,ih,h.1]
theorem KV.length {kvs:List (κ×V)} {vs:List (κ×Value)} (r:KV kvs vs):kvs.length=vs.length:=Paired.length r
end
theorem Yd8 {P:Program} {w:World} {k:Key} {u:Value} (r:YC (kV k) u):(XU P w).is k u=true:=by
 cases k with
 | inl i=>obtain ⟨t,e⟩:=(show ∃ t,u=Value.int i t from r);subst e;exact YaO P w i t
 | inr x=>obtain ⟨t,e⟩:=(show ∃ t,u=Value.str x t from r);subst e;exact YaP P w x t
abbrev KT (H:Hp):List (List Key×V)→List (List Key×Addr×Value)→Prop:=Paired fun p q=>p.1=q.1∧H q.2.1=some (.tup (p.1.map kV))∧YC p.2 q.2.2
theorem KT.keeps {H H':Hp} {kvs:List (List Key×V)} {xs:List (List Key×Addr×Value)} (r:KT H kvs xs) (ht:∀ b ys,H b=some (.tup ys)→H' b=some (.tup ys)):KT H' kvs xs :=
 Paired.mapP r fun _ _ z=>⟨z.1,ht _ _ z.2.1,z.2.2⟩
section
variable {P:Program} {w:World} {H:Hp} {h:Heap} {a:Addr}
end
section
variable {X:Cx} {pins:List (Addr×Obj)} {σ:St} {H:Hp} {s:Shared} {a:Addr} {y v:V} {u r:Value} {o:Option V} {A:Around} {E:Value→Shared→Prop}
end
section
variable {X:Cx} {pins:List (Addr×Obj)} {σ:St} {H:Hp} {s:Shared} {a:Addr} {kvs:List (Key×V)} {k:Key} {u:Value} {A:Around} {E:Value→Shared→Prop}
end
section
variable {X:Cx} {o i e value:Expr} {pos pos' tpos:Pos} {td ty tv:TE}
end
section
variable {X:Cx} {pos:Pos}
end
section
variable {X:Cx} {pins:List (Addr×Obj)} {σ:St} {H:Hp} {s:Shared} {a:Addr} {y d:V} {u r:Value} {o:Option V} {A:Around} {E:Value→Shared→Prop}
end
section
variable {X:Cx} {o e f:Expr} {apos cpos:Pos} {td ty tx:TE}
end
section
variable {X:Cx} {pins:List (Addr×Obj)} {σ:St} {H:Hp} {s:Shared} {a:Addr} {kvs:List (Key×V)} {A:Around} {E:Value→Shared→Prop}
end
section
variable {X:Cx} {pins:List (Addr×Obj)} {σ:St} {H:Hp} {s:Shared} {a:Addr} {y:V} {u:Value} {A:Around} {E:Value→Shared→Prop}
end
end L2
namespace L2
open PySem PySem.Spec PyProof.Rows
theorem WL (env:Env):∀ (names:List (Str×NameKind)) (cs:List (Str×Addr)),(∀ x,(x,NameKind.free)∈names→∃ c,env.cells.lookup x=some c) →
  ∃ cl,(forIn names cs fun (p:Str×NameKind) (cs:List (Str×Addr))=>(if (p.2==NameKind.free)=true then (do let c ← cellOf env p.1;pure (ForInStep.yield ((p.1,c)::cs))) else pure (ForInStep.yield cs):Sem (ForInStep (List (Str×Addr)))))=pure cl ∧
   (∀ x c,cl.lookup x=some c→env.cells.lookup x=some c∨cs.lookup x=some c)∧(∀ x,(x,NameKind.free)∈names→∃ c,cl.lookup x=some c)∧(∀ x c,cs.lookup x=some c→∃ d,cl.lookup x=some d)
 | [],cs,_=>⟨cs,by simp,fun _ _ h => .inr h,(fun _ h=>nomatch h),fun x c h=>⟨c,h⟩⟩
 | (n,k)::r,cs,h=>by
  by_cases hk:k=NameKind.free
  ·subst hk
   obtain ⟨c,hc⟩:=h n (List.mem_cons_self ..)
   obtain ⟨cl,e,a,b,d⟩:=WL env r ((n,c)::cs) (fun x hx=>h x (List.mem_cons_of_mem _ hx))
   have hcell:cellOf env n=pure c:=by unfold cellOf;rw [hc]
   refine ⟨cl,?_,fun x c' hx=>?_,fun x hx=>?_,fun x c' hx=>?_⟩
   ·rw [List.forIn_cons]
    simp only [beq_self_eq_true,if_true,hcell,pure_bind]
    exact e
   ·rcases a x c' hx with q | q
    ·exact .inl q
    ·rw [List.lookup_cons] at q
     by_cases hxn:(x==n)=true
     ·rw [hxn] at q
      have hx':x=n:=by simpa using hxn
      subst hx'
      have:c=c':=by simpa using q
      subst this
      exact .inl hc
     ·rw [Bool.eq_false_iff.mpr hxn] at q
      exact .inr q
   ·rcases List.mem_cons.mp hx with q | q
    ·have hx':x=n:=congrArg Prod.fst q
     subst hx'
     exact d x c (by rw [List.lookup_cons];simp)
    ·exact b x q
   ·have:∃ d',((n,c)::cs).lookup x=some d':=by
     rw [List.lookup_cons]
     by_cases hxn:(x==n)=true
     ·rw [hxn];exact ⟨c,rfl⟩
     ·rw [Bool.eq_false_iff.mpr hxn];exact ⟨c',hx⟩
    obtain ⟨d',hd'⟩:=this
    exact d x d' hd'
  ·obtain ⟨cl,e,a,b,d⟩:=WL env r cs (fun x hx=>h x (List.mem_cons_of_mem _ hx))
   have hkf:(k==NameKind.free)=false:=by simpa using hk
   refine ⟨cl,?_,a,fun x hx=>?_,d⟩
   ·rw [List.forIn_cons]
    simp only [hkf,Bool.false_eq_true,if_false,pure_bind]
    exact e
   ·rcases List.mem_cons.mp hx with q | q
    ·exact absurd (congrArg Prod.snd q).symm hk
    ·exact b x q
theorem UJ (env:Env) (scope:Scope) (h:∀ x,(x,NameKind.free)∈scope.names→∃ c,env.cells.lookup x=some c) :
  ∃ cl,closureFor scope env=pure cl∧(∀ x c,cl.lookup x=some c→env.cells.lookup x=some c)∧(∀ x,(x,NameKind.free)∈scope.names→∃ c,cl.lookup x=some c):=by
 obtain ⟨cl,e,a,b,_⟩:=WL env scope.names [] h
 refine ⟨cl,?_,fun x c hx=>(a x c hx).elim id (fun z=>by simp at z),b⟩
 unfold closureFor
 simp only [bind_pure]
 exact e
def cxC (X:Cx) (scope:Scope) (N':List Str) (cl:List (Str×Addr)) (C:Addr) (s₀:Shared) (H₀:Hp) (fp:List Addr) (pn:List (Addr×Obj)):Cx :=
 { X with N:=N',s₀:=s₀,H₀:=H₀,env:=compEnvC scope cl C X.env,outer:=X.stack,ex:=fp,fn:=fun _=>false,pn:=pn,xe:=fun _ _=>False }
inductive Cap (X:Cx) (scope:Scope):List (Option Nat)→List Str→Prop
 | nil:Cap X scope [] []
 | own {x src N'}:Cap X scope src N'→Cap X scope (none::src) (x::N')
 | cap {x i src N'}:X.N[i]?=some x→scope.names.lookup x=some NameKind.free→(X.env.scope.names.lookup x=some NameKind.cell∨X.env.scope.names.lookup x=some NameKind.free)→Cap X scope src N'→Cap X scope (some i::src) (x::N')
def YN (src:List (Option Nat)) (σ:St):St:=src.map fun o=>match o with | none=>none | some i=>σ.getD i none
theorem Cap.length {X:Cx} {scope:Scope}:∀ {src:List (Option Nat)} {N':List Str},Cap X scope src N'→src.length=N'.length
 | _,_,.nil=>rfl
 | _,_,.own h=>congrArg (·+1) h.length
 | _,_,.cap _ _ _ h=>congrArg (·+1) h.length
theorem Cap.get {X:Cx} {scope:Scope} {σ:St}:∀ {src:List (Option Nat)} {N':List Str},Cap X scope src N'→∀ (j:Nat) (x:Str) (v:V),N'[j]?=some x→(YN src σ)[j]?=some (some v) →
  ∃ i:Nat,X.N[i]?=some x∧σ[i]?=some (some v)∧scope.names.lookup x=some NameKind.free∧(X.env.scope.names.lookup x=some NameKind.cell∨X.env.scope.names.lookup x=some NameKind.free)
 | _,_,.nil,j,x,v,h,_=>by simp at h
 | _,_,.own h,0,x,v,_,e=>by simp [YN] at e
 | _,_,.own h,j+1,x,v,e1,e2=>h.get j x v (by simpa using e1) (by simpa [YN] using e2)
 | _,_,.cap (x:=y) (i:=i) hN hf hk h,0,x,v,e1,e2=>by
  have ex:y=x:=by simpa using e1
  subst ex
  refine ⟨i,hN,?_,hf,hk⟩
  simp only [YN,List.map_cons,List.getElem?_cons_zero,Option.some.injEq] at e2
  rw [List.getD_eq_getElem?_getD] at e2
  cases q:σ[i]? with
  | none=>rw [q] at e2;simp at e2
  | some o=>rw [q] at e2;simp at e2;rw [e2]
 | _,_,.cap hN hf hk h,j+1,x,v,e1,e2=>h.get j x v (by simpa using e1) (by simpa [YN] using e2)
theorem Ve (env:Env) (x:Str):∀ {names:List (Str×NameKind)},
  (names.map fun (n,k)=>if (k==NameKind.free&&env.scope.kind == .function&&env.kindOf n==some .cell) then (n,NameKind.cell) else (n,k)).lookup x =
   (names.lookup x).map fun k=>if (k==NameKind.free&&env.scope.kind == .function&&env.kindOf x==some .cell) then NameKind.cell else k
 | []=>rfl
 | (n,k)::r=>by
  have ih:=@Ve env x r
  rw [List.map_cons]
  dsimp only
  by_cases hx:(x==n)=true
  ·have e:x=n:=by simpa using hx
   subst e
   by_cases hc:(k==NameKind.free&&env.scope.kind == .function&&env.kindOf x==some .cell)=true
   ·rw [if_pos hc,List.lookup_cons,List.lookup_cons,hx]
    simp only [Option.map_some]
    rw [if_pos hc]
   ·rw [if_neg hc,List.lookup_cons,List.lookup_cons,hx]
    simp only [Option.map_some]
    rw [if_neg hc]
  ·have hx':=Bool.eq_false_iff.mpr hx
   by_cases hc:(k==NameKind.free&&env.scope.kind == .function&&env.kindOf n==some .cell)=true
   ·rw [if_pos hc];simp only [List.lookup_cons,hx'];exact ih
   ·rw [if_neg hc];simp only [List.lookup_cons,hx'];exact ih
theorem WZ {names:List (Str×NameKind)} {x:Str} (h:names.lookup x=some NameKind.free):(x,NameKind.free)∈names:=PySem.mem_of_lookup h
section
variable {X:Cx}
theorem Q3 {scope:Scope} {N':List Str} {src:List (Option Nat)} {cl:List (Str×Addr)} {pins:List (Addr×Obj)} {σ:St} {H:Hp} {s s':Shared} {h':Heap} {tk:Nat} {fp:List Addr} {m:Str→Option Value}
  (hk:scope.kind = .function) (hcell:∀ y∈scope.names,y.2 ≠ .cell) (hcap:Cap X scope src N')
  (a:∀ x c,cl.lookup x=some c→X.env.cells.lookup x=some c) (b:∀ x,(x,NameKind.free)∈scope.names→∃ c,cl.lookup x=some c)
  (I:Inv X pins σ H s) (hf:∀ b∈fp,X3 X pins H b) (hfl:∀ b∈fp,b<s.heap.objs.size) (es':s'={ s with heap:=h',toks:=tk })
  (keep:∀ b o,s.heap.get? b=some o→h'.get? b=some o) (hn:h'.Ns s.heap.objs.size m) :
  Inv (cxC X scope N' cl s.heap.objs.size s H fp (X.pn++pins)) [] (YN src σ) H s':=by
 subst es'
 have kindOf:∀ x,(compEnvC scope cl s.heap.objs.size X.env).kindOf x=(scope.names.lookup x).map fun k=>if (k==NameKind.free&&X.env.scope.kind == .function&&X.env.kindOf x==some .cell) then NameKind.cell else k:=fun x=>Ve X.env x
 have freeOf:∀ x,((compEnvC scope cl s.heap.objs.size X.env).kindOf x=some .cell∨(compEnvC scope cl s.heap.objs.size X.env).kindOf x=some .free)→scope.names.lookup x=some .free:=fun x h=>by
  rw [kindOf] at h
  cases q:scope.names.lookup x with
  | none=>rw [q] at h;simp at h
  | some k =>
   rw [q] at h
   by_cases hkf:k=NameKind.free
   ·rw [hkf]
   ·have hkf':(k==NameKind.free)=false:=by simpa using hkf
    simp only [Option.map_some,hkf',Bool.false_and,Bool.false_eq_true,if_false] at h
    rcases h with h | h
    ·exact absurd (Option.some.inj h) (hcell _ (PySem.mem_of_lookup q))
    ·exact absurd (Option.some.inj h) hkf
 refine ⟨⟨I.ok.mod,hk,I.ok.glob,I.ok.blt,Nat.le_refl _,fun x y c h1 h2=>I.ok.inj x y c (a x c h1) (a y c h2),fun x hx=>b x (WZ (freeOf x hx)),(fun x c z _=>nomatch z),I.ok.hd,I.ok.frames,.inl rfl,fun b' hb=>?_,I.bs,Nat.le_trans I.ok.bsz I.sz,fun b' o e hb=>?_,fun b' hb z=>?_,I.stack,I.stkFree⟩,
  rfl,I.bare,Un.kept keep,⟨m,hn,fun j x v h1 h2 h3=>?_⟩,fun x c h=>?_,I.hok.fresh (Nat.le_refl _),fun x c h=>I.freeC x c (a x c h),fun p hp=>?_,I.hok.kept keep,?_⟩
 ·obtain ⟨f0,f1,f2,f3,f4,f5⟩:=hf b' hb
  exact ⟨Nat.ne_of_lt (hfl b' hb),fun x c h=>f4 x c (a x c h)⟩
 ·obtain ⟨f0,f1,f2,f3,f4,f5⟩:=hf b' hb
  rcases f3 with z | z
  ·exact I.ok.noex b' o e z
  ·exact absurd (Nat.lt_of_lt_of_le (Heap.lt_size e) (Nat.le_trans I.ok.bsz z)) (Nat.lt_irrefl _)
 ·obtain ⟨f0,f1,f2,f3,f4,f5⟩:=hf b' hb
  rcases List.mem_cons.mp (I.stkSub b' z) with e | e
  ·exact f1 e
  ·exact f2 e
 ·obtain ⟨i,e1,e2,e3,e4⟩:=hcap.get j x v h1 h2
  obtain ⟨m0,hn0,hl⟩:=I.loc
  obtain ⟨u,r,l⟩:=hl i x v e1 e2 (by rcases e4 with e4 | e4;exact .inr (.inl e4);exact .inr (.inr e4))
  refine ⟨u,r,?_⟩
  rcases l with ⟨l,_⟩ | ⟨k,c,e,z⟩
  ·have l':X.env.scope.names.lookup x=some NameKind.local:=l
   rcases e4 with e4 | e4<;>(rw [e4] at l';cases l')
  ·refine .inr ⟨?_,?_⟩
   ·show (compEnvC scope cl s.heap.objs.size X.env).kindOf x=some .cell∨(compEnvC scope cl s.heap.objs.size X.env).kindOf x=some .free
    rw [kindOf,e3]
    simp only [Option.map_some]
    split
    ·exact .inl rfl
    ·exact .inr rfl
   ·obtain ⟨c',hc'⟩:=b x (WZ e3)
    have:=a x c' hc'
    rw [e] at this
    cases this
    obtain ⟨o,ho,hd⟩:=z
    exact ⟨c,hc',o,keep _ _ ho,hd⟩
 ·obtain ⟨v,o,ho,hd⟩:=I.cell x c (a x c h)
  exact ⟨v,o,keep _ _ ho,hd⟩
 ·have hp':p∈X.pn++pins:=by simpa [cxC] using hp
  obtain ⟨e,n,ne,nf,d⟩:=I.pin p hp'
  refine ⟨keep _ _ e,n,Nat.ne_of_lt (Heap.lt_size e),fun z=>?_,d⟩
  rcases List.mem_cons.mp (I.stkSub p.1 z) with q | q
  ·exact ne q
  ·exact nf q
 ·show (YN src σ).length=N'.length
  rw [← hcap.length]
  simp [YN]
end
end L2
namespace L2
open PySem PySem.Spec PyProof.Rows
section
variable {prog:Program} {w:World} {A:Around} {R:Result→Shared→Prop} {s:Shared}
theorem Qm {elt tg iter:Expr} {ifs:List Expr} {scope:Scope} {pos:Pos} {it acc:Value} {env:Env} (J:Nat→Shared→Prop)
  (turn:∀ n s,J n s→wpAny (model prog w) A (pyNext it) (fun r s₁=>match r with
    | none=>R (.ok .next) s₁
    | some v=>wpAny (model prog w) A (letOwnedTupleGo tg it v) (fun _ z₁=>wpAny (model prog w) A (assign tg env v) (fun _ s₂ =>
      wpAny (model prog w) A (forIn ifs true fun c r=>if r=true then do let ok ← isTrue c env (eval c env);pure (ForInStep.yield ok) else pure (ForInStep.yield r))
       (fun ok s₃=>if ok=true then wpAny (model prog w) A (eval elt env) (fun x s₄=>wpAny (model prog w) A (call (.builtin "list.append") [acc,x]) (fun _ s₅=>∃ m,m<n∧J m s₅) (fun _ _=>False) s₄) (fun _ _=>False) s₃
        else ∃ m,m<n∧J m s₃) (fun _ _=>False) s₂) (fun _ _=>False) z₁) (fun _ _=>False) s₁) (fun _ _=>False) s)
  (n:Nat) (h:J n s):codeAny (model prog w) A (.compLoop (.ListComp elt [⟨tg,iter,ifs,0⟩] scope pos) 0 it acc env) R s:=by
 refine codeAny_loop rfl J (fun n s hJ=>?_) n h
 show wpAny _ A (Sem.onRaise (compTurn (.ListComp elt [⟨tg,iter,ifs,0⟩] scope pos) 0 it acc env) (fun x=>do noteFrame x env;theTreesLotGoes x)) _ _ s
 refine wpAny_noted ?_
 rw [compTurn_list]
 have no:∀ {E:Value→Shared→Prop},∀ (e:Value) (s':Shared),False→E e s':=fun _ _ f=>f.elim
 refine wpAny_bind (wpAny_standAt (wpAny_bind (wpAny_mono (turn n s hJ) (fun r s₁ h₁=>?_) no)))
 cases r with
 | none=>exact wpAny_pure h₁
 | some v =>
  refine wpAny_bind (wpAny_mono h₁ (fun _ z₁ hz=>?_) no)
  refine wpAny_bind (wpAny_mono hz (fun _ s₂ h₂=>wpAny_bind (wpAny_mono h₂ (fun ok s₃ h₃=>?_) no)) no)
  cases ok with
  | false=>exact wpAny_pure ⟨rfl,h₃⟩
  | true =>
   exact wpAny_bind (wpAny_bind (wpAny_mono h₃ (fun x s₄ h₄=>wpAny_bind (wpAny_mono h₄ (fun _ s₅ h₅=>wpAny_pure (wpAny_pure ⟨rfl,h₅⟩)) no)) no))
end
def PTs (X:Cx) (ifs:List Expr) (t:TT):Prop :=
 ∀ (pins:List (Addr×Obj)) (s:Shared) (σ:St) (H:Hp) (Q:Bool→Hp→Prop),Inv X pins σ H s→t σ H Q →
  wpAny (model X.prog X.w) X.A (forIn ifs true fun c r=>if r=true then do let ok ← isTrue c X.env (eval c X.env);pure (ForInStep.yield ok) else pure (ForInStep.yield r)) (TP X pins σ Q) X.xe s
def XN:TT:=fun _ H Q=>Q true H
theorem Xw {X:Cx}:PTs X [] XN:=fun _ _ _ H _ I h=>wpAny_tests_nil ⟨H,I,h⟩
def LC (src:List (Option Nat)) (J:It) (g:TG) (tt:TT) (te:TE) (σ:St) (H1:Hp) (Q:VK) (D:Addr):Prop:=∃ W:Nat→Nat→List V→St→Hp→Prop,(∃ m,W 0 m [] (YN src σ) (upd H1 D (.lst []))) ∧
 ∀ i m ys σ' H2,W i m ys σ' H2→H2 D=some (.lst ys)∧((J.stop i H2∧Q (.ref D) H2)∨(J.go i H2∧∃ N:List V→St→Hp→Prop,(∀ ys' σ3 H3,N ys' σ3 H3→∃ m',m'<m∧W (i+1) m' ys' σ3 H3)∧∀ x H3,J.yld i H2 x H3→g x σ' H3 fun σ2 H4=>tt σ2 H4 fun b H5 =>
  if b=true then te σ2 H5 fun y H6=>H6 D=some (.lst ys)∧ys.length<sizeLine∧N (ys++[y]) σ2 (upd H6 D (.lst (ys++[y])))
  else N ys σ2 H5))
def tLC (src:List (Option Nat)) (wi:TI) (g:TG) (tt:TT) (te:TE):TE:=fun σ H Q=>wi σ H fun J H1=>∀ D,H1 D=none→LC src J g tt te σ H1 Q D
section
variable {X:Cx}
theorem W0 {elt tg iter:Expr} {ifs:List Expr} {scope:Scope} {pos:Pos} {src:List (Option Nat)} {N':List Str} {wi:TI} {g:TG} {tt:TT} {te:TE} (hcap:Cap X scope src N') (hc:X.calm=true) (hi:PI X tg iter wi)
  (hg:∀ cl C s₀ H₀ fp pn,PG (cxC X scope N' cl C s₀ H₀ fp pn) tg g) (ht:∀ cl C s₀ H₀ fp pn,PTs (cxC X scope N' cl C s₀ H₀ fp pn) ifs tt) (he:∀ cl C s₀ H₀ fp pn,PE (cxC X scope N' cl C s₀ H₀ fp pn) elt te)
  (hfree:∀ x,(x,NameKind.free)∈scope.names→X.env.scope.names.lookup x=some NameKind.cell∨X.env.scope.names.lookup x=some NameKind.free)
  (hk:scope.kind = .function) (hcell:∀ y∈scope.names,y.2 ≠ .cell) (hnames:∀ y∈scope.names,y.2 = .local→scope.names.lookup y.1=some .local)
  (hs:∀ x,foldedSetIterable iter X.env x=pure x):PE X (.ListComp elt [⟨tg,iter,ifs,0⟩] scope pos) (tLC src wi g tt te):=by
 intro pins s σ H Q I h
 have no:∀ {E:Value→Shared→Prop},∀ (e:Value) (s':Shared),False→E e s':=fun _ _ f=>f.elim
 obtain ⟨cl,hcl,a,b⟩:=UJ X.env scope fun x hx=>I.ok.has x (hfree x hx)
 rw [eval_ListComp]
 refine wpAny_comprehension_free (use:=none) rfl hs hcl hk hnames (thn (hi pins s σ H _ I h) fun v s1 h1=>thn h1 fun itv s2 h2=>?_)
 obtain ⟨it,fp,tn,J,H2,e,I2,T,st2,f2,q⟩:=h2
 subst e
 have hD:H2 s2.heap.objs.size=none:=I2.hok.fresh (Nat.le_refl _)
 obtain ⟨W,⟨m0,w0⟩,turn⟩:=q s2.heap.objs.size hD
 have I3:=I2.lnew (t':=s2.toks) (ys:=[]) (its:=[]) .nil (Nat.zero_le _)
 have fl2:∀ b∈fp,b<s2.heap.objs.size:=fun b hb=>by
  obtain ⟨o,e,_⟩:=T.obj _ _ st2 b hb
  exact Heap.lt_size e
 refine wpAny_newObj_type ?_
 generalize es3:({ s2 with heap:=s2.heap.push { cls := .type "list",dict:=none,data := .seq ([]:List Value).toArray } }:Shared)=s3
 have I3':Inv X pins σ (upd H2 s2.heap.objs.size (.lst [])) s3:=es3▸I3
 have keep3:∀ b o,s2.heap.get? b=some o→s3.heap.get? b=some o:=fun b o e=>by rw [← es3];exact Heap.get?_push_of_some _ e
 have st3:tn 0 s3.heap:=T.keep _ _ _ st2 fun b _ o e=>keep3 b o e
 have fl3:∀ b∈fp,b<s3.heap.objs.size:=fun b hb=>by
  obtain ⟨o,e,_⟩:=T.obj _ _ st3 b hb
  exact Heap.lt_size e
 have f3:∀ b∈fp,X3 X pins (upd H2 s2.heap.objs.size (.lst [])) b:=fun b hb=>⟨by rw [Ym (Nat.ne_of_lt (fl2 b hb))];exact (f2 b hb).1,(f2 b hb).2⟩
 generalize eD:s2.heap.objs.size=D at *
 generalize eH3:upd H2 D (.lst [])=H3 at *
 refine wpAny_newFunctionEnv hcell (by intro y hy;simp at hy) (fun h₁ hns₁ hsb₁=>?_) hk
 have keep4:∀ b o,s3.heap.get? b=some o→h₁.get? b=some o:=fun b o e=>hsb₁.extBut b o (Nat.ne_of_lt (Heap.lt_size e)) (Heap.get?_push_of_some _ e)
 have I4:=Q3 (N':=N') (src:=src) (tk:=s3.toks+([]:List (Str×Value)).length) hk hcell hcap a b I3' f3 fl3 rfl keep4 hns₁
 -- the iterator's objects,through the block
 have stat:∀ {H':Hp},(∀ b∈fp,H' b=none)→∀ b∈fp,X3 (cxC X scope N' cl s3.heap.objs.size s3 H3 fp (X.pn++pins)) [] H' b:=fun hn b' hb=>by
  obtain ⟨f0,f1,fs,fe,f4,f5⟩:=f3 b' hb
  refine ⟨hn b' hb,Nat.ne_of_lt (fl3 b' hb),fun z=>?_,.inl hb,fun x c h=>f4 x c (a x c h),fun p hp=>f5 p (by simpa [cxC] using hp)⟩
  rcases List.mem_cons.mp (I3'.stkSub b' z) with e | e
  ·exact f1 e
  ·exact fs e
 -- behind the block
 have fin:∀ {H':Hp} {s':Shared} {σ':St} {pins':List (Addr×Obj)},Inv (cxC X scope N' cl s3.heap.objs.size s3 H3 fp (X.pn++pins)) pins' σ' H' s'→∀ h',Heap.SameBut s3.heap.objs.size s'.heap h'→Inv X pins σ H' { s' with heap:=h' }:=fun {H' s' σ' pins'} J' h' sb=>by
  have same:∀ b o,b≠s3.heap.objs.size→s'.heap.get? b=some o→h'.get? b=some o:=fun b o hb e=>sb.extBut b o hb e
  have u:Un (frs X.stack) fp H3 H' s3.heap s'.heap:=J'.base
  refine I3'.call' (s':={ s' with heap:=h' }) (ch:=fp) J'.os ⟨fun b o e n hb hx=>?_,fun b o e n hb hx=>?_,u.free,fun b o e hx=>?_,u.tups,u.frzs,u.tbls⟩ (fun b o e=>?_) J'.bare fun b hb=>?_
  ·exact same b o (Nat.ne_of_lt (Heap.lt_size e)) (u.keep b o e n hb hx)
  ·obtain ⟨sl,z⟩:=u.slot b o e n hb hx
   exact ⟨sl,same b _ (Nat.ne_of_lt (Heap.lt_size e)) z⟩
  ·obtain ⟨o',z⟩:=u.there b o e hx
   exact ⟨o',same b o' (Nat.ne_of_lt (Heap.lt_size e)) z⟩
  ·have nC:∀ c v,H' c=some v→c≠s3.heap.objs.size:=fun c v z q=>by
    have:=J'.free
    rw [show (cxC X scope N' cl s3.heap.objs.size s3 H3 fp (X.pn++pins)).env.locals=s3.heap.objs.size from rfl,← q,z] at this
    cases this
   refine (J'.hok b o e).stay (fun c v hc q=>same c v ?_ q) (fun _ q=>q) fun _ _ q=>q
   rcases hc with z | z
   ·rw [z];exact nC b o e
   ·exact nC c _ z
  ·obtain ⟨f0,f1,fs,fe,f4,f5⟩:=f3 b hb
   exact ⟨fe,f1,f4,f5⟩
 have loop:codeAny (model X.prog X.w) X.A (.compLoop (.ListComp elt [⟨tg,iter,ifs,0⟩] scope pos) 0 (.ref it) (.ref D) (compEnvC scope cl s3.heap.objs.size X.env))
   (compPost (model X.prog X.w) X.A X.xe none (EP X pins σ Q) (.ref D) s3.heap.objs.size) { s3 with heap:=h₁,toks:=s3.toks+([]:List (Str×Value)).length }:=by
  refine Qm (fun n s'=>∃ i ys σ' H',Inv (cxC X scope N' cl s3.heap.objs.size s3 H3 fp (X.pn++pins)) [] σ' H' s'∧tn i s'.heap∧(∀ b∈fp,H' b=none)∧W i n ys σ' H') ?_ m0 ⟨0,[],YN src σ,H3,I4,T.keep _ _ _ st3 fun b _ o e=>keep4 b o e,fun b hb=>(f3 b hb).1,w0⟩
  rintro n s5 ⟨i,ys,σ5,H5,I5,st5,fr5,w5⟩
  obtain ⟨hDs,stop | go⟩:=turn i n ys σ5 H5 w5
  ·obtain ⟨stop,qn⟩:=stop
   refine thn (T.done (cxC X scope N' cl s3.heap.objs.size s3 H3 fp (X.pn++pins)) rfl rfl rfl hc i [] s5 σ5 H5 _ I5 (stat fr5) st5 stop) fun r s6 ⟨hr,I6⟩=>?_
   subst hr
   obtain ⟨m,hn,_⟩:=id I6.loc
   exact ⟨m,hn,fun h' sb=>⟨.ref D,H5,fin I6 h' sb,rfl,qn⟩⟩
  ·obtain ⟨go,N,hN,step⟩:=go
   refine thn (T.item (cxC X scope N' cl s3.heap.objs.size s3 H3 fp (X.pn++pins)) rfl rfl rfl hc i [] s5 σ5 H5 _ I5 (stat fr5) st5 go) fun r s6 ⟨u,hr,h6⟩=>?_
   subst hr
   refine thn h6 fun _ s7 ⟨x,H7,I7,r7,y7,st7,fr7⟩=>?_
   have I7':=I7.pinned (stat fr7) (T.obj _ _ st7)
   have again:∀ {s8:Shared} {σ8:St} {H8:Hp} {ys':List V},Inv (cxC X scope N' cl s3.heap.objs.size s3 H3 fp (X.pn++pins)) ([]++W9 fp s7.heap) σ8 H8 s8→(∃ m',m'<n∧W (i+1) m' ys' σ8 H8) →
     ∃ m,m<n∧∃ i ys σ' H',Inv (cxC X scope N' cl s3.heap.objs.size s3 H3 fp (X.pn++pins)) [] σ' H' s8∧tn i s8.heap∧(∀ b∈fp,H' b=none)∧W i m ys σ' H':=fun {s8 σ8 H8 ys'} I8 ⟨m',hm,w8⟩=>by
    refine ⟨m',hm,i+1,ys',σ8,H8,I8.unpinned,T.keep _ _ _ st7 fun b hb o e=>(I8.pin (b,o) (List.mem_append_right _ (List.mem_append_right _ (XH hb e)))).1,fun b hb=>?_,w8⟩
    obtain ⟨o,e,d⟩:=T.obj _ _ st7 b hb
    exact (I8.pin (b,o) (List.mem_append_right _ (List.mem_append_right _ (XH hb e)))).2.1
   refine thn (hg cl _ s3 H3 fp _ _ s7 σ5 H7 x u _ I7' r7 (step x H7 y7)) fun _ s8 ⟨σ8,H8,I8,q8⟩=>?_
   refine thn (ht cl _ s3 H3 fp _ _ s8 σ8 H8 _ I8 q8) fun ok s9 ⟨H9,I9,q9⟩=>?_
   cases ok with
   | false=>exact again I9 (hN _ _ _ q9)
   | true =>
    rw [if_pos rfl]
    refine thn (he cl _ s3 H3 fp _ _ s9 σ8 H9 _ I9 q9) fun y s10 ⟨yv,H10,I10,r10,q10⟩=>?_
    obtain ⟨hDy,hlen,w10⟩:=q10
    refine thn (WY (X:=cxC X scope N' cl s3.heap.objs.size s3 H3 fp (X.pn++pins)) _ s10 σ8 H10 (.ref D) [yv] (.ref D) [y] (fun _ H'=>H'=upd H10 D (.lst (ys++[yv]))) I10 rfl (.cons r10 .nil) ⟨D,ys,yv,rfl,rfl,hDy,hlen,rfl⟩) fun _ s11 ⟨_,H11,I11,_,e11⟩=>?_
    subst e11
    exact again I11 (hN _ _ _ w10)
 exact codeAny_compStart_list loop (T.self _ 0 _ _ _ (T.keep _ _ _ st3 fun b _ o e=>keep4 b o e) loop)
end
end L2
namespace L2
open PySem PySem.Spec PyProof.Rows
section
variable {X:Cx}
end
end L2
namespace L2
open PySem PySem.Spec PyProof.Rows
section
variable {X:Cx} {tg:Expr}
def Wq (J:It) (P:Hp→Prop) (xs:List V):Prop:=∀ H,P H→∀ i,(∀ x,xs[i]?=some x→J.go i H∧∀ y H',J.yld i H y H'→H'=H∧y=x)∧(xs.length≤i→J.stop i H)
theorem Qn {K:PySem.W.Frag} {a:Addr} {xs:List V}:Wq (Itt K a) (fun H=>SqT K H a xs) xs:=fun H hq i=>by
 refine ⟨fun x hx=>⟨⟨xs,x,hq,hx⟩,fun y H' ⟨e1,e2⟩=>⟨e1,?_⟩⟩,fun hi=>⟨xs,hq,hi⟩⟩
 have:=e2 xs hq
 rw [hx] at this
 exact (Option.some.inj this).symm
theorem Vs {K:PySem.W.Frag} {a:Addr} {xs:List V}:Wq (Itl K a) (fun H=>SqL K H a xs) xs:=fun H hq i=>by
 refine ⟨fun x hx=>⟨⟨xs,x,hq,hx⟩,fun y H' ⟨e1,e2⟩=>⟨e1,?_⟩⟩,fun hi=>⟨xs,hq,hi⟩⟩
 have:=e2 xs hq
 rw [hx] at this
 exact (Option.some.inj this).symm
theorem W5 {lo:Int} {n:Nat} {P:Hp→Prop}:Wq (Itr lo n) P ((List.range n).map fun (i:Nat)=>V.int (lo+i)):=fun H hq i=>by
 refine ⟨fun x hx=>?_,fun hi=>by show n≤i;simpa using hi⟩
 have hi:i<n:=by
  have:=(List.getElem?_eq_some_iff.mp hx).1
  simpa using this
 refine ⟨hi,fun y H' ⟨e1,e2⟩=>⟨e1,?_⟩⟩
 rw [List.getElem?_map,List.getElem?_range hi] at hx
 rw [e2]
 simpa using hx
theorem Wq.imp {J:It} {P P':Hp→Prop} {xs:List V} (h:Wq J P xs) (hp:∀ H,P' H→P H):Wq J P' xs:=fun H q=>h H (hp H q)
theorem lc_by {J:It} {P:Hp→Prop} {xs:List V} (hJ:Wq J P xs) {src:List (Option Nat)} {g:TG} {tt:TT} {te:TE} {σ:St} {H1:Hp} {Q:VK} {D:Addr} (Pv:Nat→List V→St→Hp→Prop)
  (h0:Pv 0 [] (YN src σ) (upd H1 D (.lst []))) (hP:∀ i ys σ' H',Pv i ys σ' H'→P H'∧H' D=some (.lst ys))
  (step:∀ i ys σ' H' x,xs[i]?=some x→Pv i ys σ' H'→g x σ' H' fun σ2 H4=>tt σ2 H4 fun b H5=>if b=true then te σ2 H5 fun y H6=>H6 D=some (.lst ys)∧ys.length<sizeLine∧Pv (i+1) (ys++[y]) σ2 (upd H6 D (.lst (ys++[y]))) else Pv (i+1) ys σ2 H5)
  (fin:∀ ys σ' H',Pv xs.length ys σ' H'→Q (.ref D) H') :
  LC src J g tt te σ H1 Q D:=by
 refine ⟨fun i m ys σ' H'=>m=xs.length - i∧i≤xs.length∧Pv i ys σ' H',⟨xs.length,by simp,Nat.zero_le _,h0⟩,?_⟩
 rintro i m ys σ' H2 ⟨rfl,hi,p⟩
 obtain ⟨hp,hD⟩:=hP i ys σ' H2 p
 refine ⟨hD,?_⟩
 by_cases hlt:i<xs.length
 ·obtain ⟨go,yl⟩:=(hJ H2 hp i).1 xs[i] (by simp [hlt])
  refine .inr ⟨go,fun ys' σ3 H3=>Pv (i+1) ys' σ3 H3,fun ys' σ3 H3 p'=>⟨xs.length - (i+1),by omega,rfl,hlt,p'⟩,fun x H3 y=>?_⟩
  obtain ⟨e1,e2⟩:=yl x H3 y
  subst e1 e2
  exact step i ys σ' _ _ (by simp [hlt]) p
 ·have e:i=xs.length:=by omega
  subst e
  exact .inl ⟨(hJ H2 hp _).2 (Nat.le_refl _),fin ys σ' H2 p⟩
theorem Yf.upd_new {H:Hp} {p:Addr} (h:H p=none) (o:HO):Yf H (upd H p o):=fun b u q=>by rw [Ym (YK q h)];exact q
theorem Yf.upd_over {H H':Hp} {p:Addr} (h:H p=none) (e:Yf H H') (o:HO):Yf H (upd H' p o):=fun b u q=>by rw [Ym (YK q h)];exact e b u q
theorem Yf.tup {K:PySem.W.Frag} {H H':Hp} {a:Addr} {xs:List V} (e:Yf H H') (h:SqT K H a xs):SqT K H' a xs:=by
 rcases h with (h | ⟨o,h⟩) | h
 ·exact .inl (.inl (e _ _ h))
 ·exact .inl (.inr ⟨o,e _ _ h⟩)
 ·exact .inr h
end
section
variable {X:Cx}
theorem Q4:∀ {bs:List Bool} {us:List Value},Yu (bs.map V.bl) us→LSm.BoolsAre us bs
 | [],_,h=>by rw [Yu.zero h];exact .nil
 | b::bs,us,h=>by
  have h':Yu (V.bl b::bs.map V.bl) us:=h
  cases h' with
  | cons r t=>cases (show _=Value.bool b from r);exact .cons b (Q4 t)
theorem Wj (hc:X.calm=true):Xk X (.builtin "all") (fun xs H Q=>∃ (p:Addr) (bs:List Bool),xs=[.ref p]∧SqL X.K H p (bs.map V.bl)∧Q (.bl (bs.all id)) H):=by
 intro pins s σ H xs us Q I r h
 obtain ⟨p,bs,rfl,hq,q⟩:=h
 obtain ⟨u,rfl,rx⟩:=Wg r
 cases rx
 obtain ⟨its,r',pl,hz⟩:=I.list hq
 have hb:=Q4 r'
 have hl:=pl.isList
 have hlt:p<s.heap.objs.size:=by obtain ⟨_,e,_⟩:=hl;exact Heap.lt_size e
 refine call_all_walk (wpAny_pyIter_list hl ?_)
 refine ⟨s.heap.objs.size,[s.heap.objs.size,p],[s.heap.objs.size],its.toArray.size,_,_,fun i=>(bs[i]?).getD true,rfl,Walks.list (A:=X.A.in1) (I.ok.hd hc) _ p (Nat.ne_of_lt hlt) its.toArray,
  ⟨⟨_,Heap.get?_push_size _ rfl,rfl,rfl⟩,hl.push _⟩,fun i v s' Q' E' hP hQ=>?_,fun h' tk hk=>?_⟩
 ·obtain ⟨b,e,rfl⟩:=hb.get i v (by simpa using hP)
  simp only [e,Option.getD_some] at hQ
  exact wpAny_truthy_bool hQ
 ·have e:((List.range its.toArray.size).all fun i=>(bs[i]?).getD true)=bs.all id:=by
   rw [List.size_toArray,hb.length];exact LSm.range_all bs
  rw [e]
  exact ⟨.bl _,H,I.kept (t':=tk) (LSm.kept_iter hk),rfl,q⟩
theorem Ybd:∀ {ys:List Str} {us:List Value},Yu (ys.map V.str) us→StrsAre us ys
 | [],_,h=>by rw [Yu.zero h];exact .nil
 | y::ys,us,h=>by
  have h':Yu (V.str y::ys.map V.str) us:=h
  cases h' with
  | cons r t=>obtain ⟨t',rfl⟩:=r;exact .cons y t' (Ybd t)
def rJoin (K:PySem.W.Frag):V→List V→Hp→VK→Prop:=fun x vs H Q=>∃ (z:Str) (p:Addr) (ys:List Str),x = .str z∧vs=[.ref p]∧SqL K H p (ys.map V.str)∧(ys.map (·.length)).sum+ys.length*z.length≤16777216∧Q (.str (Txt.join z ys)) H
theorem Yeo:MtR X "str.join" (rJoin X.K):=by
 intro pins s σ H x vs v us Q I rx rv h
 obtain ⟨z,p,ys,rfl,rfl,hq,hl,q⟩:=h
 obtain ⟨t,rfl⟩:=rx
 obtain ⟨u,rfl,ru⟩:=rv.one
 cases ru
 obtain ⟨its,r,pl,hz⟩:=I.list hq
 exact join_list pl.isList (by simpa using Ybd r) hl fun t' k=>⟨.str _,H,I.tok k,⟨t',rfl⟩,q⟩
def Vt:V→Option Value
 | .ty n=>some (.type n)
 | .ref a=>some (.ref a)
 | _=>none
theorem YA:Xk X (.builtin "isinstance") (fun xs H Q=>∃ x c cv t b,xs=[x,c]∧Vt c=some cv∧TyOf X.K H x t∧PySem.W.kitOne X.K t cv=some b∧Q (.bl b) H):=by
 intro pins s σ H xs us Q I r h
 obtain ⟨x,c,cv,t,b,rfl,ec,ty,e,q⟩:=h
 obtain ⟨u,w',rfl,ru,rw'⟩:=YbI r
 have ew:w'=cv:=by
  cases c with
  | ty n=>cases (show w'=Value.type n from rw');simpa [Vt] using ec
  | ref a=>cases (show w'=Value.ref a from rw');simpa [Vt] using ec
  | _=>simp [Vt] at ec
 subst ew
 exact Ycy I ru ty e fun tk=>⟨.bl b,H,I.tok tk,rfl,q⟩
end
end L2
namespace L2
open PySem PySem.Spec PyProof.Rows
structure Sub (P:Program) (w:World) (i:Addr) (St:Nat→Heap→Prop) (Ready:Heap→(Nat→Option Value)→Prop):Prop where
 obj:∀ k h,St k h→∃ o,h.get? i=some o∧∀ v,o.data ≠ .cell v
 keep:∀ k h h',St k h→(∀ o,h.get? i=some o→h'.get? i=some o)→St k h'
 item:∀ (A:Around) (k:Nat) (s:Shared) (get:Nat→Option Value) (x:Value) (Q:Value→Shared→Prop) (E:Value→Shared→Prop),St k s.heap→Ready s.heap get→get k=some x →
  (∀ h' tk,St (k+1) h'→Heap.SameBut i s.heap h'→Q x { s with heap:=h',toks:=tk })→wpAny (model P w) A (Builtin.SmallTypes.nextOf (.ref i)) Q E s
 fin:∀ (A:Around) (k:Nat) (s:Shared) (get:Nat→Option Value) (Q:Value→Shared→Prop) (E:Value→Shared→Prop),A.handled=none→St k s.heap→Ready s.heap get→get k=none →
  (∀ h' e,Heap.ExtBut i s.heap h'→(∃ o,h'.get? e=some o∧o.cls = .type "StopIteration")→E (.ref e) { s with heap:=h' })→wpAny (model P w) A (Builtin.SmallTypes.nextOf (.ref i)) Q E s
section
variable {prog:Program} {w:World} {A:Around} {E:Value→Shared→Prop} {s:Shared}
theorem Ug {it t:Addr} {i:Nat} {items:Array Value} {x:Value} {Q:Value→Shared→Prop} (hit:s.heap.IsTupleIter it t i) (ht:s.heap.IsTuple t items) (hx:items[i]?=some x)
  (hQ:∀ h',h'.IsTupleIter it t (i+1)→Heap.SameBut it s.heap h'→Q x { s with heap:=h' }):wpAny (model prog w) A (Builtin.SmallTypes.nextOf (.ref it)) Q E s:=by
 obtain ⟨o,ho,hc,hd⟩:=id hit
 obtain ⟨ol,hol,_,nl,hdl⟩:=ht
 unfold Builtin.SmallTypes.nextOf
 refine wpAny_bind (wpAny_callSpecial?_slot (name:=Str.ofString "__next__") hit.typeIs F.slot_tuple_iterator_next (wpAny_call_entry F.slot_tuple_iterator_next hit.typeIs F.entry_tuple_iterator_next ?_ (F.args_tuple_iterator_next_1 _)))
 show wpAny _ _ (field (.ref it) 0 >>= _) _ _ s
 refine wpAny_bind (wpAny_field ho hd (x := .ref t) rfl ?_)
 show wpAny _ _ (if (Value.ref t==Value.none)=true then _ else _) _ _ s
 rw [if_neg (show ¬ ((Value.ref t==Value.none)=true) from Bool.false_ne_true)]
 show wpAny _ _ (field (.ref it) 1 >>= _) _ _ s
 refine wpAny_bind (wpAny_field ho hd (x := .int i 0) rfl ?_)
 show wpAny _ _ (seqItems? (.ref t) >>= _) _ _ s
 refine wpAny_bind (wpAny_seqItems hol hdl ?_)
 simp only [Int.toNat_natCast,hx]
 refine wpAny_bind (wpAny_setField ho hd (by simp) (wpAny_pure ⟨x,rfl,wpAny_pure (hQ _ ?_ (Heap.SameBut.update ..))⟩))
 exact ⟨_,Heap.get?_update_self _ ho (Obj.isFreed_of_fields (Obj.data_mapFields hd _)),(Obj.cls_mapFields ..).trans hc,by rw [Obj.data_mapFields hd];simp [rawInt]⟩
theorem Up {it t:Addr} {i:Nat} {items:Array Value} {Q:Value→Shared→Prop} (hh:A.handled=none) (hit:s.heap.IsTupleIter it t i) (ht:s.heap.IsTuple t items) (hx:items[i]?=none)
  (hE:∀ h' e,Heap.ExtBut it s.heap h'→(∃ o,h'.get? e=some o∧o.cls = .type "StopIteration")→E (.ref e) { s with heap:=h' }):wpAny (model prog w) A (Builtin.SmallTypes.nextOf (.ref it)) Q E s:=by
 obtain ⟨o,ho,hc,hd⟩:=id hit
 obtain ⟨ol,hol,_,nl,hdl⟩:=ht
 unfold Builtin.SmallTypes.nextOf
 refine wpAny_bind (wpAny_callSpecial?_slot (name:=Str.ofString "__next__") hit.typeIs F.slot_tuple_iterator_next (wpAny_call_entry F.slot_tuple_iterator_next hit.typeIs F.entry_tuple_iterator_next ?_ (F.args_tuple_iterator_next_1 _)))
 show wpAny _ _ (field (.ref it) 0 >>= _) _ _ s
 refine wpAny_bind (wpAny_field ho hd (x := .ref t) rfl ?_)
 show wpAny _ _ (if (Value.ref t==Value.none)=true then _ else _) _ _ s
 rw [if_neg (show ¬ ((Value.ref t==Value.none)=true) from Bool.false_ne_true)]
 show wpAny _ _ (field (.ref it) 1 >>= _) _ _ s
 refine wpAny_bind (wpAny_field ho hd (x := .int i 0) rfl ?_)
 show wpAny _ _ (seqItems? (.ref t) >>= _) _ _ s
 refine wpAny_bind (wpAny_seqItems hol hdl ?_)
 simp only [Int.toNat_natCast,hx]
 refine wpAny_bind (wpAny_rule (wpAny_bind (wpAny_setField ho hd (by simp) ?_)))
 show wpAny _ _ (newExc (.type "StopIteration") [] >>= _) _ _ _
 refine wpAny_bind ?_
 simp only [newExc,newTuple]
 refine wpAny_bind (wpAny_newObj_type ?_ (by size_fits))
 refine wpAny_bind (m:=firstArgMember _ _) (wpAny_of_eq (a:=Value.none) (by first | rfl | (simp only [firstArgMember];rfl)) ?_)
 refine wpAny_newObj_type ?_ (by size_fits)
 simp only [raiseNew]
 refine wpAny_bind (wpAny_handled ?_)
 first | rw [show A.in1.handled=none from hh] | rw [hh]
 refine wpAny_bind (wpAny_pure (wpAny_throw ?_))
 exact hE _ _ (((Heap.SameBut.update ..).extBut.push _).push _) ⟨_,Heap.get?_push_size _ rfl,rfl⟩
end
theorem YcG {P:Program} {w:World} (i t:Addr):Sub P w i (fun k h=>h.IsTupleIter i t k) (fun h get=>∃ items:Array Value,h.IsTuple t items∧∀ k,get k=items[k]?) where
 obj:=fun k h ⟨o,e,c,d⟩=>⟨o,e,fun v z=>by rw [d] at z;cases z⟩
 keep:=fun k h h' st q=>st.at q
 item:=fun A k s get x Q E st ⟨items,ht,hg⟩ hx hQ=>Ug st ht ((hg k).symm.trans hx) fun h' st' sb=>hQ h' s.toks st' sb
 fin:=fun A k s get Q E hh st ⟨items,ht,hg⟩ hx hE=>Up hh st ht ((hg k).symm.trans hx) hE
theorem Ydt {P:Program} {w:World} (i t:Addr):Sub P w i (fun k h=>h.IsListIter i t k) (fun h get=>∃ items:Array Value,h.IsList t items∧∀ k,get k=items[k]?) where
 obj:=fun k h ⟨o,e,c,d⟩=>⟨o,e,fun v z=>by rw [d] at z;cases z⟩
 keep:=fun k h h' st q=>st.at q
 item:=fun A k s get x Q E st ⟨items,ht,hg⟩ hx hQ=>wpAny_nextOf_list_item st ht ((hg k).symm.trans hx) fun h' st' sb=>hQ h' s.toks st' sb
 fin:=fun A k s get Q E hh st ⟨items,ht,hg⟩ hx hE=>wpAny_nextOf_list_end hh st ht ((hg k).symm.trans hx) hE
structure ZApart (z TI TO i1 i2:Addr):Prop where
 a:TI≠z
 b:TO≠z
 c:i1≠z
 d:i2≠z
 e:TI≠TO
 f:TI≠i1
 g:TI≠i2
 h:TO≠i1
 i:TO≠i2
 j:i1≠i2
section
variable {prog:Program} {w:World} {A:Around} {E:Value→Shared→Prop} {s:Shared} {z TI TO i1 i2:Addr} {S1 S2:Nat→Heap→Prop} {R1 R2:Heap→(Nat→Option Value)→Prop} {g1 g2:Nat→Option Value} {k:Nat} {a b:Value}
theorem Ydu {x y:Value} {Q:Option Value→Shared→Prop} (D:ZApart z TI TO i1 i2) (U1:Sub prog w i1 S1 R1) (U2:Sub prog w i2 S2 R2)
  (k1:∀ h h' g,R1 h g→(∀ c o,c≠z→c≠TO→c≠i1→c≠i2→h.get? c=some o→h'.get? c=some o)→R1 h' g) (k2:∀ h h' g,R2 h g→(∀ c o,c≠z→c≠TO→c≠i1→c≠i2→h.get? c=some o→h'.get? c=some o)→R2 h' g)
  (hz:IsZip s.heap z TI TO .none) (hTI:IsPair s.heap TI (.ref i1) (.ref i2)) (hTO:IsPair s.heap TO a b) (h1:S1 k s.heap) (h2:S2 k s.heap) (r1:R1 s.heap g1) (r2:R2 s.heap g2) (hx:g1 k=some x) (hy:g2 k=some y)
  (hQ:∀ h' tk,IsZip h' z TI TO (rawInt s.heap.objs.size)→IsPair h' TO x y→S1 (k+1) h'→S2 (k+1) h'→IsPair h' s.heap.objs.size x y→h'.objs.size=s.heap.objs.size+1 →
   (∀ c o,c≠z→c≠TO→c≠i1→c≠i2→s.heap.get? c=some o→h'.get? c=some o)→Q (some (.ref s.heap.objs.size)) { s with heap:=h',toks:=tk }) :
  wpAny (model prog w) A (pyNext (.ref z)) Q E s:=by
 have hT:s.TypeIs (.ref z) "zip":=⟨_,hz,rfl⟩
 unfold pyNext
 refine wpAny_bind (wpAny_attempt (wpAny_callSpecial?_slot (name:=Str.ofString "__next__") hT F.slot_zip_next (wpAny_call_entry F.slot_zip_next hT F.entry_zip_next ?_ (F.args_zip_next_1 _))))
 show wpAny _ _ (field (.ref z) 2 >>= _) _ _ _
 refine wpAny_bind (wpAny_field hz rfl (x := .bool false) rfl ?_)
 show wpAny _ _ (field (.ref z) 3 >>= _) _ _ _
 refine wpAny_bind (wpAny_field hz rfl (x := .ref TI) rfl ?_)
 refine wpAny_bind (wpAny_seqItems hTI rfl ?_)
 show wpAny _ _ (Builtin.SmallTypes.ownedTupleIsFree (.ref z) >>= _) _ _ _
 refine wpAny_bind ?_
 unfold Builtin.SmallTypes.ownedTupleIsFree
 refine wpAny_bind (wpAny_field hz rfl (x := .none) rfl (wpAny_pure ?_))
 simp only [if_true]
 refine wpAny_bind (wpAny_rule ?_)
 refine wpAny_bind (wpAny_field hz rfl (x := .ref TO) rfl ?_)
 refine wpAny_bind (wpAny_setField_rec hz (by simp) fun h₁ hz₁ hs₁=>?_)
 replace hz₁:IsZip h₁ z TI TO .ellipsis:=hz₁
 refine wpAny_bind ?_
 simp only [List.zipIdx_cons,List.zipIdx_nil,List.forIn_cons,List.forIn_nil]
 refine wpAny_bind (wpAny_bind (wpAny_onRaise ?_))
 show wpAny _ _ (Builtin.SmallTypes.nextOf (.ref i1) >>= _) _ _ _
 have S1₁:S1 k h₁:=U1.keep _ _ _ h1 fun o e=>hs₁.extBut _ _ D.c e
 have R1₁:R1 h₁ g1:=k1 _ _ _ r1 fun c o c1 _ _ _ e=>hs₁.extBut _ _ c1 e
 refine wpAny_bind (U1.item _ k { s with heap:=h₁ } g1 x _ _ S1₁ R1₁ hx fun h₂ tk₂ S1₂ hs₂=>wpAny_pure ?_)
 have hTO₂:IsPair h₂ TO a b:=hs₂.extBut _ _ D.h (hs₁.extBut _ _ D.b hTO)
 refine wpAny_bind (wpAny_seqItems hTO₂ rfl ?_)
 refine wpAny_bind (wpAny_updateSeq_pair hTO₂ fun h₃ hTO₃ hs₃=>?_)
 replace hTO₃:IsPair h₃ TO x b:=hTO₃
 refine wpAny_bind (wpAny_letGo (wpAny_pure ?_))
 refine wpAny_bind (wpAny_bind (wpAny_onRaise ?_))
 show wpAny _ _ (Builtin.SmallTypes.nextOf (.ref i2) >>= _) _ _ _
 have kk₃:∀ c o,c≠z→c≠TO→c≠i1→c≠i2→s.heap.get? c=some o→h₃.get? c=some o:=fun c o c1 c2 c3 c4 e=>hs₃.extBut _ _ c2 (hs₂.extBut _ _ c3 (hs₁.extBut _ _ c1 e))
 have S2₃:S2 k h₃:=U2.keep _ _ _ h2 fun o e=>hs₃.extBut _ _ D.i.symm (hs₂.extBut _ _ D.j.symm (hs₁.extBut _ _ D.d e))
 refine wpAny_bind (U2.item _ k { s with heap:=h₃,toks:=tk₂ } g2 y _ _ S2₃ (k2 _ _ _ r2 kk₃) hy fun h₄ tk₄ S2₄ hs₄=>wpAny_pure ?_)
 have hTO₄:IsPair h₄ TO x b:=hs₄.extBut _ _ D.i hTO₃
 refine wpAny_bind (wpAny_seqItems hTO₄ rfl ?_)
 refine wpAny_bind (wpAny_updateSeq_pair hTO₄ fun h₅ hTO₅ hs₅=>?_)
 replace hTO₅:IsPair h₅ TO x y:=hTO₅
 refine wpAny_bind (wpAny_letGo (wpAny_pure (wpAny_pure ?_)))
 refine wpAny_bind (wpAny_seqItems hTO₅ rfl ?_)
 refine wpAny_bind (wpAny_newTuple ?_)
 have hsz:h₅.objs.size=s.heap.objs.size:=by rw [hs₅.1,hs₄.1,hs₃.1,hs₂.1,hs₁.1]
 have hz₅:IsZip h₅ z TI TO .ellipsis:=hs₅.extBut _ _ D.b.symm (hs₄.extBut _ _ D.d.symm (hs₃.extBut _ _ D.b.symm (hs₂.extBut _ _ D.c.symm hz₁)))
 have hk₅:∀ c o,c≠z→c≠TO→c≠i1→c≠i2→s.heap.get? c=some o→h₅.get? c=some o:=fun c o c1 c2 c3 c4 e=>hs₅.extBut _ _ c2 (hs₄.extBut _ _ c4 (kk₃ c o c1 c2 c3 c4 e))
 have S1₅:S1 (k+1) h₅:=U1.keep _ _ _ S1₂ fun o e=>hs₅.extBut _ _ D.h.symm (hs₄.extBut _ _ D.j (hs₃.extBut _ _ D.h.symm e))
 have S2₅:S2 (k+1) h₅:=U2.keep _ _ _ S2₄ fun o e=>hs₅.extBut _ _ D.i.symm e
 have hzlt:z<h₅.objs.size:=Heap.lt_size hz₅
 show wpAny _ _ (Builtin.SmallTypes.ownedTupleHandOut (.ref z) (.ref h₅.objs.size) >>= _) _ _ _
 refine wpAny_bind ?_
 unfold Builtin.SmallTypes.ownedTupleHandOut
 have hz₆:IsZip (h₅.push { cls := .type "tuple",data := .seq #[x,y] }) z TI TO .ellipsis:=Heap.get?_push_of_some _ hz₅
 refine wpAny_bind (wpAny_setField_rec hz₆ (by simp) fun h₇ hz₇ hs₇=>?_)
 replace hz₇:IsZip h₇ z TI TO (rawInt h₅.objs.size):=hz₇
 refine wpAny_setField_rec hz₇ (by simp) fun h₈ hz₈ hs₈=>?_
 replace hz₈:IsZip h₈ z TI TO (rawInt h₅.objs.size):=hz₈
 have up:∀ c o,c≠z→h₅.get? c=some o→h₈.get? c=some o:=fun c o c1 e=>hs₈.extBut _ _ c1 (hs₇.extBut _ _ c1 (Heap.get?_push_of_some _ e))
 have hT₈:IsPair h₈ h₅.objs.size x y:=hs₈.extBut _ _ (Nat.ne_of_gt hzlt) (hs₇.extBut _ _ (Nat.ne_of_gt hzlt) (Heap.get?_push_size _ rfl))
 have hz8:h₈.objs.size=h₅.objs.size+1:=by rw [hs₈.1,hs₇.1,Heap.size_push]
 rw [hsz] at hz₈ hT₈ hz8
 refine wpAny_pure ⟨_,rfl,wpAny_pure ?_⟩
 show Q (some (.ref h₅.objs.size)) _
 rw [hsz]
 exact hQ h₈ tk₄ hz₈ (up _ _ D.b hTO₅) (U1.keep _ _ _ S1₅ fun o e=>up _ o D.c e) (U2.keep _ _ _ S2₅ fun o e=>up _ o D.d e) hT₈ hz8 fun c o c1 c2 c3 c4 e=>up c o c1 (hk₅ c o c1 c2 c3 c4 e)
theorem Yep {Q:Option Value→Shared→Prop} (hh:A.handled=none) (D:ZApart z TI TO i1 i2) (U1:Sub prog w i1 S1 R1) (U2:Sub prog w i2 S2 R2)
  (k1:∀ h h' g,R1 h g→(∀ c o,c≠z→c≠TO→c≠i1→c≠i2→h.get? c=some o→h'.get? c=some o)→R1 h' g) (k2:∀ h h' g,R2 h g→(∀ c o,c≠z→c≠TO→c≠i1→c≠i2→h.get? c=some o→h'.get? c=some o)→R2 h' g)
  (hz:IsZip s.heap z TI TO .none) (hTI:IsPair s.heap TI (.ref i1) (.ref i2)) (hTO:IsPair s.heap TO a b) (h1:S1 k s.heap) (h2:S2 k s.heap) (r1:R1 s.heap g1) (r2:R2 s.heap g2) (hend:g1 k=none∨g2 k=none)
  (hQ:∀ h' tk,(∀ c o,c≠z→c≠TO→c≠i1→c≠i2→s.heap.get? c=some o→h'.get? c=some o)→Q none { s with heap:=h',toks:=tk }):wpAny (model prog w) A (pyNext (.ref z)) Q E s:=by
 have hT:s.TypeIs (.ref z) "zip":=⟨_,hz,rfl⟩
 unfold pyNext
 refine wpAny_bind (wpAny_attempt (wpAny_callSpecial?_slot (name:=Str.ofString "__next__") hT F.slot_zip_next (wpAny_call_entry F.slot_zip_next hT F.entry_zip_next ?_ (F.args_zip_next_1 _))))
 show wpAny _ _ (field (.ref z) 2 >>= _) _ _ _
 refine wpAny_bind (wpAny_field hz rfl (x := .bool false) rfl ?_)
 show wpAny _ _ (field (.ref z) 3 >>= _) _ _ _
 refine wpAny_bind (wpAny_field hz rfl (x := .ref TI) rfl ?_)
 refine wpAny_bind (wpAny_seqItems hTI rfl ?_)
 show wpAny _ _ (Builtin.SmallTypes.ownedTupleIsFree (.ref z) >>= _) _ _ _
 refine wpAny_bind ?_
 unfold Builtin.SmallTypes.ownedTupleIsFree
 refine wpAny_bind (wpAny_field hz rfl (x := .none) rfl (wpAny_pure ?_))
 simp only [if_true]
 refine wpAny_bind (wpAny_rule ?_)
 refine wpAny_bind (wpAny_field hz rfl (x := .ref TO) rfl ?_)
 refine wpAny_bind (wpAny_setField_rec hz (by simp) fun h₁ hz₁ hs₁=>?_)
 replace hz₁:IsZip h₁ z TI TO .ellipsis:=hz₁
 refine wpAny_bind ?_
 simp only [List.zipIdx_cons,List.zipIdx_nil,List.forIn_cons,List.forIn_nil]
 refine wpAny_bind (wpAny_bind (wpAny_onRaise ?_))
 show wpAny _ _ (Builtin.SmallTypes.nextOf (.ref i1) >>= _) _ _ _
 have S1₁:S1 k h₁:=U1.keep _ _ _ h1 fun o e=>hs₁.extBut _ _ D.c e
 have R1₁:R1 h₁ g1:=k1 _ _ _ r1 fun c o c1 _ _ _ e=>hs₁.extBut _ _ c1 e
 cases hx:g1 k with
 | none =>
  refine wpAny_bind (U1.fin _ k { s with heap:=h₁ } g1 _ _ hh S1₁ R1₁ hx fun h₂ e hs₂ he=>?_)
  obtain ⟨oe,hoe,hce⟩:=he
  have hz₂:IsZip h₂ z TI TO .ellipsis:=hs₂ _ _ D.c.symm hz₁
  have hez:e≠z:=fun x=>by subst x;rw [hz₂] at hoe;cases hoe;simp at hce
  refine wpAny_setField_rec hz₂ (by simp) fun h₃ _ hs₃=>?_
  refine wpAny_bind (wpAny_isInstance (T:="StopIteration") (b:=true) ⟨oe,hs₃.extBut _ _ hez hoe,hce⟩ isSubtype_stop ?_)
  exact wpAny_pure (hQ h₃ s.toks fun c o c1 _ c3 _ x=>hs₃.extBut _ _ c1 (hs₂ _ _ c3 (hs₁.extBut _ _ c1 x)))
 | some x =>
  have hy:g2 k=none:=by rcases hend with h | h;rw [hx] at h;cases h;exact h
  refine wpAny_bind (U1.item _ k { s with heap:=h₁ } g1 x _ _ S1₁ R1₁ hx fun h₂ tk₂ S1₂ hs₂=>wpAny_pure ?_)
  have hTO₂:IsPair h₂ TO a b:=hs₂.extBut _ _ D.h (hs₁.extBut _ _ D.b hTO)
  refine wpAny_bind (wpAny_seqItems hTO₂ rfl ?_)
  refine wpAny_bind (wpAny_updateSeq_pair hTO₂ fun h₃ hTO₃ hs₃=>?_)
  refine wpAny_bind (wpAny_letGo (wpAny_pure ?_))
  refine wpAny_bind (wpAny_bind (wpAny_onRaise ?_))
  show wpAny _ _ (Builtin.SmallTypes.nextOf (.ref i2) >>= _) _ _ _
  have kk₃:∀ c o,c≠z→c≠TO→c≠i1→c≠i2→s.heap.get? c=some o→h₃.get? c=some o:=fun c o c1 c2 c3 c4 e=>hs₃.extBut _ _ c2 (hs₂.extBut _ _ c3 (hs₁.extBut _ _ c1 e))
  have S2₃:S2 k h₃:=U2.keep _ _ _ h2 fun o e=>hs₃.extBut _ _ D.i.symm (hs₂.extBut _ _ D.j.symm (hs₁.extBut _ _ D.d e))
  refine wpAny_bind (U2.fin _ k { s with heap:=h₃,toks:=tk₂ } g2 _ _ hh S2₃ (k2 _ _ _ r2 kk₃) hy fun h₄ e hs₄ he=>?_)
  obtain ⟨oe,hoe,hce⟩:=he
  have hz₄:IsZip h₄ z TI TO .ellipsis:=hs₄ _ _ D.d.symm (hs₃.extBut _ _ D.b.symm (hs₂.extBut _ _ D.c.symm hz₁))
  have hez:e≠z:=fun x=>by subst x;rw [hz₄] at hoe;cases hoe;simp at hce
  refine wpAny_setField_rec hz₄ (by simp) fun h₅ _ hs₅=>?_
  refine wpAny_bind (wpAny_isInstance (T:="StopIteration") (b:=true) ⟨oe,hs₅.extBut _ _ hez hoe,hce⟩ isSubtype_stop ?_)
  exact wpAny_pure (hQ h₅ tk₂ fun c o c1 c2 c3 c4 x=>hs₅.extBut _ _ c1 (hs₄ _ _ c4 (kk₃ c o c1 c2 c3 c4 x)))
end
end L2
namespace L2
open PySem PySem.Spec PyProof.Rows
abbrev zpH (h:Heap) (o1 o2:Obj):Heap:=((h.push o1).push o2)
abbrev zpT (h:Heap) (o1 o2:Obj):Heap:=(zpH h o1 o2).push { cls := .type "tuple",data := .seq #[.ref h.objs.size,.ref (h.push o1).objs.size] }
abbrev zpO (h:Heap) (o1 o2:Obj):Heap:=(zpT h o1 o2).push { cls := .type "tuple",data := .seq #[.none,.none] }
abbrev zpZ (h:Heap) (o1 o2:Obj):Heap:=(zpO h o1 o2).push { cls := .type "zip",data := .fields #[.none,.bool false,.bool false,.ref (zpH h o1 o2).objs.size,.ref (zpT h o1 o2).objs.size] }
def X8 (h:Heap) (v:Value) (o:Obj):Prop:=∀ (prog:Program) (w:World) (A:Around) (E:Value→Shared→Prop) (s:Shared) (Q:Value→Shared→Prop),(∀ b ob,h.get? b=some ob→s.heap.get? b=some ob) →
 Q (.ref s.heap.objs.size) { s with heap:=s.heap.push o }→wpAny (model prog w) A (pyIter v) Q E s
theorem VE {h:Heap} {t:Addr} {items:Array Value} (ht:h.IsTuple t items):X8 h (.ref t) { cls := .type "tuple_iterator",data := .fields #[.ref t,.int 0 0] }:=fun prog w A E s Q k q=>by
 obtain ⟨o,e,r⟩:=ht
 exact wpAny_pyIter_tuple (items:=items) ⟨o,k _ _ e,r⟩ q
theorem VR {h:Heap} {t:Addr} {items:Array Value} (ht:h.IsList t items):X8 h (.ref t) { cls := .type "list_iterator",data := .fields #[.ref t,.int 0 0] }:=fun prog w A E s Q k q=>by
 obtain ⟨o,e,r⟩:=ht
 exact wpAny_pyIter_list (items:=items) ⟨o,k _ _ e,r⟩ q
theorem YbM (v1 v2:Value) (o1 o2:Obj) :
  Meets (Builtin.«zip.__new__» ⟨[.type "zip",v1,v2],[]⟩) (fun _ R s=>X8 s.heap v1 o1∧X8 s.heap v2 o2∧R (.ok (.ret (.ref (zpO s.heap o1 o2).objs.size))) { s with heap:=zpZ s.heap o1 o2 }) :=
 .of_wp fun prog w A R s h=>by
  obtain ⟨hp,g,d,tk,os⟩:=s
  obtain ⟨h1,h2,h⟩:=h
  have hsub:=sub_zip
  have p1:∀ {A':Around} {E:Value→Shared→Prop} {Q:Value→Shared→Prop},Q (.ref hp.objs.size) ⟨hp.push o1,g,d,tk,os⟩→wpAny (model prog w) A' (pyIter v1) Q E ⟨hp,g,d,tk,os⟩:=fun q=>h1 prog w _ _ ⟨hp,g,d,tk,os⟩ _ (fun _ _ e=>e) q
  have p2:∀ {A':Around} {E:Value→Shared→Prop} {Q:Value→Shared→Prop},Q (.ref (hp.push o1).objs.size) ⟨(hp.push o1).push o2,g,d,tk,os⟩→wpAny (model prog w) A' (pyIter v2) Q E ⟨hp.push o1,g,d,tk,os⟩:=fun q=>h2 prog w _ _ ⟨hp.push o1,g,d,tk,os⟩ _ (fun _ _ e=>Heap.get?_push_of_some _ e) q
  wp_walk using p1,p2
  exact ⟨_,rfl,h⟩
section
variable {prog:Program} {w:World} {A:Around} {E:Value→Shared→Prop} {s:Shared}
theorem YcH {v1 v2:Value} {o1 o2:Obj} {Q:Value→Shared→Prop} (p1:X8 s.heap v1 o1) (p2:X8 s.heap v2 o2) (f1:o1.isFreed=false) (f2:o2.isFreed=false)
  (h:∀ h',IsZip h' (s.heap.objs.size+4) (s.heap.objs.size+2) (s.heap.objs.size+3) .none→IsPair h' (s.heap.objs.size+2) (.ref s.heap.objs.size) (.ref (s.heap.objs.size+1))→IsPair h' (s.heap.objs.size+3) .none .none →
   h'.get? s.heap.objs.size=some o1→h'.get? (s.heap.objs.size+1)=some o2→h'.objs.size=s.heap.objs.size+5→(∀ c o,s.heap.get? c=some o→h'.get? c=some o)→Q (.ref (s.heap.objs.size+4)) { s with heap:=h' }) :
  wpAny (model prog w) A (call (.type "zip") [v1,v2]) Q E s:=by
 refine callType_new F.called_zip (by decide) (F.typeCall_zip_2 _ _) (F.newCall_zip_2 _ _) (fun obj=>F.args_object_init_3 obj _ _) F.entry_zip_new (YbM v1 v2 o1 o2) ⟨p1,p2,?_⟩
 have z1:(s.heap.push o1).objs.size=s.heap.objs.size+1:=Heap.size_push ..
 have z2:(zpH s.heap o1 o2).objs.size=s.heap.objs.size+2:=by rw [Heap.size_push,z1]
 have z3:(zpT s.heap o1 o2).objs.size=s.heap.objs.size+3:=by rw [Heap.size_push,z2]
 have z4:(zpO s.heap o1 o2).objs.size=s.heap.objs.size+4:=by rw [Heap.size_push,z3]
 have z5:(zpZ s.heap o1 o2).objs.size=s.heap.objs.size+5:=by rw [Heap.size_push,z4]
 have g5:(zpZ s.heap o1 o2).get? (zpO s.heap o1 o2).objs.size=some _:=Heap.get?_push_size _ rfl
 have g4:(zpZ s.heap o1 o2).get? (zpT s.heap o1 o2).objs.size=some _:=Heap.get?_push_of_some _ (Heap.get?_push_size _ rfl)
 have g3:(zpZ s.heap o1 o2).get? (zpH s.heap o1 o2).objs.size=some _:=Heap.get?_push_of_some _ (Heap.get?_push_of_some _ (Heap.get?_push_size _ rfl))
 have g2:(zpZ s.heap o1 o2).get? (s.heap.push o1).objs.size=some o2:=Heap.get?_push_of_some _ (Heap.get?_push_of_some _ (Heap.get?_push_of_some _ (Heap.get?_push_size _ f2)))
 have g1:(zpZ s.heap o1 o2).get? s.heap.objs.size=some o1:=Heap.get?_push_of_some _ (Heap.get?_push_of_some _ (Heap.get?_push_of_some _ (Heap.get?_push_of_some _ (Heap.get?_push_size _ f1))))
 show _∧_
 rw [z2,z3,z4] at g5
 rw [z1,z2] at g3
 rw [z3] at g4
 rw [z1] at g2
 rw [z4]
 exact ⟨⟨_,g5,rfl⟩,h _ g5 g3 g4 g1 g2 z5 fun c o x=>Heap.get?_push_of_some _ (Heap.get?_push_of_some _ (Heap.get?_push_of_some _ (Heap.get?_push_of_some _ (Heap.get?_push_of_some _ x))))⟩
end
section
variable {X:Cx} {pins:List (Addr×Obj)} {σ:St} {H:Hp} {s:Shared} {h':Heap}
theorem Inv.turnedL {t':Nat} {ch:List Addr} (I:Inv X pins σ H s) (k:∀ b o,b∉ch→s.heap.get? b=some o→h'.get? b=some o) (hf:∀ b∈ch,X3 X pins H b):Inv X pins σ H { s with heap:=h',toks:=t' }:=by
 have nit:∀ b u,H b=some u→b∉ch:=fun b u e z=>by rw [(hf b z).1] at e;cases e
 refine I.step (g':=s.gens) (d':=s.drawn) (ch:=ch) (fun b hb=>?_) (fun b o _ _ hc e _=>k b o hc e) (fun b o _ _ hc e _=>⟨o.slots,k b o hc e⟩) (fun _ _ _ _ n=>n)
  (fun b o hc e=>⟨o,k b o hc e⟩) (fun _ _ e=>e) (fun _ _ _ e=>e) (fun b ps e=>⟨#[],by rw [e];simp⟩) (fun m hm=>?_) (fun b u e=>?_) I.bare
 ·obtain ⟨f0,f1,f2,f3,f4,f5⟩:=hf b hb
  exact ⟨f3,f1,f4,f5⟩
 ·obtain ⟨o,es,ep,ho,r⟩:=hm
  exact ⟨o,es,ep,k _ o (fun z=>(hf _ z).2.1 rfl) ho,r⟩
 ·refine (I.hok b u e).stay (fun c v hc q=>k c v ?_ q) (fun _ q=>q) fun _ _ q=>q
  rcases hc with z | z
  ·rw [z];exact nit b u e
  ·exact nit c _ z
theorem Inv.turnedT {t':Nat} {ch:List Addr} {T:Addr} {vs:List V} (I:Inv X pins σ H s) (k:∀ b o,b∉ch→s.heap.get? b=some o→h'.get? b=some o) (hf:∀ b∈ch,X3 X pins H b) (hT:s.heap.objs.size≤T)
  (new:YM X.prog X.w (upd H T (.tup vs)) h' T (.tup vs)):Inv X pins σ (upd H T (.tup vs)) { s with heap:=h',toks:=t' }:=by
 have hn:H T=none:=I.hok.fresh hT
 have nit:∀ b u,H b=some u→b∉ch:=fun b u e z=>by rw [(hf b z).1] at e;cases e
 have nT:∀ b o,s.heap.get? b=some o→b≠T:=fun b o e z=>absurd (Heap.lt_size e) (by rw [z];exact Nat.not_lt.mpr hT)
 have up:∀ b u,H b=some u→upd H T (.tup vs) b=some u:=fun b u e=>by rw [Ym (YK e hn)];exact e
 refine I.step (g':=s.gens) (d':=s.drawn) (ch:=ch) (fun b hb=>?_) (fun b o _ _ hc e _=>k b o hc e) (fun b o _ _ hc e _=>⟨o.slots,k b o hc e⟩) (fun b o _ e n=>by rw [Ym (nT b o e)];exact n)
  (fun b o hc e=>⟨o,k b o hc e⟩) (fun b xs e=>up b _ e) (fun b o u e=>up b _ e) (fun b ps e=>⟨#[],by rw [up b _ e];simp⟩) (fun m hm=>?_) (fun b u e=>?_) I.bare
 ·obtain ⟨f0,f1,f2,f3,f4,f5⟩:=hf b hb
  exact ⟨f3,f1,f4,f5⟩
 ·obtain ⟨o,es,ep,ho,r⟩:=hm
  exact ⟨o,es,ep,k _ o (fun z=>(hf _ z).2.1 rfl) ho,r⟩
 ·by_cases hb:b=T
  ·subst hb;rw [Yh] at e;cases e;exact new
  ·rw [Ym hb] at e
   refine (I.hok b u e).stay (fun c v hc q=>k c v ?_ q) (fun c q=>up c _ q) fun c xs q=>up c _ q
   rcases hc with z | z
   ·rw [z];exact nit b u e
   ·exact nit c _ z
end
def Itz (G1 G2:Hp→List V→Prop):It :=
 ⟨fun i H=>∃ xs ys x y,G1 H xs∧G2 H ys∧xs[i]?=some x∧ys[i]?=some y,fun i H v H'=>∃ T,v = .ref T∧H T=none∧∀ xs ys x y,G1 H xs→G2 H ys→xs[i]?=some x→ys[i]?=some y→H'=upd H T (.tup [x,y]),
  fun i H=>∃ xs ys,G1 H xs∧G2 H ys∧(xs.length≤i∨ys.length≤i)⟩
structure Part (K:PySem.W.Frag) (G:Hp→List V→Prop) (Si:Addr→Nat→Heap→Prop) (R:Heap→(Nat→Option Value)→Prop) (own:Addr):Prop where
 sub:∀ (P:Program) (w:World) (i:Addr),Sub P w i (Si i) R
 ready:∀ (X:Cx),X.K=K→∀ (pins:List (Addr×Obj)) (σ:St) (H:Hp) (s:Shared) (xs:List V),Inv X pins σ H s→G H xs→∃ us:List Value,Yu xs us∧R s.heap (fun k=>us[k]?)
 inj:∀ (X:Cx),X.K=K→∀ (pins:List (Addr×Obj)) (σ:St) (H:Hp) (s:Shared) (xs ys:List V),Inv X pins σ H s→G H xs→G H ys→xs=ys
 keep:∀ h h' g,R h g→(∀ o,h.get? own=some o→h'.get? own=some o)→R h' g
theorem UK {K:PySem.W.Frag} (a:Addr):Part K (fun H xs=>SqT K H a xs) (fun i k h=>h.IsTupleIter i a k) (fun h get=>∃ items:Array Value,h.IsTuple a items∧∀ k,get k=items[k]?) a where
 sub:=fun P w i=>YcG i a
 ready:=fun X hK pins σ H s xs I hq=>by
  subst hK
  obtain ⟨its,r,ht,_⟩:=I.tuple hq
  exact ⟨its,r,its.toArray,ht,fun k=>by simp⟩
 inj:=fun X hK pins σ H s xs ys I h1 h2=>by subst hK;exact I.tuple_inj h1 h2
 keep:=fun h h' g ⟨items,⟨o,e,r⟩,q⟩ k=>⟨items,⟨o,k o e,r⟩,q⟩
theorem Qo {K:PySem.W.Frag} (a:Addr):Part K (fun H xs=>SqL K H a xs) (fun i k h=>h.IsListIter i a k) (fun h get=>∃ items:Array Value,h.IsList a items∧∀ k,get k=items[k]?) a where
 sub:=fun P w i=>Ydt i a
 ready:=fun X hK pins σ H s xs I hq=>by
  subst hK
  obtain ⟨its,r,ht,_⟩:=I.list hq
  exact ⟨its,r,its.toArray,ht.isList,fun k=>by simp⟩
 inj:=fun X hK pins σ H s xs ys I h1 h2=>by subst hK;exact I.list_inj h1 h2
 keep:=fun h h' g ⟨items,⟨o,e,r⟩,q⟩ k=>⟨items,⟨o,k o e,r⟩,q⟩
theorem Ydv {P:Program} {w:World} {K:PySem.W.Frag} {elts:List Expr} {kk:Nat} {pos:Pos} {G1 G2:Hp→List V→Prop} {S1 S2:Addr→Nat→Heap→Prop} {R1 R2:Heap→(Nat→Option Value)→Prop} {a1 a2:Addr}
  (p1:Part K G1 S1 R1 a1) (p2:Part K G2 S2 R2 a2) {z TI TO i1 i2:Addr} (D:ZApart z TI TO i1 i2) (n1:a1∉[z,TO,i1,i2]) (n2:a2∉[z,TO,i1,i2]) :
  Turn P w K (.Tuple elts kk pos) (Itz G1 G2) [z,TI,TO,i1,i2] z (fun i h=>IsZip h z TI TO .none∧IsPair h TI (.ref i1) (.ref i2)∧(∃ a b,IsPair h TO a b)∧S1 i1 i h∧S2 i2 i h) where
 mem:=by simp
 obj:=fun i h ⟨hz,hTI,⟨a,b,hTO⟩,h1,h2⟩ c hc=>by
  simp only [List.mem_cons,List.not_mem_nil,or_false] at hc
  rcases hc with rfl | rfl | rfl | rfl | rfl
  ·exact ⟨_,hz,fun v e=>by cases e⟩
  ·exact ⟨_,hTI,fun v e=>by cases e⟩
  ·exact ⟨_,hTO,fun v e=>by cases e⟩
  ·exact (p1.sub P w _).obj _ _ h1
  ·exact (p2.sub P w _).obj _ _ h2
 keep:=fun i h h' ⟨hz,hTI,⟨a,b,hTO⟩,h1,h2⟩ q =>
  ⟨q z (by simp) _ hz,q TI (by simp) _ hTI,⟨a,b,q TO (by simp) _ hTO⟩,(p1.sub P w i1).keep _ _ _ h1 (q i1 (by simp)),(p2.sub P w i2).keep _ _ _ h2 (q i2 (by simp))⟩
 item:=by
  intro X hP hw hK hc i pins s σ H E I hf ⟨hz,hTI,⟨a,b,hTO⟩,h1,h2⟩ hg
  subst hP hw
  obtain ⟨xs,ys,x,y,g1,g2,hx,hy⟩:=hg
  obtain ⟨us1,r1,rd1⟩:=p1.ready X hK pins σ H s xs I g1
  obtain ⟨us2,r2,rd2⟩:=p2.ready X hK pins σ H s ys I g2
  obtain ⟨u,hu,ru⟩:=r1.get hx
  obtain ⟨v,hv,rv⟩:=r2.get hy
  have out:∀ c,c≠z→c≠TO→c≠i1→c≠i2→c∉[z,TO,i1,i2]:=fun c c1 c2 c3 c4 hm=>by
   simp only [List.mem_cons,List.not_mem_nil,or_false] at hm
   rcases hm with e | e | e | e<;>contradiction
  have sep:∀ {c:Addr},c∉[z,TO,i1,i2]→c≠z∧c≠TO∧c≠i1∧c≠i2:=fun hm=>⟨fun e=>hm (by simp [e]),fun e=>hm (by simp [e]),fun e=>hm (by simp [e]),fun e=>hm (by simp [e])⟩
  obtain ⟨m1,m2,m3,m4⟩:=sep n1
  obtain ⟨m5,m6,m7,m8⟩:=sep n2
  refine Ydu (k:=i) D (p1.sub _ _ i1) (p2.sub _ _ i2) (fun h h' g r q=>p1.keep _ _ _ r fun o e=>q a1 o m1 m2 m3 m4 e) (fun h h' g r q=>p2.keep _ _ _ r fun o e=>q a2 o m5 m6 m7 m8 e) hz hTI hTO h1 h2 rd1 rd2 hu hv fun h' tk hz' hTO' h1' h2' hT' hsz keep=>?_
  refine ⟨_,rfl,?_⟩
  refine wpAny_letOwnedTupleGo_zip (s:={ s with heap:=h',toks:=tk }) hz' fun h'' hz'' sb=>?_
  have zlt:z<s.heap.objs.size:=Heap.lt_size hz
  have kp:∀ c o,c∉[z,TO,i1,i2]→s.heap.get? c=some o→h''.get? c=some o:=fun c o hm e=>by
   obtain ⟨c1,c2,c3,c4⟩:=sep hm
   exact sb.extBut c o c1 (keep c o c1 c2 c3 c4 e)
  have hT'':IsPair h'' s.heap.objs.size u v:=sb.extBut _ _ (Nat.ne_of_gt zlt) hT'
  have fp4:∀ c∈[z,TO,i1,i2],X3 X pins H c:=fun c hm=>hf c (by
   simp only [List.mem_cons,List.not_mem_nil,or_false] at hm ⊢
   rcases hm with e | e | e | e<;>simp [e])
  have I':=I.turnedT (t':=tk) (h':=h'') (T:=s.heap.objs.size) (vs:=[x,y]) kp fp4 (Nat.le_refl _) (show YM X.prog X.w _ h'' _ (.tup [x,y]) from ⟨by show 2≤sizeLine;decide,[u,v],.cons ru (.cons rv .nil),_,hT'',rfl,_,rfl⟩)
  have fresh:H s.heap.objs.size=none:=I.hok.fresh (Nat.le_refl _)
  refine ⟨.ref s.heap.objs.size,_,I',rfl,⟨_,rfl,fresh,fun xs' ys' x' y' g1' g2' hx' hy'=>?_⟩,⟨hz'',sb.extBut _ _ D.a (keep _ _ D.a D.e D.f D.g hTI),⟨_,_,sb.extBut _ _ D.b hTO'⟩,(p1.sub X.prog X.w i1).keep _ _ _ h1' fun o e=>sb.extBut _ _ D.c e,(p2.sub X.prog X.w i2).keep _ _ _ h2' fun o e=>sb.extBut _ _ D.d e⟩,fun c hm=>?_⟩
  ·rw [p1.inj X hK pins σ H s _ _ I g1' g1,hx] at hx'
   rw [p2.inj X hK pins σ H s _ _ I g2' g2,hy] at hy'
   cases hx'
   cases hy'
   rfl
  ·have h0:=(hf c hm).1
   have clt:c<s.heap.objs.size:=by
    simp only [List.mem_cons,List.not_mem_nil,or_false] at hm
    rcases hm with rfl | rfl | rfl | rfl | rfl
    ·exact zlt
    ·exact Heap.lt_size hTI
    ·exact Heap.lt_size hTO
    ·obtain ⟨o,e,_⟩:=(p1.sub X.prog X.w _).obj _ _ h1;exact Heap.lt_size e
    ·obtain ⟨o,e,_⟩:=(p2.sub X.prog X.w _).obj _ _ h2;exact Heap.lt_size e
   rw [Ym (Nat.ne_of_lt clt)]
   exact h0
 done:=by
  intro X hP hw hK hc i pins s σ H E I hf ⟨hz,hTI,⟨a,b,hTO⟩,h1,h2⟩ hg
  subst hP hw
  obtain ⟨xs,ys,g1,g2,hend⟩:=hg
  obtain ⟨us1,r1,rd1⟩:=p1.ready X hK pins σ H s xs I g1
  obtain ⟨us2,r2,rd2⟩:=p2.ready X hK pins σ H s ys I g2
  have sep:∀ {c:Addr},c∉[z,TO,i1,i2]→c≠z∧c≠TO∧c≠i1∧c≠i2:=fun hm=>⟨fun e=>hm (by simp [e]),fun e=>hm (by simp [e]),fun e=>hm (by simp [e]),fun e=>hm (by simp [e])⟩
  obtain ⟨m1,m2,m3,m4⟩:=sep n1
  obtain ⟨m5,m6,m7,m8⟩:=sep n2
  have l1:=r1.length
  have l2:=r2.length
  refine Yep (k:=i) (I.ok.hd hc) D (p1.sub _ _ i1) (p2.sub _ _ i2) (fun h h' g r q=>p1.keep _ _ _ r fun o e=>q a1 o m1 m2 m3 m4 e) (fun h h' g r q=>p2.keep _ _ _ r fun o e=>q a2 o m5 m6 m7 m8 e) hz hTI hTO h1 h2 rd1 rd2 ?_ fun h' tk keep=>?_
  ·rcases hend with e | e
   ·exact .inl (by simp;omega)
   ·exact .inr (by simp;omega)
  ·refine ⟨rfl,I.turnedL (ch:=[z,TO,i1,i2]) (fun c o hm e=>?_) fun c hm=>hf c (by
    simp only [List.mem_cons,List.not_mem_nil,or_false] at hm ⊢
    rcases hm with e | e | e | e<;>simp [e])⟩
   obtain ⟨c1,c2,c3,c4⟩:=sep hm
   exact keep c o c1 c2 c3 c4 e
 self:=fun A i s Q E ⟨hz,_⟩ q=>wpAny_pyIter_zip hz q
end L2
namespace L2
open PySem PySem.Spec PyProof.Rows
section
variable {X:Cx} {elts:List Expr} {kk:Nat} {tpos:Pos}
theorem YbN (n:Nat):ZApart (n+4) (n+2) (n+3) n (n+1):=by
 constructor<;>(intro e;have e':@Eq Nat _ _:=e;omega)
def QG (K:PySem.W.Frag) (ta:TA):TI:=fun σ H R=>ta σ H fun vs H1=>∃ a b xs ys,vs=[.ref a,.ref b]∧SqT K H1 a xs∧SqT K H1 b ys∧R (Itz (fun H xs=>SqT K H a xs) (fun H ys=>SqT K H b ys)) H1
def QH (K:PySem.W.Frag) (ta:TA):TI:=fun σ H R=>ta σ H fun vs H1=>∃ a b xs ys,vs=[.ref a,.ref b]∧SqL K H1 a xs∧SqL K H1 b ys∧R (Itz (fun H xs=>SqL K H a xs) (fun H ys=>SqL K H b ys)) H1
theorem Ybe {pins:List (Addr×Obj)} {σ:St} {H:Hp} {s:Shared} {R:It→Hp→Prop} {E:Value→Shared→Prop} {G1 G2:Hp→List V→Prop} {S1 S2:Addr→Nat→Heap→Prop} {R1 R2:Heap→(Nat→Option Value)→Prop} {a b:Addr} {o1 o2:Obj}
  (I:Inv X pins σ H s) (p1:Part X.K G1 S1 R1 a) (p2:Part X.K G2 S2 R2 b) (t1:X8 s.heap (.ref a) o1) (t2:X8 s.heap (.ref b) o2) (f1:o1.isFreed=false) (f2:o2.isFreed=false) (la:a<s.heap.objs.size) (lb:b<s.heap.objs.size)
  (s1:∀ h i,h.get? i=some o1→S1 i 0 h) (s2:∀ h i,h.get? i=some o2→S2 i 0 h) (q:R (Itz G1 G2) H) :
  wpAny (model X.prog X.w) X.A (call (.type "zip") [.ref a,.ref b]) (fun v s1=>wpAny (model X.prog X.w) X.A (pyIter v) (PIE X pins σ (.Tuple elts kk tpos) R) E s1) E s:=by
 refine YcH t1 t2 f1 f2 fun h' hz hTI hTO g1 g2 hsz keep=>?_
 refine wpAny_pyIter_zip hz ?_
 have I1:Inv X pins σ H { s with heap:=h' }:=I.kept (t':=s.toks) keep
 refine ⟨_,[s.heap.objs.size+4,s.heap.objs.size+2,s.heap.objs.size+3,s.heap.objs.size,s.heap.objs.size+1],_,_,H,rfl,I1,Ydv (K:=X.K) p1 p2 (YbN s.heap.objs.size) ?_ ?_,⟨hz,hTI,⟨_,_,hTO⟩,s1 _ _ g1,s2 _ _ g2⟩,fun c hc=>?_,q⟩
 ·intro hm
  simp only [List.mem_cons,List.not_mem_nil,or_false] at hm
  rcases hm with e | e | e | e<;>(have e':@Eq Nat _ _:=e;have la':@LT.lt Nat _ a s.heap.objs.size:=la;have lb':@LT.lt Nat _ b s.heap.objs.size:=lb;omega)
 ·intro hm
  simp only [List.mem_cons,List.not_mem_nil,or_false] at hm
  rcases hm with e | e | e | e<;>(have e':@Eq Nat _ _:=e;have la':@LT.lt Nat _ a s.heap.objs.size:=la;have lb':@LT.lt Nat _ b s.heap.objs.size:=lb;omega)
 ·have hle:s.heap.objs.size≤c:=by
   simp only [List.mem_cons,List.not_mem_nil,or_false] at hc
   rcases hc with e | e | e | e | e<;>(have e':@Eq Nat _ _:=e;show @LE.le Nat _ s.heap.objs.size c;omega)
  exact I.fpOk hle (I.hok.fresh hle)
theorem Ybf {a b:Expr} {ta:TA} {p pos:Pos} (hg:Gl X "zip") (hm:X.mg "zip"=none) (ha:PA X [a,b] ta) (hs:starEach [a,b] X.env=[(false,eval a X.env),(false,eval b X.env)]) (hs2:starEach [b] X.env=[(false,eval b X.env)]) :
  PI X (.Tuple elts kk tpos) (.Call (.Name "zip" p) [a,b] [] pos) (QG X.K ta):=by
 intro pins s σ H R I h
 refine Call_ (W8 I hg hm boot_zip (PyProof.Rows.callWith_type1 (thn (ha pos pins s σ H _ I h) fun us s1 ⟨vs,H1,I1,r1,q1⟩=>?_) (by rw [hs,hs2]) (by rw [hs2];rfl)))
 obtain ⟨x,y,xs,ys,e,hx,hy,q⟩:=q1
 subst e
 obtain ⟨u,v,rfl,ru,rv⟩:=r1.two
 cases ru
 cases rv
 obtain ⟨i1,_,ht1,_⟩:=I1.tuple hx
 obtain ⟨i2,_,ht2,_⟩:=I1.tuple hy
 have l1:x<s1.heap.objs.size:=by obtain ⟨_,e,_⟩:=ht1;exact Heap.lt_size e
 have l2:y<s1.heap.objs.size:=by obtain ⟨_,e,_⟩:=ht2;exact Heap.lt_size e
 exact Ybe I1 (UK x) (UK y) (VE ht1) (VE ht2) rfl rfl l1 l2 (fun h i e=>⟨_,e,rfl,rfl⟩) (fun h i e=>⟨_,e,rfl,rfl⟩) q
theorem Ybg {a b:Expr} {ta:TA} {p pos:Pos} (hg:Gl X "zip") (hm:X.mg "zip"=none) (ha:PA X [a,b] ta) (hs:starEach [a,b] X.env=[(false,eval a X.env),(false,eval b X.env)]) (hs2:starEach [b] X.env=[(false,eval b X.env)]) :
  PI X (.Tuple elts kk tpos) (.Call (.Name "zip" p) [a,b] [] pos) (QH X.K ta):=by
 intro pins s σ H R I h
 refine Call_ (W8 I hg hm boot_zip (PyProof.Rows.callWith_type1 (thn (ha pos pins s σ H _ I h) fun us s1 ⟨vs,H1,I1,r1,q1⟩=>?_) (by rw [hs,hs2]) (by rw [hs2];rfl)))
 obtain ⟨x,y,xs,ys,e,hx,hy,q⟩:=q1
 subst e
 obtain ⟨u,v,rfl,ru,rv⟩:=r1.two
 cases ru
 cases rv
 obtain ⟨i1,_,ht1,_⟩:=I1.list hx
 obtain ⟨i2,_,ht2,_⟩:=I1.list hy
 have l1:x<s1.heap.objs.size:=by obtain ⟨_,e,_⟩:=ht1.isList;exact Heap.lt_size e
 have l2:y<s1.heap.objs.size:=by obtain ⟨_,e,_⟩:=ht2.isList;exact Heap.lt_size e
 exact Ybe I1 (Qo x) (Qo y) (VR ht1.isList) (VR ht2.isList) rfl rfl l1 l2 (fun h i e=>⟨_,e,rfl,rfl⟩) (fun h i e=>⟨_,e,rfl,rfl⟩) q
theorem Ye6 {J:It} {P:Hp→Prop} {n:Nat} (hgo:∀ i H,P H→i<n→J.go i H) (hstop:∀ H,P H→J.stop n H) {src:List (Option Nat)} {g:TG} {tt:TT} {te:TE} {σ:St} {H1:Hp} {Q:VK} {D:Addr} (Pv:Nat→List V→St→Hp→Prop)
  (h0:Pv 0 [] (YN src σ) (upd H1 D (.lst []))) (hP:∀ i ys σ' H',Pv i ys σ' H'→P H'∧H' D=some (.lst ys))
  (step:∀ i ys σ' H',i<n→Pv i ys σ' H'→∀ x H3,J.yld i H' x H3→g x σ' H3 fun σ2 H4=>tt σ2 H4 fun b H5=>if b=true then te σ2 H5 fun y H6=>H6 D=some (.lst ys)∧ys.length<sizeLine∧Pv (i+1) (ys++[y]) σ2 (upd H6 D (.lst (ys++[y]))) else Pv (i+1) ys σ2 H5)
  (fin:∀ ys σ' H',Pv n ys σ' H'→Q (.ref D) H') :
  LC src J g tt te σ H1 Q D:=by
 refine ⟨fun i m ys σ' H'=>m=n - i∧i≤n∧Pv i ys σ' H',⟨n,by simp,Nat.zero_le _,h0⟩,?_⟩
 rintro i m ys σ' H2 ⟨rfl,hi,p⟩
 obtain ⟨hp,hD⟩:=hP i ys σ' H2 p
 refine ⟨hD,?_⟩
 by_cases hlt:i<n
 ·refine .inr ⟨hgo i H2 hp hlt,fun ys' σ3 H3=>Pv (i+1) ys' σ3 H3,fun ys' σ3 H3 p'=>⟨n - (i+1),by omega,rfl,hlt,p'⟩,fun x H3 y=>step i ys σ' H2 hlt p x H3 y⟩
 ·have e:i=n:=by omega
  subst e
  exact .inl ⟨hstop H2 hp,fin ys σ' H2 p⟩
theorem QI {J:It} {P:Hp→Prop} {xs:List V} (hJ:Wq J P xs) {src:List (Option Nat)} {g:TG} {te:TE} {σ:St} {H1:Hp} {Q:VK} {D:Addr} (Pv:Nat→List V→St→Hp→Prop)
  (h0:Pv 0 [] (YN src σ) (upd H1 D (.lst []))) (hP:∀ i ys σ' H',Pv i ys σ' H'→P H'∧H' D=some (.lst ys))
  (mono:∀ x σ H Q Q',(∀ σ' H',Q σ' H'→Q' σ' H')→g x σ H Q→g x σ H Q')
  (step:∀ i ys σ' H' x,xs[i]?=some x→Pv i ys σ' H'→g x σ' H' fun σ2 H4=>te σ2 H4 fun y H6=>H6 D=some (.lst ys)∧ys.length<sizeLine∧Pv (i+1) (ys++[y]) σ2 (upd H6 D (.lst (ys++[y]))))
  (fin:∀ ys σ' H',Pv xs.length ys σ' H'→Q (.ref D) H'):LC src J g XN te σ H1 Q D :=
 lc_by hJ Pv h0 hP (fun i ys σ' H' x hx p=>by
  refine mono _ _ _ _ _ ?_ (step i ys σ' H' x hx p)
  intro σ2 H4 q
  unfold XN
  dsimp only
  rw [if_pos rfl]
  exact q) fin
theorem WB (i:Nat):∀ x σ H Q Q',(∀ σ' H',Q σ' H'→Q' σ' H')→YD i x σ H Q→YD i x σ H Q':=fun _ _ _ _ _ h q=>h _ _ q
theorem YcI {J:It} {P:Hp→Prop} {n:Nat} (hgo:∀ i H,P H→i<n→J.go i H) (hstop:∀ H,P H→J.stop n H) {src:List (Option Nat)} {g:TG} {te:TE} {σ:St} {H1:Hp} {Q:VK} {D:Addr} (Pv:Nat→List V→St→Hp→Prop)
  (h0:Pv 0 [] (YN src σ) (upd H1 D (.lst []))) (hP:∀ i ys σ' H',Pv i ys σ' H'→P H'∧H' D=some (.lst ys))
  (mono:∀ x σ H Q Q',(∀ σ' H',Q σ' H'→Q' σ' H')→g x σ H Q→g x σ H Q')
  (step:∀ i ys σ' H',i<n→Pv i ys σ' H'→∀ x H3,J.yld i H' x H3→g x σ' H3 fun σ2 H4=>te σ2 H4 fun y H6=>H6 D=some (.lst ys)∧ys.length<sizeLine∧Pv (i+1) (ys++[y]) σ2 (upd H6 D (.lst (ys++[y]))))
  (fin:∀ ys σ' H',Pv n ys σ' H'→Q (.ref D) H'):LC src J g XN te σ H1 Q D :=
 Ye6 hgo hstop Pv h0 hP (fun i ys σ' H' hi p x H3 y=>by
  refine mono _ _ _ _ _ ?_ (step i ys σ' H' hi p x H3 y)
  intro σ2 H4 q
  unfold XN
  dsimp only
  rw [if_pos rfl]
  exact q) fin
end
end L2
namespace L2
open PySem PySem.Spec PyProof.Rows
structure Gx where
 P:Program
 w:World
 K:PySem.W.Frag
 mg:Str→Option Value
 base:Heap
def Cx.gx (X:Cx):Gx:=⟨X.prog,X.w,X.K,X.mg,X.base⟩
def Gx.Raw (g:Gx) (x qual:Str) (st:Stmt) (ps:List Str):Prop:=∃ f fd,Fun g.K x qual st f fd∧XC g.K fd ps []∧g.mg x=some (.ref f)
def Gx.Fn (g:Gx) (k:Nat) (x:Str) (ps:List Str) (sp:Sp):Prop:=∃ f fd,FnOk g.P g.w g.K g.mg g.base CX0 k f fd ps sp∧XC g.K fd ps []∧PySem.W.keepIn g.K (.ref f)=true∧g.mg x=some (.ref f)
def Gx.RawM (g:Gx) (C:Addr) (m qual:Str) (st:Stmt) (ps:List Str):Prop:=∃ f fd,Fun g.K m qual st f fd∧XC g.K fd ps []∧Meth g.K C m f
def Gx.Me (g:Gx) (k:Nat) (C:Addr) (m:Str) (ps:List Str) (sp:Sp):Prop:=∃ f fd,FnOk g.P g.w g.K g.mg g.base CX0 k f fd ps sp∧XC g.K fd ps []∧Meth g.K C m f
abbrev Gx.cx (g:Gx) (N:List Str) (qual:Str) (st:Stmt) (f:Addr) (cdv:Value) (A:Around) (outer:List Env) (s:Shared) (H:Hp) (E:XK):Cx:=(W4 CX0 g.P g.w g.K g.mg g.base N qual (Yn st) f cdv A outer s H E).nox
def Q5 (g:Gx) (k:Nat) (N:List Str) (qual:Str) (st:Stmt) (sp:Sp):Prop:=∀ (f:Addr) (cdv:Value) (A:Around) (outer:List Env) (s:Shared) (H:Hp) (vs:List V) (Q:VK) (E:XK),Room k (g.cx N qual st f cdv A outer s H E).A→sp vs H Q E →
 ∃ t,PSs (g.cx N qual st f cdv A outer s H E) (Xa st) t∧t { nx:=fun _ H'=>Q .non H',rt:=Q } (start N vs) H
section
variable {g:Gx} {k:Nat} {x qual m:Str} {st:Stmt} {N ps:List Str} {sp:Sp} {C:Addr}
theorem Gx.Raw.fn (R:g.Raw x qual st ps) (S:FnScope N ps (Yn st)) (len:∀ vs H Q E,sp vs H Q E→vs.length=ps.length) (b:Q5 g k N qual st sp):g.Fn (k+1) x ps sp:=by
 obtain ⟨f,fd,F,bd,hm⟩:=R
 exact ⟨f,fd,F.ok S len fun cdv A outer s H vs Q E hr h=>b f cdv A outer s H vs Q E hr h,bd,F.kp,hm⟩
theorem Gx.Fn.mono {j:Nat} (F:g.Fn j x ps sp) (h:j≤k):g.Fn k x ps sp:=by
 obtain ⟨f,fd,F,r⟩:=F
 exact ⟨f,fd,F.mono h,r⟩
theorem Gx.Raw.none (R:g.Raw x qual st ps) (no:∀ vs H Q E,¬ sp vs H Q E):g.Fn k x ps sp:=by
 obtain ⟨f,fd,F,bd,hm⟩:=R
 exact ⟨f,fd,⟨fun vs H Q E h=>absurd h (no vs H Q E),fun A outer s H args us vs Q E _ _ _ _ h=>absurd h (no vs H Q E)⟩,bd,F.kp,hm⟩
theorem Gx.RawM.none (R:g.RawM C m qual st ps) (no:∀ vs H Q E,¬ sp vs H Q E):g.Me k C m ps sp:=by
 obtain ⟨f,fd,F,bd,hm⟩:=R
 exact ⟨f,fd,⟨fun vs H Q E h=>absurd h (no vs H Q E),fun A outer s H args us vs Q E _ _ _ _ h=>absurd h (no vs H Q E)⟩,bd,hm⟩
end
section
variable {g:Gx} {X:Cx} {k j:Nat} {x m:Str} {ps:List Str} {sp:Sp} {C:Addr} {e o:Expr} {es:List Expr} {t:TA} {ta:TE} {p pos apos:Pos}
theorem Yt (F:g.Fn j x ps sp) (hr:Room k X.A) (ha:PA X (e::es) t) (hj:j≤k) (hX:X.gx=g) (hg:Gl X x) (hdb:(x==("__debug__":Str))=false)
  (he:starEach (e::es) X.env=(false,eval e X.env)::starEach es X.env) (hpl:(backTo pos (starEach es X.env)).any (·.1)=false):PE X (.Call (.Name x p) (e::es) [] pos) (UE sp [] E0 t):=by
 subst hX
 obtain ⟨f,fd,F,b,kp,hm⟩:=F
 exact Ya9 F (hr.mono hj) hg hm kp b .nil QF ha hdb he hpl
theorem Yz {id:String} {r:List V→Hp→VK→Prop} (hm:g.mg x=none) (hc:Xk X (.builtin id) r) (ha:PA X (e::es) t) (hv:bootBuiltins x=some (.builtin id)) (hX:X.gx=g) (hg:Gl X x) (hn:x≠"__name__") (hdb:(x==("__debug__":Str))=false)
  (he:starEach (e::es) X.env=(false,eval e X.env)::starEach es X.env) (hpl:(backTo pos (starEach es X.env)).any (·.1)=false):PE X (.Call (.Name x p) (e::es) [] pos) (tCB r t):=by
 subst hX
 exact Ydo hc hg hm hv ha hn hdb he hpl
theorem UL {T:String} {r:List V→Hp→VK→Prop} (hm:g.mg x=none) (hc:Xk X (.type T) r) (ha:PA X (e::es) t) (hv:bootBuiltins x=some (.type T)) (hX:X.gx=g) (hg:Gl X x) (hn:x≠"__name__") (hdb:(x==("__debug__":Str))=false)
  (he:starEach (e::es) X.env=(false,eval e X.env)::starEach es X.env) (hpl:(backTo pos (starEach es X.env)).any (·.1)=false):PE X (.Call (.Name x p) (e::es) [] pos) (tCB r t):=by
 subst hX
 exact YcA hc hg hm hv ha hn hdb he hpl
theorem YG {T:String} (hm:g.mg x=none) (hv:bootBuiltins x=some (.type T)) (hX:X.gx=g) (hg:Gl X x) (hn:x≠"__name__") (hdb:(x==("__debug__":Str))=false):PE X (.Name x pos) (tC (.ty T)):=by
 subst hX
 exact Yeg hg hm hv rfl hn hdb
end
theorem Ye7 {H:Hp} {p:Addr} {o:HO} (h:H p=some o):upd H p o=H:=by
 funext b
 unfold upd
 split
 ·rename_i e;rw [e,h]
 ·rfl
def S (l:List Nat):Str:=⟨l.toArray⟩
theorem Yd9 (a b:List Nat):S a++S b=S (a++b):=by
 show Str.append (S a) (S b)=S (a++b)
 simp [Str.append,S]
def QJ (s:List Nat):List (List Nat)→List Nat
 | []=>[]
 | [x]=>x
 | x::y::r=>x++s++QJ s (y::r)
theorem Ye8 (s:List Nat):∀ ys:List (List Nat),Txt.join (S s) (ys.map S)=S (QJ s ys):=fun ys=>by
 have e:Txt.join (S s) (ys.map S)=Str.join (S s) (ys.map S):=eq_of_beq (join_plain_closes _ _)
 rw [e]
 induction ys with
 | nil=>rfl
 | cons x r ih =>
  cases r with
  | nil=>rfl
  | cons y r =>
   have ih':=ih (eq_of_beq (join_plain_closes _ _))
   show S x++S s++Str.join (S s) ((y::r).map S)=_
   rw [ih',Yd9,Yd9]
   rfl
end L2
namespace L2
open PySem PySem.Spec PyProof.Rows
section
variable {K:PySem.W.Frag} {h:Heap} {mg:Str→Option Value} {P:Program} {w:World} {base:Heap} {f C:Addr} {x qual m:Str} {st:Stmt} {ps:List Str} {oc kV dc pm cd ct:Value} {od an:Option Addr} {sl:Array (Option Value)}
theorem YH (X:K.In h) (G:h.Ns mainGlobals mg) (ps:List Str)
  (a:PySem.W.nsIn K mainGlobals x=some (some (.ref f))) (l:K.lookup f=some ⟨oc,od,.func (PySem.W.fnOf x x (Xv st) (Xa st) (Yn st) .none kV dc pm an cd ct),sl⟩) (c:PySem.W.codeIn K cd x=true) (k:PySem.W.keepIn K (.ref f)=true)
  (b:∀ (kV doc pm:Value) (an:Option Addr) (cdv ct:Value) (us:List Value),us.length=ps.length→bindArgs (PySem.W.fnOf x x (Xv st) (Xa st) (Yn st) .none kV doc pm an cdv ct) ⟨us,[]⟩=pure (ps.zip us)) :
  ∀ P w base,(Gx.mk P w K mg base).Raw x x st ps:=fun P w base =>
 have F:=UI (st:=st) l c k
 ⟨f,_,F,F.binds b,PySem.W.mg_of X G a⟩
end
def YcJ (K:PySem.W.Frag) (mg:Str→Option Value) (st:Stmt) (x n:Str):Prop:=∃ f fd,Fun K n n st f fd∧(∀ (s:Shared) (u:Value),BindsTo s fd ⟨[u],[]⟩ [(x,u)])∧mg n=some (.ref f)
theorem YcK {K:PySem.W.Frag} {h:Heap} {mg:Str→Option Value} {f:Addr} {x n:Str} {st:Stmt} {oc kV dc pm cd ct:Value} {od an:Option Addr} {sl:Array (Option Value)} (X:K.In h) (G:h.Ns mainGlobals mg)
  (a:PySem.W.nsIn K mainGlobals n=some (some (.ref f))) (l:K.lookup f=some ⟨oc,od,.func (PySem.W.fnOf n n (Xv st) (Xa st) (Yn st) .none kV dc pm an cd ct),sl⟩) (c:PySem.W.codeIn K cd n=true) (k:PySem.W.keepIn K (.ref f)=true)
  (b:∀ (kV doc pm:Value) (an:Option Addr) (cdv ct:Value) (s:Shared) (u:Value),BindsTo s (PySem.W.fnOf n n (Xv st) (Xa st) (Yn st) .none kV doc pm an cdv ct) ⟨[u],[]⟩ [(x,u)]):YcJ K mg st x n :=
 ⟨f,_,UI (st:=st) l c k,b kV dc pm an cd ct,PySem.W.mg_of X G a⟩
end L2
namespace L2
open PySem PySem.Spec PyProof.Rows
section
variable {X:Cx}
theorem Ybh {a:Int} {m:Nat} (h:a.natAbs<2^m):Builtin.Int.intBits a≤m:=by
 unfold Builtin.Int.intBits
 split
 ·omega
 ·rename_i h0
  have h0:a.natAbs≠0:=by simpa using h0
  have:=(Nat.log2_lt h0).mpr h
  omega
def QK (i j:Int):Prop:=∃ m n:Nat,i.natAbs<2^m∧j.natAbs<2^n∧m+n≤100000000
theorem QK.ok {i j:Int} (h:QK i j):IntMulOk i j:=by
 obtain ⟨m,n,h1,h2,h3⟩:=h
 exact IntMulOk.of_le (Ybh h1) (Ybh h2) (by omega)
def Vu (i j:Int):Prop:=0<j∧j.natAbs<2^9000
theorem Xz:OpR X (binaryOp .FloorDiv) (rI Vu fun i j => .int (i / j)):=opI fun i j _ _ _ _ _ hc q=>by
 have h1:(0:Int)<j:=hc.1
 have h2:=hc.2
 have h3:j.natAbs≠0:=by omega
 exact floordiv_int (by omega) (by rw [Int.fdiv_eq_ediv_of_nonneg i (by omega)];exact q) (.inl (PyProof.noPylong_of_log2 ((Nat.log2_lt h3).mpr h2)))
theorem Xg {j:Int} (h:0<j) (h2:j<1073741824) {i:Int}:Vu i j:=⟨h,Nat.lt_of_lt_of_le (show j.natAbs<2^30 by omega) (Nat.pow_le_pow_right (by decide) (by decide))⟩
end
end L2
namespace L2
open PySem PySem.Spec PyProof.Rows
theorem Ye9 {CX:CXT} {P:Program} {w:World} {K:PySem.W.Frag} {mg:Str→Option Value} {base:Heap} {N:List Str} {qual:Str} {scope:Scope} {f:Addr} {cd:Value} {A:Around} {outer:List Env} {s:Shared} {H:Hp} {E:XK} :
  (W4 CX P w K mg base N qual scope f cd A outer s H E).K=K:=rfl
theorem nox_K {X:Cx}:X.nox.K=X.K:=rfl
section
variable {g:TG} {tb:TS} {D:Ends} {σ:St} {H:Hp}
theorem YaR {ta:TA} {n:Nat} (Pv:Nat→St→Hp→Prop) (ha:∀ R:List V→Hp→Prop,R [.int n] H→ta σ H R) (hn:n<2^62) (h0:Pv 0 σ H)
  (hs:∀ i σ H,i<n→Pv i σ H→g (.int i) σ H fun σ2 H2=>tb { D with nx:=Pv (i+1),ct:=Pv (i+1),bk:=D.nx } σ2 H2) (hd:∀ σ H,Pv n σ H→D.nx σ H):X4 (UB ta) g tb D σ H:=by
 refine ha _ ⟨n,rfl,by omega,by omega,?_⟩
 refine Ycq (lo:=0) (n:=n) Pv h0 (fun i σ H hi p=>?_) hd
 have e:(0:Int)+i=i:=by omega
 rw [e];exact hs i σ H hi p
theorem VS {K:PySem.W.Frag} {tl:TE} {a:Addr} {xs:List V} (Pv:Nat→St→Hp→Prop) (ha:∀ R:V→Hp→Prop,R (.ref a) H→tl σ H R) (h0:Pv 0 σ H) (hl:∀ i σ H,i≤xs.length→Pv i σ H→SqL K H a xs)
  (hs:∀ i x σ H,xs[i]?=some x→Pv i σ H→g x σ H fun σ2 H2=>tb { D with nx:=Pv (i+1),ct:=Pv (i+1),bk:=D.nx } σ2 H2) (hd:∀ σ H,Pv xs.length σ H→D.nx σ H):X4 (WU K tl) g tb D σ H:=by
 refine ha _ ⟨a,rfl,⟨xs,hl 0 σ H (Nat.zero_le _) h0⟩,?_⟩
 exact QV Pv h0 hl hs hd
end
end L2
namespace L2
open PySem PySem.Spec PyProof.Rows
section
variable {X:Cx}
theorem VF (hc:X.calm=true:=by rfl):Xk X (.builtin "sum") (fun xs H Q=>∃ (p:Addr) (ns:List Int),xs=[.ref p]∧SqL X.K H p (ns.map V.int)∧Q (.int ns.sum) H):=by
 intro pins s σ H xs us Q I r h
 obtain ⟨p,ns,rfl,hq,q⟩:=h
 obtain ⟨u,rfl,rx⟩:=Wg r
 cases rx
 obtain ⟨its,r',pl,hz⟩:=I.list hq
 have hi:=UF r'
 have hl:=pl.isList
 obtain ⟨xs,ex⟩:=hi.allInts.items
 rw [ex] at hl
 have e:preSum (numAt xs) xs.size=ns.sum:=by
  have h1:=nums_intItems (xs:=xs)
  rw [← ex] at h1
  have h2:=hi.numsOf
  rw [preSum_eq,List.take_of_length_le (by simp)]
  rw [← h1]
  exact congrArg List.sum h2
 refine sum_intListG (I.ok.hd hc) hl fun h' tk t' hk=>?_
 rw [e]
 exact ⟨.int _,H,I.kept (t':=tk) hk,⟨t',rfl⟩,q⟩
end
section
variable {X:Cx} {elts:List Expr} {kk:Nat} {tpos:Pos}
end
end L2
namespace L2
open PySem PySem.Spec PyProof.Rows
mutual
inductive Den (K:PySem.W.Frag) (H:Hp):V→PyData→Prop
 | non:Den K H .non .none
 | bl (b:Bool):Den K H (.bl b) (.bool b)
 | int (i:Int):Den K H (.int i) (.int i)
 | str (x:Str) (h:PyData.strOk x=true):Den K H (.str x) (.str x)
 | lst {a:Addr} {vs:List V} {ds:List PyData}:SqL K H a vs→Dens K H vs ds→Den K H (.ref a) (.list ds)
 | tup {a:Addr} {vs:List V} {ds:List PyData}:SqT K H a vs→Dens K H vs ds→Den K H (.ref a) (.tuple ds)
inductive Dens (K:PySem.W.Frag) (H:Hp):List V→List PyData→Prop
 | nil:Dens K H [] []
 | cons {v:V} {d:PyData} {vs:List V} {ds:List PyData}:Den K H v d→Dens K H vs ds→Dens K H (v::vs) (d::ds)
end
mutual
theorem Den.keep {K:PySem.W.Frag} {H H':Hp} (e:Yf H H'):∀ {v:V} {d:PyData},Den K H v d→Den K H' v d
 | _,_,.non => .non
 | _,_,.bl b => .bl b
 | _,_,.int i => .int i
 | _,_,.str x h => .str x h
 | _,_,.lst h hs => .lst (e.seq h) (hs.keep e)
 | _,_,.tup h hs => .tup (e.tup h) (hs.keep e)
theorem Dens.keep {K:PySem.W.Frag} {H H':Hp} (e:Yf H H'):∀ {vs:List V} {ds:List PyData},Dens K H vs ds→Dens K H' vs ds
 | _,_,.nil => .nil
 | _,_,.cons h hs => .cons (h.keep e) (hs.keep e)
end
mutual
theorem Den.lay {K:PySem.W.Frag} {H:Hp}:∀ {v:V} {d:PyData},Den K H v d→d.canLay0=true
 | _,_,.non=>rfl
 | _,_,.bl b=>rfl
 | _,_,.int i=>rfl
 | _,_,.str x h=>by simpa [PyData.canLay0] using h
 | _,_,.lst _ hs=>by rw [PyData.canLay0];exact hs.lay
 | _,_,.tup _ hs=>by rw [PyData.canLay0];exact hs.lay
theorem Dens.lay {K:PySem.W.Frag} {H:Hp}:∀ {vs:List V} {ds:List PyData},Dens K H vs ds→PyData.canLayAll0 ds=true
 | _,_,.nil=>rfl
 | _,_,.cons h hs=>by rw [PyData.canLayAll0,h.lay,hs.lay];rfl
end
theorem Dens.length {K:PySem.W.Frag} {H:Hp}:∀ {vs:List V} {ds:List PyData},Dens K H vs ds→vs.length=ds.length
 | _,_,.nil=>rfl
 | _,_,.cons _ hs=>congrArg (·+1) hs.length
theorem Dens.ints {K:PySem.W.Frag} {H:Hp}:∀ ns:List Int,Dens K H (ns.map V.int) (ns.map PyData.int)
 | [] => .nil
 | n::ns => .cons (.int n) (.ints ns)
theorem Dens.append {K:PySem.W.Frag} {H:Hp} {vs':List V} {ds':List PyData}:∀ {vs:List V} {ds:List PyData},Dens K H vs ds→Dens K H vs' ds'→Dens K H (vs++vs') (ds++ds')
 | _,_,.nil,h=>h
 | _,_,.cons a b,h => .cons a (b.append h)
section
variable {X:Cx}
mutual
theorem Den.reads {pins:List (Addr×Obj)} {σ:St} {H:Hp} {s:Shared} (I:Inv X pins σ H s):∀ {v:V} {d:PyData} {u:Value},Den X.K H v d→YC v u→∃ as,Reads s.heap u d as
 | _,_,u,.non,r=>by cases (show u = .none from r);exact ⟨_,.none⟩
 | _,_,u,.bl b,r=>by cases (show u = .bool b from r);exact ⟨_,.bool b⟩
 | _,_,u,.int i,r=>by obtain ⟨t,rfl⟩:=r;exact ⟨_,.int i t⟩
 | _,_,u,.str x h,r=>by obtain ⟨t,rfl⟩:=r;exact ⟨_,.str x t⟩
 | _,_,u,.lst (a:=a) h hs,r=>by
  cases (show u = .ref a from r)
  obtain ⟨its,rv,pl,hz⟩:=I.list h
  obtain ⟨as,ra⟩:=hs.reads I rv
  obtain ⟨o,e1,e2,n,e3⟩:=pl.isList
  exact ⟨_,.list e1 e2 e3 (by simpa using ra)⟩
 | _,_,u,.tup (a:=a) h hs,r=>by
  cases (show u = .ref a from r)
  obtain ⟨its,rv,pl,hz⟩:=I.tuple h
  obtain ⟨as,ra⟩:=hs.reads I rv
  obtain ⟨o,e1,e2,n,e3⟩:=(show s.heap.IsTuple a its.toArray from pl)
  exact ⟨_,.tuple e1 e2 e3 (by simpa using ra)⟩
theorem Dens.reads {pins:List (Addr×Obj)} {σ:St} {H:Hp} {s:Shared} (I:Inv X pins σ H s):∀ {vs:List V} {ds:List PyData} {us:List Value},Dens X.K H vs ds→Yu vs us→∃ as,ReadsAll s.heap us ds as
 | _,_,us,.nil,r=>by cases r;exact ⟨_,.nil⟩
 | _,_,us,.cons h hs,r=>by
  cases r with
  | cons r rr =>
   obtain ⟨as,ra⟩:=h.reads I r
   obtain ⟨bs,rb⟩:=hs.reads I rr
   exact ⟨_,.cons ra rb⟩
end
theorem Vf (hu:X.A.units+64<cLine):OpR X (compareOp .Eq) (fun x y H Q=>∃ d e,Den X.K H x d∧Den X.K H y e∧d.depth≤64∧Q (.bl (PyData.eqv d e)) H):=by
 intro pins s σ H x y v u Q I rx ry h
 obtain ⟨d,e,hd,he,dp,q⟩:=h
 obtain ⟨as,ra⟩:=hd.reads I rx
 obtain ⟨bs,rb⟩:=he.reads I ry
 exact SeqAt.rcAt_reads ra rb hd.lay he.lay (by omega) _ _ _ _ ⟨.bl _,H,I,rfl,q⟩
end
theorem UM:∀ ns:List Int,PyData.depthAll (ns.map PyData.int)≤1
 | []=>by simp [PyData.depthAll]
 | n::ns=>by
  have:=UM ns
  rw [List.map_cons,PyData.depthAll,PyData.depth]
  omega
theorem X9 {α:Type} {l:List α} {i:Nat} {x:α} (h:l[i]?=some x):l.take (i+1)=l.take i++[x]:=by
 obtain ⟨hi,hc⟩:=List.getElem?_eq_some_iff.mp h
 rw [List.take_succ_eq_append_getElem hi,hc]
theorem UN {J:It} {P:Hp→Prop} {xs:List V} (hJ:Wq J P xs) {src:List (Option Nat)} {te:TE} {σ:St} {H1:Hp} {Q:VK} {D:Addr} (ys:List V) (hP:∀ H',Yf H1 H'→P H') (hD:H1 D=none) (hl:ys.length=xs.length) (hlen:xs.length≤100000)
  (step:∀ (i:Nat) x y H',xs[i]?=some x→ys[i]?=some y→Yf H1 H'→∀ R:VK,(∀ H'',Yf H' H''→R y H'')→te (some x::YN src σ) H' R)
  (fin:∀ H',Yf H1 H'→H' D=some (.lst ys)→Q (.ref D) H'):LC (none::src) J (YD 0) XN te σ H1 Q D:=by
 have h6:100000<sizeLine:=by decide
 refine QI hJ (fun i zs σ' H'=>zs=ys.take i∧(∃ o,σ'=o::YN src σ)∧Yf H1 H'∧H' D=some (.lst zs)) ⟨by simp,⟨none,rfl⟩,.upd_new hD _,Yh⟩ (fun i zs σ' H' p=>⟨hP _ p.2.2.1,p.2.2.2⟩) (WB 0) ?_ ?_
 ·rintro i zs σ' H' x hx ⟨rfl,⟨o,rfl⟩,sm,hd⟩
  have hi:=(List.getElem?_eq_some_iff.mp hx).1
  have hy:ys[i]?=some (ys[i]'(by omega)):=List.getElem?_eq_getElem _
  show te (some x::YN src σ) H' _
  refine step i x _ H' hx hy sm _ fun H'' s2=>⟨s2 _ _ hd,?_,(X9 hy).symm,⟨_,rfl⟩,.upd_over hD (sm.trans s2) _,Yh⟩
  rw [List.length_take];omega
 ·rintro zs σ' H' ⟨rfl,_,sm,hd⟩
  rw [← hl,List.take_length] at hd
  exact fin H' sm hd
theorem YaS (K:PySem.W.Frag) (i j:Nat):∀ x σ H Q Q',(∀ σ' H',Q σ' H'→Q' σ' H')→WI K 2 (Xm (YD i) (Xm (YD j) WH)) x σ H Q→WI K 2 (Xm (YD i) (Xm (YD j) WH)) x σ H Q':=by
 rintro x σ H Q Q' h ⟨a,xs,e,sq,l,v,r,e1,v2,r2,e2,e3,q⟩
 exact ⟨a,xs,e,sq,l,v,r,e1,v2,r2,e2,e3,h _ _ q⟩
end L2
namespace L2
open PySem PySem.Spec PyProof.Rows
section
variable {a b c d e r:TS} {D:Ends} {σ:St} {H:Hp} (M:St→Hp→Prop) (h1:∀ σ H,M σ H→r D σ H)
include h1
theorem Xo (h2:∀ N:St→Hp→Prop,(∀ σ H,M σ H→N σ H)→a { D with nx:=N } σ H):Wv a r D σ H:=h2 (r D) h1
theorem Uq (h2:∀ N:St→Hp→Prop,(∀ σ H,M σ H→N σ H)→Wv a b { D with nx:=N } σ H):Wv a (Wv b r) D σ H:=h2 (r D) h1
theorem cut3 (h2:∀ N:St→Hp→Prop,(∀ σ H,M σ H→N σ H)→Wv a (Wv b c) { D with nx:=N } σ H):Wv a (Wv b (Wv c r)) D σ H:=h2 (r D) h1
end
theorem Yeq (i j:Int):Um (.int i) (.int j)=true:=rfl
theorem Yer (i j:Str):Um (.str i) (.str j)=true:=rfl
theorem Ydw {α:Type} (xs:List α) (i j:Nat):(xs.drop (min i xs.length)).take (min j xs.length - min i xs.length)=(xs.drop i).take (j - i):=by
 by_cases hi:i≤xs.length
 ·rw [Nat.min_eq_left hi]
  by_cases hj:j≤xs.length
  ·rw [Nat.min_eq_left hj]
  ·rw [Nat.min_eq_right (by omega),List.take_of_length_le (by rw [List.length_drop];omega),List.take_of_length_le (by rw [List.length_drop];omega)]
 ·rw [List.drop_of_length_le (by omega),List.drop_of_length_le (show xs.length≤i by omega)]
  simp
theorem Yes (xs:List V) (j:Nat):U3 xs none (some (j:Int))=xs.take j:=by
 unfold U3
 rw [HT.sIx_nat,HT.sIx_none,List.drop_zero,Nat.sub_zero]
 have:=Ydw xs 0 j
 simpa using this
end L2
namespace L2
open PySem PySem.Spec PyProof.Rows
section
variable {X:Cx} {tg:Expr}
end
end L2
namespace L2
open PySem PySem.Spec PyProof.Rows
end L2
namespace L2
open PySem PySem.Spec PyProof.Rows
section
variable {src:List (Option Nat)} {te:TE} {σ:St} {H:Hp} {Q:VK}
theorem YbO {ta:TA} {n:Nat} (ys:List V) (ha:∀ R:List V→Hp→Prop,R [.int n] H→ta σ H R) (hl:ys.length=n) (hlen:n≤100000)
  (step:∀ (i:Nat) y H',i<n→ys[i]?=some y→Yf H H'→∀ R:VK,(∀ H'',Yf H' H''→R y H'')→te (some (.int i)::YN src σ) H' R)
  (fin:∀ D H',H D=none→Yf H H'→H' D=some (.lst ys)→Q (.ref D) H'):tLC (none::src) (UB ta) (YD 0) XN te σ H Q:=by
 refine ha _ ⟨n,rfl,by omega,by omega,fun D hD=>?_⟩
 refine UN (W5 (lo:=0) (n:=n) (P:=fun _=>True)) ys (fun _ _=>trivial) hD (by simpa using hl) (by simpa using hlen) (fun i x y H' hx hy sm R r=>?_) fun H'=>fin D H' hD
 have hi:i<n:=by have:=(List.getElem?_eq_some_iff.mp hx).1;simpa using this
 rw [List.getElem?_map,List.getElem?_range hi] at hx
 have e:V.int (0+(i:Int))=x:=Option.some.inj hx
 rw [Int.zero_add] at e
 subst e
 exact step i y H' hi hy sm R r
theorem Q6 {K:PySem.W.Frag} {tl:TE} {a:Addr} {xs:List V} (ys:List V) (ha:∀ R:V→Hp→Prop,R (.ref a) H→tl σ H R) (hS:SqL K H a xs) (hl:ys.length=xs.length) (hlen:xs.length≤100000)
  (step:∀ (i:Nat) x y H',xs[i]?=some x→ys[i]?=some y→Yf H H'→∀ R:VK,(∀ H'',Yf H' H''→R y H'')→te (some x::YN src σ) H' R)
  (fin:∀ D H',H D=none→Yf H H'→H' D=some (.lst ys)→Q (.ref D) H'):tLC (none::src) (WU K tl) (YD 0) XN te σ H Q :=
 ha _ ⟨a,rfl,⟨xs,hS⟩,fun D hD=>UN (Vs.imp fun H' (e:Yf H H')=>e.seq hS) ys (fun _ e=>e) hD hl hlen step fun H'=>fin D H' hD⟩
theorem VT {K:PySem.W.Frag} {tl:TE} {xs:List V} (ys:List V) (ha:∀ R:V→Hp→Prop,(∀ a H1,Yf H H1→SqL K H1 a xs→R (.ref a) H1)→tl σ H R) (hl:ys.length=xs.length) (hlen:xs.length≤100000)
  (step:∀ (i:Nat) x y H',xs[i]?=some x→ys[i]?=some y→Yf H H'→∀ R:VK,(∀ H'',Yf H' H''→R y H'')→te (some x::YN src σ) H' R)
  (fin:∀ D H',H D=none→Yf H H'→H' D=some (.lst ys)→Q (.ref D) H'):tLC (none::src) (WU K tl) (YD 0) XN te σ H Q :=
 ha _ fun a H1 s1 hS=>⟨a,rfl,⟨xs,hS⟩,fun D hD=>UN (Vs.imp fun H' (e:Yf H1 H')=>e.seq hS) ys (fun _ e=>e) hD hl hlen (fun i x y H' hx hy sm R r=>step i x y H' hx hy (s1.trans sm) R r) fun H' sm=>fin D H' (s1.free hD) (s1.trans sm)⟩
end
end L2
namespace L2
open PySem PySem.Spec PyProof.Rows
section
variable {src:List (Option Nat)} {te:TE} {σ:St} {H:Hp} {Q:VK}
end
section
variable {X:Cx} {K:PySem.W.Frag}
theorem Ydx (h:X.K=K:=by rfl):IxR X (rIxL K):=by subst h;exact V6
theorem VG (h:X.K=K:=by rfl):Xk X (.builtin "len") (fun xs H Q=>∃ p ys,xs=[.ref p]∧(SqL K H p ys∨SqT K H p ys)∧Q (.int ys.length) H):=by subst h;exact Xe
end
end L2
namespace L2
open PySem PySem.Spec PyProof.Rows
section
variable {tb:TS} {D:Ends} {σ:St} {H:Hp}
theorem YcL {K:PySem.W.Frag} {ta:TA} (i j:Nat) {xs ys:List V} (Pv:Addr→Addr→Nat→St→Hp→Prop) (ha:∀ R:List V→Hp→Prop,(∀ a b H1,Pv a b 0 σ H1→R [.ref a,.ref b] H1)→ta σ H R)
  (hl:∀ a b n σ H,n≤min xs.length ys.length→Pv a b n σ H→SqL K H a xs∧SqL K H b ys)
  (hs:∀ a b (n:Nat) x y σ H T,xs[n]?=some x→ys[n]?=some y→Pv a b n σ H→H T=none→tb { D with nx:=Pv a b (n+1),ct:=Pv a b (n+1),bk:=D.nx } ((σ.set i (some x)).set j (some y)) (upd H T (.tup [x,y])))
  (hd:∀ a b σ H,Pv a b (min xs.length ys.length) σ H→D.nx σ H):X4 (QH K ta) (WI K 2 (Xm (YD i) (Xm (YD j) WH))) tb D σ H:=by
 refine ha _ fun a b H1 h0=>?_
 obtain ⟨s1,s2⟩:=hl a b 0 σ H1 (Nat.zero_le _) h0
 refine ⟨a,b,xs,ys,rfl,s1,s2,?_⟩
 refine ⟨fun n m σ H=>m=min xs.length ys.length - n∧n≤min xs.length ys.length∧Pv a b n σ H,⟨min xs.length ys.length,by simp,Nat.zero_le _,h0⟩,?_⟩
 rintro n m σ H ⟨rfl,hn,p⟩
 obtain ⟨g1,g2⟩:=hl a b n σ H hn p
 by_cases hlt:n<min xs.length ys.length
 ·have hx:xs[n]?=some (xs[n]'(by omega)):=List.getElem?_eq_getElem _
  have hy:ys[n]?=some (ys[n]'(by omega)):=List.getElem?_eq_getElem _
  refine .inr ⟨⟨xs,ys,_,_,g1,g2,hx,hy⟩,Pv a b (n+1),fun σ' H' p'=>⟨min xs.length ys.length - (n+1),by omega,rfl,hlt,p'⟩,?_⟩
  rintro v H' ⟨T,rfl,hT,heq⟩
  have e:=heq xs ys _ _ g1 g2 hx hy
  subst e
  exact ⟨T,_,rfl,SqT.of Yh,rfl,_,_,rfl,_,_,rfl,rfl,hs a b n _ _ σ H T hx hy p hT⟩
 ·have e:n=min xs.length ys.length:=by omega
  subst e
  refine .inl ⟨⟨xs,ys,g1,g2,?_⟩,hd a b σ H p⟩
  omega
end
end L2
namespace L2
open PySem PySem.Spec PyProof.Rows
theorem Qz (its:List Value):slicePick its.toArray none none (some (-1))=its.reverse.toArray:=by
 unfold slicePick
 have hb:sliceBounds none none (some (-1)) its.toArray.size=((its.length:Int) - 1,-1,-1):=by simp [sliceBounds]
 rw [hb]
 have hr:sliceRange ((its.length:Int) - 1) (-1) (-1)=(List.range its.length).map fun (k:Nat)=>its.length - 1 - k:=by
  unfold sliceRange
  simp only [show ¬ ((-1:Int)>0) by decide,if_false]
  have hc:(if (its.length:Int) - 1 > -1 then ((its.length:Int) - 1 - -1 - -1 - 1) / - -1 else 0).toNat=its.length:=by
   split
   ·have:((its.length:Int) - 1 - -1 - -1 - 1)=its.length:=by omega
    rw [this,show (- -1:Int)=1 from rfl,Int.ediv_one];omega
   ·omega
  rw [hc]
  apply List.map_congr_left
  intro k hk
  have:k<its.length:=List.mem_range.mp hk
  omega
 simp only [hr]
 congr 1
 rw [List.filterMap_map]
 apply List.ext_getElem?
 intro i
 have key:∀ (n:Nat),n≤its.length→(List.filterMap ((fun x=>its.toArray[x]?) ∘ fun k=>its.length - 1 - k) (List.range n))=its.reverse.take n:=by
  intro n
  induction n with
  | zero=>intro _;simp
  | succ n ih =>
   intro hn
   rw [List.range_succ,List.filterMap_append,ih (by omega)]
   have hx:its.reverse[n]?=some (its[its.length - 1 - n]'(by omega)):=by
    rw [List.getElem?_reverse (by omega)];exact List.getElem?_eq_getElem _
   rw [X9 hx]
   have hlt:its.length - 1 - n<its.length:=by omega
   simp [hlt]
 rw [key its.length (Nat.le_refl _)]
 rw [List.take_of_length_le (by simp)]
section
variable {X:Cx} {e st:Expr} {te ts:TE} {pos p2:Pos}
def tRev (K:PySem.W.Frag) (te ts:TE):TE:=fun σ H Q=>te σ H fun x H1=>ts σ H1 fun y H2=>y = .int (-1)∧∃ a xs,x = .ref a∧SqL K H2 a xs∧∀ p,H2 p=none→Q (.ref p) (upd H2 p (.lst xs.reverse))
end
end L2
namespace L2
open PySem PySem.Spec PyProof.Rows
section
variable {X:Cx} {pos:Pos}
def rBits:V→List V→Hp→VK→Prop:=fun x vs H Q=>∃ i,x = .int i∧vs=[]∧Q (.int (Builtin.Int.intBits i:Nat)) H
def rFind:V→List V→Hp→VK→Prop:=fun x vs H Q=>∃ (z y:Str),x = .str z∧vs=[.str y]∧Q (.int (Txt.find z y)) H
def Yfa:TE:=fun _ H Q=>∀ p,H p=none→Q (.ref p) (upd H p (.dK []))
end
section
variable {X:Cx} {g:Gx} {x:Str} {pos:Pos}
def tConT (K:PySem.W.Frag) (xs:List V):TE:=fun _ H Q=>∀ c,SqT K H c xs→Q (.ref c) H
end
end L2
namespace L2
open PySem PySem.Spec PyProof.Rows
theorem Yv {c A B:Prop} [Decidable c] (h:¬ c) (hb:B):if c then A else B:=by rw [if_neg h];exact hb
theorem YV {c A B:Prop} [Decidable c] (h:c) (ha:A):if c then A else B:=by rw [if_pos h];exact ha
section
variable {src:List (Option Nat)} {te:TE} {σ:St} {H:Hp} {Q:VK}
end
section
variable {X:Cx} {K:PySem.W.Frag} {o e:Expr} {es:List Expr} {to:TE} {t:TA} {name:Str} {apos cpos:Pos} {T id:String} {r:V→List V→Hp→VK→Prop}
end
section
variable {X:Cx}
def YbP (i j:Int):Prop:=QK i j∨CMul i j
theorem U5:OpR X (binaryOp .Mult) (rI YbP fun i j => .int (i*j)):=opI fun _ _ _ _ _ _ _ hc q=>mul_int q (hc.elim (fun h=>h.ok) fun h=>h.ok)
end
end L2
namespace L2
open PySem PySem.Spec PyProof.Rows
section
variable {prog:Program} {w:World} {A:Around} {E:Value→Shared→Prop} {s:Shared} {z TI TO i1 i2 T:Addr} {S1 S2:Nat→Heap→Prop} {R1 R2:Heap→(Nat→Option Value)→Prop} {g1 g2:Nat→Option Value} {k:Nat} {a b:Value} {f:Bool} {oT:Obj}
end
section
variable {prog:Program} {w:World} {A:Around} {s:Shared} {R:Result→Shared→Prop} {z TI TO i1 i2 S p1 p2:Addr} {xs ys:List Value}
end
end L2
namespace L2
open PySem PySem.Calls PySem.Spec PyProof.Rows PyProof.V
section
variable {prog:Program} {w:World} {A:Around} {E:Value→Shared→Prop} {s:Shared} {z TI TO i1 i2 p1 p2:Addr} {xs ys:List Value}
end
end L2
namespace L2
open PySem PySem.Spec PyProof.Rows
section
variable {X:Cx} {pins:List (Addr×Obj)} {σ:St} {H H':Hp} {s:Shared} {h':Heap}
end
section
variable {X:Cx}
def tLZ (K:PySem.W.Frag) (ta:TA):TE:=fun σ H Q=>ta σ H fun vs H1=>∃ a b xs ys,vs=[.ref a,.ref b]∧SqT K H1 a xs∧SqT K H1 b ys∧xs.length=ys.length ∧
 ∀ (l:Addr) (as:List Addr) (H2:Hp),H1 l=none→Yf H1 H2→H2 l=some (.lst (as.map V.ref))→as.length=xs.length →
  (∀ (j:Nat) a x y,as[j]?=some a→xs[j]?=some x→ys[j]?=some y→H1 a=none∧H2 a=some (.tup [x,y]))→Q (.ref l) H2
end
end L2
namespace L2
open PySem PySem.Spec PyProof.Rows
section
variable {src:List (Option Nat)} {te:TE} {σ:St} {H:Hp} {Q:VK}
end
end L2
namespace L2
open PySem PySem.Spec PyProof.Rows
section
variable {X:Cx}
theorem V7 {i:Nat} {x:Str} {pos' apos:Pos} {elt tg iter:Expr} {ifs:List Expr} {scope:Scope} {pos:Pos} {src:List (Option Nat)} {N':List Str} {wi:TI} {g:TG} {tt:TT} {te:TE} (hN:X.N.Nodup) (hix:X.N[i]?=some x) (hlx:Loc X.env.scope x) (hcap:Cap X scope src N') (hc:X.calm=true) (hi:PI X tg iter wi)
  (hg:∀ cl C s₀ H₀ fp pn,PG (cxC X scope N' cl C s₀ H₀ fp pn) tg g) (ht:∀ cl C s₀ H₀ fp pn,PTs (cxC X scope N' cl C s₀ H₀ fp pn) ifs tt) (he:∀ cl C s₀ H₀ fp pn,PE (cxC X scope N' cl C s₀ H₀ fp pn) elt te)
  (hfree:∀ x,(x,NameKind.free)∈scope.names→X.env.scope.names.lookup x=some NameKind.cell∨X.env.scope.names.lookup x=some NameKind.free)
  (hk:scope.kind = .function) (hcell:∀ y∈scope.names,y.2 ≠ .cell) (hnames:∀ y∈scope.names,y.2 = .local→scope.names.lookup y.1=some .local)
  (hs:∀ x,foldedSetIterable iter X.env x=pure x) (hsw:swapsWithSole [.Name x pos'] (.ListComp elt [⟨tg,iter,ifs,0⟩] scope pos) apos.line X.env=pure true) (hf:X.fn x=true∨X.env.scope.names.lookup x=some .local) :
  PS X (.Assign [.Name x pos'] (.ListComp elt [⟨tg,iter,ifs,0⟩] scope pos) apos) (tAsg (tLC src wi g tt te) (YD i)):=by
 intro pins s σ H D0 I h
 have no:∀ {E:Value→Shared→Prop},∀ (e:Value) (s':Shared),False→E e s':=fun _ _ f=>f.elim
 obtain ⟨cl,hcl,a,b⟩:=UJ X.env scope fun x hx=>I.ok.has x (hfree x hx)
 rw [exec_Assign_arm]
 refine wpAny_bind (wpAny_standAt ?_)
 rw [hsw]
 refine wpAny_bind (wpAny_pure ?_)
 rw [if_pos rfl]
 refine wpAny_bind ?_
 rw [arm_evalThenUse_ListComp]
 refine wpAny_bind ?_
 refine wpAny_comprehension_free (use:=some _) rfl hs hcl hk hnames (thn (hi pins s σ H _ I h) fun v s1 h1=>thn h1 fun itv s2 h2=>?_)
 obtain ⟨it,fp,tn,J,H2,e,I2,T,st2,f2,q⟩:=h2
 subst e
 have hD:H2 s2.heap.objs.size=none:=I2.hok.fresh (Nat.le_refl _)
 obtain ⟨W,⟨m0,w0⟩,turn⟩:=q s2.heap.objs.size hD
 have I3:=I2.lnew (t':=s2.toks) (ys:=[]) (its:=[]) .nil (Nat.zero_le _)
 have fl2:∀ b∈fp,b<s2.heap.objs.size:=fun b hb=>by
  obtain ⟨o,e,_⟩:=T.obj _ _ st2 b hb
  exact Heap.lt_size e
 refine wpAny_newObj_type ?_
 generalize es3:({ s2 with heap:=s2.heap.push { cls := .type "list",dict:=none,data := .seq ([]:List Value).toArray } }:Shared)=s3
 have I3':Inv X pins σ (upd H2 s2.heap.objs.size (.lst [])) s3:=es3▸I3
 have keep3:∀ b o,s2.heap.get? b=some o→s3.heap.get? b=some o:=fun b o e=>by rw [← es3];exact Heap.get?_push_of_some _ e
 have st3:tn 0 s3.heap:=T.keep _ _ _ st2 fun b _ o e=>keep3 b o e
 have fl3:∀ b∈fp,b<s3.heap.objs.size:=fun b hb=>by
  obtain ⟨o,e,_⟩:=T.obj _ _ st3 b hb
  exact Heap.lt_size e
 have f3:∀ b∈fp,X3 X pins (upd H2 s2.heap.objs.size (.lst [])) b:=fun b hb=>⟨by rw [Ym (Nat.ne_of_lt (fl2 b hb))];exact (f2 b hb).1,(f2 b hb).2⟩
 generalize eD:s2.heap.objs.size=D at *
 generalize eH3:upd H2 D (.lst [])=H3 at *
 refine wpAny_newFunctionEnv hcell (by intro y hy;simp at hy) (fun h₁ hns₁ hsb₁=>?_) hk
 have keep4:∀ b o,s3.heap.get? b=some o→h₁.get? b=some o:=fun b o e=>hsb₁.extBut b o (Nat.ne_of_lt (Heap.lt_size e)) (Heap.get?_push_of_some _ e)
 have I4:=Q3 (N':=N') (src:=src) (tk:=s3.toks+([]:List (Str×Value)).length) hk hcell hcap a b I3' f3 fl3 rfl keep4 hns₁
 -- the iterator's objects,through the block
 have stat:∀ {H':Hp},(∀ b∈fp,H' b=none)→∀ b∈fp,X3 (cxC X scope N' cl s3.heap.objs.size s3 H3 fp (X.pn++pins)) [] H' b:=fun hn b' hb=>by
  obtain ⟨f0,f1,fs,fe,f4,f5⟩:=f3 b' hb
  refine ⟨hn b' hb,Nat.ne_of_lt (fl3 b' hb),fun z=>?_,.inl hb,fun x c h=>f4 x c (a x c h),fun p hp=>f5 p (by simpa [cxC] using hp)⟩
  rcases List.mem_cons.mp (I3'.stkSub b' z) with e | e
  ·exact f1 e
  ·exact fs e
 -- behind the block
 have fin:∀ {H':Hp} {s':Shared} {σ':St} {pins':List (Addr×Obj)},Inv (cxC X scope N' cl s3.heap.objs.size s3 H3 fp (X.pn++pins)) pins' σ' H' s'→∀ h',Heap.SameBut s3.heap.objs.size s'.heap h'→Inv X pins σ H' { s' with heap:=h' }:=fun {H' s' σ' pins'} J' h' sb=>by
  have same:∀ b o,b≠s3.heap.objs.size→s'.heap.get? b=some o→h'.get? b=some o:=fun b o hb e=>sb.extBut b o hb e
  have u:Un (frs X.stack) fp H3 H' s3.heap s'.heap:=J'.base
  refine I3'.call' (s':={ s' with heap:=h' }) (ch:=fp) J'.os ⟨fun b o e n hb hx=>?_,fun b o e n hb hx=>?_,u.free,fun b o e hx=>?_,u.tups,u.frzs,u.tbls⟩ (fun b o e=>?_) J'.bare fun b hb=>?_
  ·exact same b o (Nat.ne_of_lt (Heap.lt_size e)) (u.keep b o e n hb hx)
  ·obtain ⟨sl,z⟩:=u.slot b o e n hb hx
   exact ⟨sl,same b _ (Nat.ne_of_lt (Heap.lt_size e)) z⟩
  ·obtain ⟨o',z⟩:=u.there b o e hx
   exact ⟨o',same b o' (Nat.ne_of_lt (Heap.lt_size e)) z⟩
  ·have nC:∀ c v,H' c=some v→c≠s3.heap.objs.size:=fun c v z q=>by
    have:=J'.free
    rw [show (cxC X scope N' cl s3.heap.objs.size s3 H3 fp (X.pn++pins)).env.locals=s3.heap.objs.size from rfl,← q,z] at this
    cases this
   refine (J'.hok b o e).stay (fun c v hc q=>same c v ?_ q) (fun _ q=>q) fun _ _ q=>q
   rcases hc with z | z
   ·rw [z];exact nC b o e
   ·exact nC c _ z
  ·obtain ⟨f0,f1,fs,fe,f4,f5⟩:=f3 b hb
   exact ⟨fe,f1,f4,f5⟩
 have loop:codeAny (model X.prog X.w) X.A (.compLoop (.ListComp elt [⟨tg,iter,ifs,0⟩] scope pos) 0 (.ref it) (.ref D) (compEnvC scope cl s3.heap.objs.size X.env))
   (compPost (model X.prog X.w) X.A X.xe (some fun v=>assignAll v ((assignEach [.Name x pos'] X.env).map (·.2))) (fun _ s'=>wpAny (model X.prog X.w) X.A (pure PUnit.unit) (fun _ s'=>wpAny (model X.prog X.w) X.A (pure Flow.next) (SP X pins D0) X.xe s') X.xe s') (.ref D) s3.heap.objs.size) { s3 with heap:=h₁,toks:=s3.toks+([]:List (Str×Value)).length }:=by
  refine Qm (fun n s'=>∃ i ys σ' H',Inv (cxC X scope N' cl s3.heap.objs.size s3 H3 fp (X.pn++pins)) [] σ' H' s'∧tn i s'.heap∧(∀ b∈fp,H' b=none)∧W i n ys σ' H') ?_ m0 ⟨0,[],YN src σ,H3,I4,T.keep _ _ _ st3 fun b _ o e=>keep4 b o e,fun b hb=>(f3 b hb).1,w0⟩
  rintro n s5 ⟨i,ys,σ5,H5,I5,st5,fr5,w5⟩
  obtain ⟨hDs,stop | go⟩:=turn i n ys σ5 H5 w5
  ·obtain ⟨stop,qn⟩:=stop
   refine thn (T.done (cxC X scope N' cl s3.heap.objs.size s3 H3 fp (X.pn++pins)) rfl rfl rfl hc i [] s5 σ5 H5 _ I5 (stat fr5) st5 stop) fun r s6 ⟨hr,I6⟩=>?_
   subst hr
   obtain ⟨m,hn,_⟩:=id I6.loc
   have IO:Inv X pins σ H5 s6:=fin I6 s6.heap (Heap.SameBut.refl _ _)
   have hCn:H5 s3.heap.objs.size=none:=I6.free
   have hC:∀ {H':Hp},H' s3.heap.objs.size=none→X3 X pins H' s3.heap.objs.size:=fun {H'} z=>I3'.fpOk (Nat.le_refl _) z
   obtain ⟨oC,es,ep,hoC,rC⟩:=hn
   have IP:=IO.pinned (fp:=[s3.heap.objs.size]) (fun b hb=>by rw [List.mem_singleton.mp hb];exact hC hCn) (fun b hb=>by rw [List.mem_singleton.mp hb];exact ⟨oC,hoC,fun v z=>by (rw [rC.1] at z;cases z)⟩)
   show wpAny _ _ (assign (.Name x pos') X.env (.ref D)) _ _ _
   refine thn (YZ hN hix hlx hf _ s6 σ H5 (.ref D) (.ref D) _ IP rfl qn) fun _ s7 ⟨σ7,H7,I7,q7⟩=>?_
   obtain ⟨g1,g2,_⟩:=I7.pin (s3.heap.objs.size,oC) (List.mem_append_right _ (List.mem_append_right _ (XH (List.mem_singleton.mpr rfl) hoC)))
   refine ⟨m,⟨oC,es,ep,g1,rC⟩,fun h' sb=>wpAny_pure (wpAny_pure ⟨σ7,H7,?_,q7⟩)⟩
   exact I7.unpinned.turnedL (t':=s7.toks) (ch:=[s3.heap.objs.size]) (fun b o hb e=>sb.extBut b o (fun z=>hb (by rw [z];exact List.mem_singleton.mpr rfl)) e) (fun b hb=>by rw [List.mem_singleton.mp hb];exact hC g2)
  ·obtain ⟨go,N,hN,step⟩:=go
   refine thn (T.item (cxC X scope N' cl s3.heap.objs.size s3 H3 fp (X.pn++pins)) rfl rfl rfl hc i [] s5 σ5 H5 _ I5 (stat fr5) st5 go) fun r s6 ⟨u,hr,h6⟩=>?_
   subst hr
   refine thn h6 fun _ s7 ⟨x,H7,I7,r7,y7,st7,fr7⟩=>?_
   have I7':=I7.pinned (stat fr7) (T.obj _ _ st7)
   have again:∀ {s8:Shared} {σ8:St} {H8:Hp} {ys':List V},Inv (cxC X scope N' cl s3.heap.objs.size s3 H3 fp (X.pn++pins)) ([]++W9 fp s7.heap) σ8 H8 s8→(∃ m',m'<n∧W (i+1) m' ys' σ8 H8) →
     ∃ m,m<n∧∃ i ys σ' H',Inv (cxC X scope N' cl s3.heap.objs.size s3 H3 fp (X.pn++pins)) [] σ' H' s8∧tn i s8.heap∧(∀ b∈fp,H' b=none)∧W i m ys σ' H':=fun {s8 σ8 H8 ys'} I8 ⟨m',hm,w8⟩=>by
    refine ⟨m',hm,i+1,ys',σ8,H8,I8.unpinned,T.keep _ _ _ st7 fun b hb o e=>(I8.pin (b,o) (List.mem_append_right _ (List.mem_append_right _ (XH hb e)))).1,fun b hb=>?_,w8⟩
    obtain ⟨o,e,d⟩:=T.obj _ _ st7 b hb
    exact (I8.pin (b,o) (List.mem_append_right _ (List.mem_append_right _ (XH hb e)))).2.1
   refine thn (hg cl _ s3 H3 fp _ _ s7 σ5 H7 x u _ I7' r7 (step x H7 y7)) fun _ s8 ⟨σ8,H8,I8,q8⟩=>?_
   refine thn (ht cl _ s3 H3 fp _ _ s8 σ8 H8 _ I8 q8) fun ok s9 ⟨H9,I9,q9⟩=>?_
   cases ok with
   | false=>exact again I9 (hN _ _ _ q9)
   | true =>
    rw [if_pos rfl]
    refine thn (he cl _ s3 H3 fp _ _ s9 σ8 H9 _ I9 q9) fun y s10 ⟨yv,H10,I10,r10,q10⟩=>?_
    obtain ⟨hDy,hlen,w10⟩:=q10
    refine thn (WY (X:=cxC X scope N' cl s3.heap.objs.size s3 H3 fp (X.pn++pins)) _ s10 σ8 H10 (.ref D) [yv] (.ref D) [y] (fun _ H'=>H'=upd H10 D (.lst (ys++[yv]))) I10 rfl (.cons r10 .nil) ⟨D,ys,yv,rfl,rfl,hDy,hlen,rfl⟩) fun _ s11 ⟨_,H11,I11,_,e11⟩=>?_
    subst e11
    exact again I11 (hN _ _ _ w10)
 exact codeAny_compStart_list loop (T.self _ 0 _ _ _ (T.keep _ _ _ st3 fun b _ o e=>keep4 b o e) loop)
end
end L2
namespace L2
open PySem PySem.Spec PyProof.Rows
def YL {α:Type}:Sem α→Prop
 | .pure _=>True
 | .raise _=>True
 | .unsupported _=>True
 | .rule _ k=>YL (k ())
 | .at _ k=>YL (k ())
 | .load _ _ k=>∀ o,YL (k o)
 | .update _ _ f k=>(∀ o:Obj,(f o).dict=o.dict∧(f o).isFreed=o.isFreed)∧YL (k ())
 | .alloc _ k=>∀ a,YL (k a)
 | .stack k=>∀ x,YL (k x)
 | _=>False
def XJ (h:Heap) (e:Addr) (dc:Option Addr):Prop:=∃ o,h.get? e=some o∧o.dict=dc
theorem YcM {α β:Type} {f:α→Sem β} (m:Sem α):YL m→(∀ a,YL (f a))→YL (m.bind f):=by
 induction m with
 | pure a=>intro _ hf;exact hf a
 | raise e=>intro _ _;simp only [Sem.bind,YL]
 | unsupported e=>intro _ _;simp only [Sem.bind,YL]
 | rule n k ih=>intro h hf;simp only [YL] at h;simp only [Sem.bind,YL];exact ih () h hf
 | «at» n k ih=>intro h hf;simp only [YL] at h;simp only [Sem.bind,YL];exact ih () h hf
 | load a b k ih=>intro h hf;simp only [YL] at h;simp only [Sem.bind,YL];exact fun o=>ih o (h o) hf
 | update a b g k ih=>intro h hf;simp only [YL] at h;simp only [Sem.bind,YL];exact ⟨h.1,ih () h.2 hf⟩
 | alloc a k ih=>intro h hf;simp only [YL] at h;simp only [Sem.bind,YL];exact fun o=>ih o (h o) hf
 | stack k ih=>intro h hf;simp only [YL] at h;simp only [Sem.bind,YL];exact fun o=>ih o (h o) hf
 | _=>intro h;simp only [YL] at h
theorem Yet {M:Model} {Γ:PySem.Ctx} {α:Type} {Q:α→Pos→Shared→Prop} {E:Value→Pos→Shared→Prop} {e:Addr} {dc:Option Addr} (t:Sem α):YL t→∀ (p:Pos) (s:Shared),Sem.wp M Γ t Q E p s→XJ s.heap e dc→Sem.wp M Γ t (fun a p s'=>Q a p s'∧XJ s'.heap e dc) (fun v p s'=>E v p s'∧XJ s'.heap e dc) p s:=by
 induction t with
 | pure a=>intro _ p s h d;simp only [Sem.wp] at h ⊢;exact ⟨h,d⟩
 | raise a=>intro _ p s h d;simp only [Sem.wp] at h ⊢;exact ⟨h,d⟩
 | unsupported a=>intro _ p s h d;simp only [Sem.wp] at h
 | rule n k ih=>intro t p s h d;simp only [YL] at t;simp only [Sem.wp] at h ⊢;exact ih () t p s h d
 | «at» n k ih=>intro t p s h d;simp only [YL] at t;simp only [Sem.wp] at h ⊢;exact ih () t n s h d
 | load a b k ih=>intro t p s h d;simp only [YL] at t;simp only [Sem.wp] at h ⊢;obtain ⟨o,h1,h2⟩:=h;exact ⟨o,h1,ih o (t o) p s h2 d⟩
 | update a b f k ih =>
  intro t p s h d
  simp only [YL] at t
  simp only [Sem.wp] at h ⊢
  obtain ⟨o,d1,d2⟩:=d
  refine ⟨h.1,ih () t.2 p _ h.2 ?_⟩
  by_cases c:a=e
  ·subst c
   exact ⟨f o,Heap.get?_update_self f d1 (by rw [(t.1 o).2];exact (Heap.get?_some_iff.mp d1).2),by rw [(t.1 o).1];exact d2⟩
  ·exact ⟨o,(Heap.get?_update_other _ _ c).trans d1,d2⟩
 | alloc a k ih=>intro t p s h d;simp only [YL] at t;simp only [Sem.wp] at h ⊢;obtain ⟨o1,d1,d2⟩:=d;exact ih _ (t _) p _ h ⟨o1,Heap.get?_push_of_some _ d1,d2⟩
 | stack k ih=>intro t p s h d;simp only [YL] at t;simp only [Sem.wp] at h ⊢;exact ih _ (t _) p s h d
 | _=>intro t;simp only [YL] at t
theorem WM {M:Model} {A:Around} {α:Type} {t:Sem α} {Q:α→Shared→Prop} {E:Value→Shared→Prop} {s:Shared} {e:Addr} {dc:Option Addr} (T:YL t) (d:XJ s.heap e dc) (h:wpAny M A t Q E s):wpAny M A t (fun a s'=>Q a s'∧XJ s'.heap e dc) (fun v s'=>E v s'∧XJ s'.heap e dc) s :=
 fun Γ p hΓ=>Yet t T p s (h Γ p hΓ) d
theorem YT {α β:Type} {m:Sem α} {f:α→Sem β} (h:YL m) (hf:∀ a,YL (f a)):YL (m >>= f):=YcM m h hf
theorem Vg {α:Type} (a:α):YL (pure a:Sem α):=trivial
theorem Yfb {α:Type} (x:String):YL (unsupported x:Sem α):=trivial
theorem YbQ:YL stack:=fun _=>trivial
theorem Ydy (a:Addr) (f:Obj→Obj) (h:∀ o:Obj,(f o).dict=o.dict∧(f o).isFreed=o.isFreed):YL (update a f):=⟨h,trivial⟩
theorem QA (v:Value):YL (fieldsOf v):=by
 unfold fieldsOf
 cases v<;>first | trivial | skip
 refine YT (fun o=>trivial) fun o=>?_
 cases o.data<;>trivial
theorem WC (v:Value) (i:Nat):YL (field v i):=by
 unfold field
 refine YT (QA v) fun vs=>?_
 cases vs[i]?<;>trivial
theorem mapF (f:Array Value→Array Value) (o:Obj):(Obj.mapFields f o).dict=o.dict∧(Obj.mapFields f o).isFreed=o.isFreed:=by
 obtain ⟨c,d,dt,sl⟩:=o
 cases dt<;>exact ⟨rfl,rfl⟩
theorem Ur (a:Addr) (i:Nat) (v:Value):YL (updateField a i v):=by
 unfold updateField
 refine YT (fun o=>trivial) fun o=>?_
 cases o.data with
 | fields vs =>
  dsimp only
  split
  ·exact ⟨mapF _,trivial⟩
  ·trivial
 | _=>trivial
theorem X2 (v:Value) (i:Nat) (x:Value):YL (setField v i x):=by
 unfold setField
 cases v<;>first | trivial | exact Ur _ _ _
theorem Wk (v:Value) (f:Option Addr):YL (setFlight v f):=by
 unfold setFlight
 refine YT (WC _ _) fun tb=>?_
 split
 ·exact X2 _ _ _
 ·trivial
theorem QB (env:Env) (b:Bool) (l:List Env):YL (keptBack env b l):=by
 cases l with
 | nil =>
  rw [keptBack]
  by_cases c:(env.scope.isGenerator||env.scope.isCoroutine)=true
  ·rw [if_pos c];exact Vg _
  ·rw [if_neg c]
   refine YT ?_ fun x=>Vg _
   unfold underTheClaimsCaller
   exact YT YbQ fun x=>Vg _
 | cons x r=>rw [keptBack];exact Vg _
theorem UO:∀ l:List Env,YL (readyFrames l)
 | []=>trivial
 | env::outer=>by
  unfold readyFrames
  cases env.frame with
  | none=>trivial
  | some f =>
   dsimp only
   refine YT (fun o=>trivial) fun o=>?_
   split
   ·trivial
   ·refine YT ?_ fun b=>YT (QB _ _ _) fun k=>YT (Ydy _ _ fun o=>by obtain ⟨c,d,dt,sl⟩:=o;cases dt<;>exact ⟨rfl,rfl⟩) fun _=>UO outer
    unfold behindIsImport
    split
    ·trivial
    ·split
     ·trivial
     ·exact YT (WC _ _) fun x=>trivial
theorem VU (env:Env):YL (PySem.frameOf env):=by
 unfold PySem.frameOf frameEnvs
 refine YT (YT (fun x=>trivial) fun x=>trivial) fun l=>?_
 generalize l.dropWhile _=l'
 refine YT ?_ fun r=>?_
 ·cases l' with
  | nil=>trivial
  | cons x r =>
   unfold frameObject
   exact YT (UO _) fun _=>trivial
 ·cases r<;>trivial
theorem U6 (ty:String) (vs:List Value):YL (newFields ty vs):=by
 unfold newFields newObj
 dsimp only
 split
 ·exact YT (Yfb _) fun _=>YT (fun _=>trivial) fun _=>Vg _
 ·exact YT (m:=alloc _) (fun _=>trivial) fun _=>Vg _
theorem VH (a b c d e:Value) (pl:List Value):YL (EntryCells.newEntry a b c d e pl):=U6 _ _
theorem UP (f:Addr) (b:Bool):YL (entryPlaceOf f b):=by
 unfold entryPlaceOf
 refine YT (fun x=>trivial) fun l=>?_
 split<;>trivial
theorem Vh (e:Value) (env:Env):YL (noteFrame e env):=by
 unfold noteFrame
 cases env.frame with
 | none=>trivial
 | some f =>
  dsimp only
  refine YT (WC _ _) fun hd=>?_
  split
  ·refine YT (WC _ _) fun x=>?_
   split
   ·trivial
   ·exact YT (X2 _ _ _) fun _=>YT (VU _) fun _=>YT (UP _ _) fun _=>YT (VH _ _ _ _ _ _) fun _=>X2 _ _ _
  ·exact YT (VU _) fun _=>YT (UP _ _) fun _=>YT (VH _ _ _ _ _ _) fun _=>X2 _ _ _
theorem VV (env:Env) (e:Value):YL (leaving env e):=by
 unfold leaving
 exact YT (Vh _ _) fun _=>Wk _ _
structure Fly (P:Program) (w:World) (l:List Env) (H:Hp) (h:Heap) (e:Addr) (cls:Value) (H':Hp) (h' B:Heap):Prop where
 fl:∃ a0,Heap.FlyingW B l e cls a0 h'
 hok:HOk P w H' B
 keep:∀ b o,h.get? b=some o→H b=none→b∉frs l→B.get? b=some o
 slot:∀ b o,h.get? b=some o→H b=none→b∈frs l→∃ sl,h'.get? b=some { o with slots:=sl }
 al:∀ b o,h.get? b=some o→b∉frs l→∃ o',B.get? b=some o'
 free:∀ b o,h.get? b=some o→H b=none→H' b=none
 tups:∀ b xs,H b=some (.tup xs)→H' b=some (.tup xs)
 frzs:∀ b o u,H b=some (.frz o u)→H' b=some (.frz o u)
 tbls:∀ b ps,H b=some (.tbl ps)→∃ more,H' b=some (.tbl (ps++more))
section
variable {P:Program} {w:World} {l:List Env} {H H':Hp} {h h' h'' B:Heap} {e:Addr} {cls:Value}
theorem Fly.un (F:Fly P w l H h e cls H' h' B) (hf:∀ b∈frs l,H b=none):Un (frs l) [] H H' h h':=by
 obtain ⟨a0,fl⟩:=F.fl
 refine ⟨fun b o q n hb _=>fl.1 b o (F.keep b o q n hb),fun b o q n hb _=>F.slot b o q n hb,fun b o q n _=>F.free b o q n,fun b o q _=>?_,F.tups,F.frzs,F.tbls⟩
 by_cases hb:b∈frs l
 ·obtain ⟨sl,z⟩:=F.slot b o q (hf b hb) hb
  exact ⟨_,z⟩
 ·obtain ⟨o',z⟩:=F.al b o q hb
  exact ⟨o',fl.1 b o' z⟩
theorem Fly.held (F:Fly P w l H h e cls H' h' B):HOk P w H' h':=by
 obtain ⟨a0,fl⟩:=F.fl
 exact F.hok.kept fl.1
theorem Fly.on (F:Fly P w l H h e cls H' h' B) (fl:∃ a0,Heap.FlyingW B l e cls a0 h'') (nf:∀ b∈frs l,∀ o,h.get? b=some o→∀ vs,o.data ≠ .fields vs) (sm:h'.UpToSlots h''):Fly P w l H h e cls H' h'' B :=
 ⟨fl,F.hok,F.keep,fun b o q n hb=>by
  obtain ⟨sl,z⟩:=F.slot b o q n hb
  obtain ⟨sl',z'⟩:=sm b _ z (nf b hb o q)
  exact ⟨sl',z'⟩,F.al,F.free,F.tups,F.frzs,F.tbls⟩
end
section
variable {X:Cx} {pins:List (Addr×Obj)} {σ:St} {H H':Hp} {s s':Shared} {h' B:Heap} {e:Addr} {cls:Value} {M:Model} {A:Around} {Q:Unit→Shared→Prop} {EE:Value→Shared→Prop}
theorem Inv.notL (I:Inv X pins σ H s) {b:Addr} {o:Obj} (q:X.s₀.heap.get? b=some o):b≠X.env.locals:=Nat.ne_of_lt (Nat.lt_of_lt_of_le (Heap.lt_size q) I.ok.above)
theorem Inv.notStk (I:Inv X pins σ H s) (hf:X.env.frame=some X.env.locals) {b:Addr} {o:Obj} (q:X.s₀.heap.get? b=some o) (n:b∉X.fs):b∉frs (X.env::X.outer):=fun z=>by
 unfold frs at z
 rw [List.filterMap_cons,hf] at z
 rcases List.mem_cons.mp z with z | z
 ·exact I.notL q z
 ·exact n z
theorem Inv.inStk (I:Inv X pins σ H s) (hf:X.env.frame=some X.env.locals) {b:Addr} (n:b∈X.fs):b∈frs (X.env::X.outer):=by
 unfold frs
 rw [List.filterMap_cons,hf]
 exact List.mem_cons_of_mem _ n
theorem Inv.leave_on (I:Inv X pins σ H s) (hs:X.stack=X.env::X.outer) (hf:X.env.frame=some X.env.locals) (hex:X.ex=[]) (hA:A.frames=some (X.env::X.outer)) (F:Fly X.prog X.w X.stack H s.heap e cls H' s'.heap B) {dc:Option Addr} (hd:XJ s'.heap e dc)
  (hQ:∀ h'',Fly X.prog X.w X.outer X.H₀ X.s₀.heap e cls H' h'' B→XJ h'' e dc→Q () { s' with heap:=h'' }):wpAny M A (leaving X.env (.ref e)) Q EE s':=by
 have nx:∀ b:Addr,b∉X.ex:=by
  rw [hex]
  intro b z
  cases z
 rw [hs] at F
 obtain ⟨a0,fl⟩:=F.fl
 refine wpAny_mono (WM (VV _ _) hd (wpAny_leaves_onW (Q:=fun _ s2=>∃ h'',s2={ s' with heap:=h'' }∧Fly X.prog X.w X.outer X.H₀ X.s₀.heap e cls H' h'' B) hA hf fl fun h'' x1 x2=>⟨h'',rfl,?_⟩)) (fun _ s2 z=>by
  obtain ⟨⟨h'',rfl,F⟩,d⟩:=z
  exact hQ h'' F d) fun _ _ z=>z.1
 refine ⟨⟨_,x1⟩,F.hok,fun b o q n nb=>F.keep b o (I.base.keep b o q n nb (nx b)) (I.base.free b o q n (nx b)) (I.notStk hf q nb),fun b o q n hb=>?_,fun b o q nb=>?_,fun b o q n=>?_,fun b xs q=>F.tups b xs (I.base.tups b xs q),fun b o u q=>F.frzs b o u (I.base.frzs b o u q),fun b ps q=>?_⟩
 ·obtain ⟨sl,e1⟩:=I.base.slot b o q n hb (nx b)
  obtain ⟨sl1,e2⟩:=F.slot b _ e1 (I.base.free b o q n (nx b)) (I.inStk hf hb)
  obtain ⟨_,o',e',d⟩:=I.ok.funs.mem hb
  rw [q] at e'
  cases e'
  obtain ⟨sl',e3⟩:=x2 b _ e2 d
  exact ⟨sl',e3⟩
 ·obtain ⟨o',e1⟩:=I.base.there b o q (nx b)
  exact F.al b o' e1 (I.notStk hf q nb)
 ·obtain ⟨o',e1⟩:=I.base.there b o q (nx b)
  exact F.free b o' e1 (I.base.free b o q n (nx b))
 ·obtain ⟨m1,e1⟩:=I.base.tbls b ps q
  obtain ⟨m2,e2⟩:=F.tbls b _ e1
  exact ⟨m1++m2,by rw [e2,Array.append_assoc]⟩
end
def CXF (P:Program) (w:World):CXT:=fun l H s E e s'=>∃ (a:Addr) (cls:Value) (H':Hp) (B:Heap) (dc:Option Addr),e = .ref a∧s'.os=s.os∧AllBare s'.gens∧Fly P w l H s.heap a cls H' s'.heap B∧XJ s'.heap a dc∧E cls dc H'
abbrev Gx.cxX (g:Gx) (N:List Str) (qual:Str) (st:Stmt) (f:Addr) (cdv:Value) (A:Around) (outer:List Env) (s:Shared) (H:Hp) (E:XK):Cx:=W4 (CXF g.P g.w) g.P g.w g.K g.mg g.base N qual (Yn st) f cdv A outer s H E
section
variable {g:Gx} {N:List Str} {qual:Str} {st:Stmt} {f:Addr} {cdv:Value} {A:Around} {outer:List Env} {s:Shared} {H:Hp} {E:XK}
theorem Y3:Vb (CXF g.P g.w) (g.cxX N qual st f cdv A outer s H E) E:=by
 intro pins σ H1 s1 e s' I hq
 obtain ⟨a,cls,H',B,dc,he,os,bare,F,hd,q⟩:=hq
 subst he
 exact I.leave_on rfl rfl rfl I.ok.frames F hd fun h'' F' hd'=>⟨a,cls,H',B,dc,rfl,os.trans I.os,bare,F',hd',q⟩
end
def Gx.FnX (g:Gx) (k:Nat) (x:Str) (ps:List Str) (sp:Sp):Prop:=∃ f fd,FnOk g.P g.w g.K g.mg g.base (CXF g.P g.w) k f fd ps sp∧XC g.K fd ps []∧PySem.W.keepIn g.K (.ref f)=true∧g.mg x=some (.ref f)
def BodyX (g:Gx) (k:Nat) (N:List Str) (qual:Str) (st:Stmt) (sp:Sp):Prop:=∀ (f:Addr) (cdv:Value) (A:Around) (outer:List Env) (s:Shared) (H:Hp) (vs:List V) (Q:VK) (E:XK),Room k (g.cxX N qual st f cdv A outer s H E).A→sp vs H Q E →
 ∃ t,PSs (g.cxX N qual st f cdv A outer s H E) (Xa st) t∧t { nx:=fun _ H'=>Q .non H',rt:=Q } (start N vs) H
section
variable {g:Gx} {k:Nat} {x qual m:Str} {st:Stmt} {N ps:List Str} {sp:Sp} {C:Addr}
theorem Gx.Raw.fnX (R:g.Raw x qual st ps) (S:FnScope N ps (Yn st)) (len:∀ vs H Q E,sp vs H Q E→vs.length=ps.length) (b:BodyX g k N qual st sp):g.FnX (k+1) x ps sp:=by
 obtain ⟨f,fd,F,bd,hm⟩:=R
 refine ⟨f,fd,?_,bd,F.kp,hm⟩
 obtain ⟨oc,od,kV,doc,pm,an,cdv,ct,osl,rfl,lk,hcd⟩:=F.ex
 exact YbL lk hcd S len fun A outer s H vs Q E hr h=>b f cdv A outer s H vs Q E hr h
theorem Gx.FnX.mono {j:Nat} (F:g.FnX j x ps sp) (h:j≤k):g.FnX k x ps sp:=by
 obtain ⟨f,fd,F,r⟩:=F
 exact ⟨f,fd,F.mono h,r⟩
theorem Gx.Raw.noneX (R:g.Raw x qual st ps) (no:∀ vs H Q E,¬ sp vs H Q E):g.FnX k x ps sp:=by
 obtain ⟨f,fd,F,bd,hm⟩:=R
 exact ⟨f,fd,⟨fun vs H Q E h=>absurd h (no vs H Q E),fun A outer s H args us vs Q E _ _ _ _ h=>absurd h (no vs H Q E)⟩,bd,F.kp,hm⟩
end
section
variable {g:Gx} {X:Cx} {k j:Nat} {x:Str} {ps:List Str} {sp:Sp} {E:XK} {e:Expr} {es:List Expr} {t:TA} {p pos cpos np:Pos}
theorem YY (F:g.FnX j x ps sp) (hr:Room k X.A) (hp:Vb (CXF g.P g.w) X E) (ha:PA X (e::es) t) (hj:j≤k) (hX:X.gx=g) (hg:Gl X x) (hdb:(x==("__debug__":Str))=false)
  (he:starEach (e::es) X.env=(false,eval e X.env)::starEach es X.env) (hpl:(backTo pos (starEach es X.env)).any (·.1)=false):PE X (.Call (.Name x p) (e::es) [] pos) (UE sp [] E t):=by
 subst hX
 obtain ⟨f,fd,F,b,kp,hm⟩:=F
 exact Ya9 F (hr.mono hj) hg hm kp b .nil hp ha hdb he hpl
theorem PS.nox {st:Stmt} {t:TS} (h:PS X.nox st t):PS X st t:=fun pins s σ H D I hw =>
 wpAny_mono (h pins s σ H D (I.wish _) hw) (fun _ _ q=>q.unwish) fun _ _ z=>False.elim z
abbrev UQ:List Value:=[.type "ValueError",.type "Exception",.type "BaseException",.type "object"]
def Yfc (C:Addr) (E:XK) (t:TA):TS:=fun _ σ H=>t σ H fun vs H1=>vs.length≤sizeLine∧E (.ref C) none H1
end
abbrev Cx.caught (X:Cx) (e:Addr):Cx:={ X with A:=X.A.mark (some (.ref e)),calm:=false,xe:=fun _ _=>False }
section
variable {X:Cx} {pins:List (Addr×Obj)} {σ:St} {H H' H1:Hp} {s s1 s':Shared} {e:Value} {D:Ends} {ts:TS} {b₀:Stmt} {suite:List Stmt} {c:Str} {cv:Value} {cp hpos:Pos}
theorem Inv.caught (I:Inv X pins σ H s) (a:Addr):Inv (X.caught a) pins σ H s :=
 ⟨⟨I.ok.mod,I.ok.kind,I.ok.glob,I.ok.blt,I.ok.above,I.ok.inj,I.ok.has,I.ok.cab,fun z=>(by cases z),I.ok.frames,I.ok.stk,I.ok.exf,I.ok.bs,I.ok.bsz,I.ok.noex,I.ok.exfs,I.ok.funs,I.ok.frf⟩,I.os,I.bare,I.base,I.loc,I.cell,I.free,I.freeC,I.pin,I.hok,I.len⟩
theorem Inv.uncaught {a:Addr} (hd:X.calm=true→X.A.handled=none) (I:Inv (X.caught a) pins σ H s):Inv X pins σ H s :=
 ⟨⟨I.ok.mod,I.ok.kind,I.ok.glob,I.ok.blt,I.ok.above,I.ok.inj,I.ok.has,I.ok.cab,hd,I.ok.frames,I.ok.stk,I.ok.exf,I.ok.bs,I.ok.bsz,I.ok.noex,I.ok.exfs,I.ok.funs,I.ok.frf⟩,I.os,I.bare,I.base,I.loc,I.cell,I.free,I.freeC,I.pin,I.hok,I.len⟩
theorem Inv.seen {a:Addr} {cls:Value} {B:Heap} (I:Inv X pins σ H1 s1) (F:Fly X.prog X.w X.stack H1 s1.heap a cls H' s'.heap B) (os:s'.os=s1.os) (bare:AllBare s'.gens):Inv X pins σ H' s' :=
 I.call' (ch:=[]) os (F.un I.stkFree) F.held bare fun b z=>nomatch z
theorem Inv.stkData (I:Inv X pins σ H1 s1):∀ b∈frs X.stack,∀ o,s1.heap.get? b=some o→∀ vs,o.data ≠ .fields vs:=fun b hb o q=>by
 obtain ⟨_,o',e',d⟩:=I.stack.mem hb
 rw [q] at e'
 cases e'
 exact d
end
def tTry (K:PySem.W.Frag) (cv:Value) (sp:Sp) (t:TA) (i:Nat) (ts:TS):TS:=fun D σ H=>t σ H fun vs H1=>sp (vs++[]) H1 (fun v H2=>D.nx (σ.set i (some v)) H2) (fun cls _ H2=>PySem.W.exmOne K cls cv=some true∧ts D σ H2)
section
variable {g:Gx} {X:Cx} {k j i:Nat} {x f c:Str} {ps:List Str} {sp:Sp} {e:Expr} {es:List Expr} {t:TA} {ts:TS} {b₀:Stmt} {suite:List Stmt} {cv:Value} {fp px cp hpos apos cpos pos:Pos}
end
end L2
namespace L2
open PySem PySem.Spec PyProof.Rows
section
variable {prog:Program} {w:World} {A:Around} {E:Value→Shared→Prop} {s:Shared}
open AutoSeq1 (wpAny_loadPart') in
end
section
variable {X:Cx} {elts:List Expr} {kk:Nat} {tpos:Pos}
end
section
variable {g:TG} {tb:TS} {D:Ends} {σ:St} {H:Hp}
end
end L2
namespace L2
open PySem PySem.Spec PyProof.Rows
section
variable {prog:Program} {w:World} {A:Around} {E:Value→Shared→Prop} {s:Shared}
open AutoSeq1 (wpAny_loadPart') in
end
end L2
namespace L2
open PySem PySem.Spec PyProof.Rows
section
variable {X:Cx} {elts:List Expr} {kk:Nat} {tpos:Pos}
end
section
variable {g:TG} {tb:TS} {D:Ends} {σ:St} {H:Hp}
end
section
variable {X:Cx} {tg:Expr}
end
end L2
namespace L2
open PySem PySem.Spec PyProof.Rows
def W6 (a:Addr) (cls:Value) (dc:Option Addr):HO := .ext fun h=>∃ o vs,h.get? a=some o∧o.cls=cls∧o.data = .fields vs∧o.dict=dc
section
variable {P:Program} {w:World} {l:List Env} {H H':Hp} {h h' h'' B:Heap} {a e:Addr} {cls:Value} {o:HO}
theorem YM.alive (x:YM P w H h a o):∃ u,h.get? a=some u:=by
 cases o with
 | lst xs=>obtain ⟨_,_,_,_,e⟩:=x;exact ⟨_,e⟩
 | tup xs=>obtain ⟨_,_,_,u,e,_⟩:=x;exact ⟨_,e⟩
 | dK kvs=>obtain ⟨_,_,_,_,o,_,_,e,_⟩:=x;exact ⟨_,e⟩
 | dT kvs=>obtain ⟨_,_,_,_,o,_,_,e,_⟩:=x;exact ⟨_,e⟩
 | set S n=>obtain ⟨o,_,_,_,e,_⟩:=x;exact ⟨_,e⟩
 | ins C dx fs=>obtain ⟨_,_,_,e,_⟩:=x;exact ⟨_,e⟩
 | own y=>exact x
 | xd fs=>obtain ⟨_,⟨_,_,_,e,_⟩,_⟩:=x;exact ⟨_,e⟩
 | rng lo hi=>obtain ⟨_,_,_,e⟩:=x;exact ⟨_,e⟩
 | frz ob u=>obtain ⟨e,_⟩:=x;exact ⟨_,e⟩
 | tbl ps=>exact ⟨_,(show h.get? a=some _ from x)⟩
 | met f y=>exact ⟨_,(show h.get? a=some _ from x)⟩
 | ext φ=>exact x.2.1
theorem Fly.new (F:Fly P w l H h e cls H' h' B) (hf:∀ b∈frs l,H b=none) (nf:∀ b∈frs l,∀ o,h.get? b=some o→∀ vs,o.data ≠ .fields vs):h.get? e=none:=by
 obtain ⟨a0,fl⟩:=F.fl
 cases q:h.get? e with
 | none=>rfl
 | some o =>
  by_cases hb:e∈frs l
  ·obtain ⟨sl,z⟩:=F.slot e o q (hf e hb) hb
   obtain ⟨oe,vs,z',_,d,_⟩:=fl.first
   rw [z] at z'
   cases z'
   exact absurd d (nf e hb o q vs)
  ·obtain ⟨o',z⟩:=F.al e o q hb
   rw [fl.2.1] at z
   cases z
theorem Fly.out (F:Fly P w l H h e cls H' h' B):H' e=none:=by
 obtain ⟨a0,fl⟩:=F.fl
 cases q:H' e with
 | none=>rfl
 | some u =>
  obtain ⟨o,z⟩:=(F.hok e u q).alive
  rw [fl.2.1] at z
  cases z
theorem Fly.track (F:Fly P w l H h e cls H' h' B) (hf:∀ b∈frs l,H b=none) (nf:∀ b∈frs l,∀ o,h.get? b=some o→∀ vs,o.data ≠ .fields vs) {dc:Option Addr} (hd:XJ h' e dc) :
  Un (frs l) [] H (upd H' e (W6 e cls dc)) h h'∧HOk P w (upd H' e (W6 e cls dc)) h':=by
 have n1:=F.new hf nf
 have n2:=F.out
 have u:=F.un hf
 have ok:=F.held
 obtain ⟨a0,fl⟩:=F.fl
 refine ⟨⟨u.keep,u.slot,fun b o q n hx=>?_,u.there,fun b xs q=>?_,fun b o x q=>?_,fun b ps q=>?_⟩,fun b x q=>?_⟩
 ·rw [Ym (fun z=>by rw [z,n1] at q;cases q)]
  exact u.free b o q n hx
 ·rw [Ym (YK (u.tups b xs q) n2)]
  exact u.tups b xs q
 ·rw [Ym (YK (u.frzs b o x q) n2)]
  exact u.frzs b o x q
 ·obtain ⟨m,z⟩:=u.tbls b ps q
  exact ⟨m,by rw [Ym (YK z n2)];exact z⟩
 ·by_cases hb:b=e
  ·subst hb
   rw [Yh] at q
   cases q
   obtain ⟨oe,vs,z1,z2,z3,_⟩:=fl.first
   obtain ⟨od,d1,d2⟩:=hd
   rw [z1] at d1
   cases d1
   exact ⟨⟨oe,vs,z1,z2,z3,d2⟩,⟨oe,z1⟩,fun h1 h2 p k=>by obtain ⟨o,vs,y1,y2,y3⟩:=p;exact ⟨o,vs,k o y1,y2,y3⟩⟩
  ·rw [Ym hb] at q
   exact (ok b x q).stay (fun c v _ r=>r) (fun c r=>by rw [Ym (YK r n2)];exact r) fun c xs r=>by rw [Ym (YK r n2)];exact r
end
section
variable {X:Cx} {pins:List (Addr×Obj)} {σ:St} {H H' H1:Hp} {s s1 s':Shared}
theorem Yeu {M:Model} {A:Around} {E:Value→Shared→Prop} {j:Nat} {n:Str} {pos:Pos} {Q:Unit→Shared→Prop} (I:Inv X pins σ H s) (hN:X.N.Nodup) (hj:X.N[j]?=some n) (hk:X.env.scope.names.lookup n=some .local)
  (h:∀ s',Inv X pins (σ.set j none) H s'→Q () s'):wpAny M A (do bindName X.env n .none;unbindBehindTheSuite X.env n pos) Q E s:=by
 obtain ⟨m,hn,hl⟩:=id I.loc
 have hcls:(X.env.scope.kind == .class||(X.env.scope.kind == .module&&X.env.locals != X.env.globals))=false:=by rw [I.ok.kind];rfl
 have cne:=I.cne
 have tracked:∀ {a:Addr} {h':Heap},(∃ o,s.heap.get? a=some o∧H a=none)→Heap.SameBut a s.heap h'→HOk X.prog X.w H h':=fun {a h'} ha hs b ob e=>by
  obtain ⟨_,_,hfree⟩:=ha
  refine (I.hok b ob e).stay (fun c w' hc q=>(hs.2 c ?_).trans q) (fun _ q=>q) fun _ _ q=>q
  rintro rfl
  rcases hc with rfl | hc
  ·rw [hfree] at e;cases e
  ·rw [hfree] at hc;cases hc
 refine wpAny_nameGoes_keeps hk hn hcls fun h' v hn' hs=>?_
 obtain ⟨oL,_,_,hoL,_⟩:=id hn
 refine h _ ⟨I.ok,I.os,I.bare,⟨fun b o e n hb hx=>?_,fun b o e n hb hx=>?_,I.base.free,fun b o e hx=>?_,I.base.tups,I.base.frzs,I.base.tbls⟩,⟨_,hn',fun i y v' e1 e2 e3=>?_⟩,fun y c e=>?_,I.free,I.freeC,fun p hp=>?_,tracked ⟨oL,hoL,I.free⟩ hs,by simpa using I.len⟩
 ·exact (hs.2 b (I.notL e)).trans (I.base.keep b o e n hb hx)
 ·obtain ⟨sl,e1⟩:=I.base.slot b o e n hb hx
  exact ⟨sl,(hs.2 b (I.notL e)).trans e1⟩
 ·obtain ⟨o',e1⟩:=I.base.there b o e hx
  exact ⟨o',(hs.2 b (I.notL e)).trans e1⟩
 ·by_cases hji:i=j
  ·subst hji
   rw [List.getElem?_set] at e2
   split at e2
   ·split at e2<;>cases e2
   ·rename_i z;exact absurd rfl z
  ·rw [List.getElem?_set_ne (Ne.symm hji)] at e2
   obtain ⟨u',r',q⟩:=hl i y v' e1 e2 e3
   refine ⟨u',r',?_⟩
   rcases q with ⟨k,e⟩ | ⟨k,c,e,z⟩
   ·refine .inl ⟨k,?_⟩
    have:y≠n:=fun e=>hji (Ul hN e1 (e▸hj))
    simp [this,e]
   ·exact .inr ⟨k,c,e,z.sameBut hs (cne y c e)⟩
 ·obtain ⟨w',z⟩:=I.cell y c e
  exact ⟨w',z.sameBut hs (cne y c e)⟩
 ·obtain ⟨e,n,ne,nf,d⟩:=I.pin p hp
  exact ⟨(hs.2 p.1 ne).trans e,n,ne,nf,d⟩
end
def Ends.gone (D:Ends) (j:Nat):Ends:={ nx:=fun σ H=>D.nx (σ.set j none) H,rt:=D.rt,bk:=fun σ H=>D.bk (σ.set j none) H,ct:=fun σ H=>D.ct (σ.set j none) H }
section
variable {X:Cx} {pins:List (Addr×Obj)} {σ:St} {H H' H1:Hp} {s s1 s':Shared} {e:Value} {D:Ends} {ts:TS} {b₀:Stmt} {suite:List Stmt} {c n:Str} {cv:Value} {cp hpos:Pos} {j:Nat}
theorem Inv.catchAs (I:Inv X pins σ H1 s1) (hs:X.stack=X.env::X.outer) (hf:X.env.frame=some X.env.locals) (hN:X.N.Nodup) (hj:X.N[j]?=some n) (hk:X.env.scope.names.lookup n=some .local)
  (hq:CXF X.prog X.w X.stack H1 s1 (fun cls dc H2=>PySem.W.exmOne X.K cls cv=some true∧∀ a,H2 a=none→ts (D.gone j) (σ.set j (some (.ref a))) (upd H2 a (W6 a cls dc))) e s')
  (hsu:∀ a,PSs (X.caught a) (b₀::suite) ts) (hc:Gl X c) (hcm:X.mg c=some cv) (hdb:(c==("__debug__":Str))=false) :
  wpAny (model X.prog X.w) X.A (noteFrame e X.env) (fun _ s₂=>wpAny (model X.prog X.w) X.A (setFlight e none) (fun _ s₃=>wpAny (model X.prog X.w) X.A (handleBy e X.env [.ExceptHandler (some (.Name c cp)) (some n) (b₀::suite) hpos]) (SP X pins D) X.xe s₃) X.xe s₂) X.xe s':=by
 obtain ⟨a,cls,H2,B,dc,rfl,os,bare,F,hdc,hm,ht⟩:=hq
 obtain ⟨a0,fl⟩:=F.fl
 have nf:=I.stkData
 have fl':=fl
 rw [hs] at fl'
 have hfr:=I.ok.frames
 rw [hs] at hfr
 refine wpAny_mono (WM (Vh _ _) hdc (wpAny_looks_onW (Q:=fun _ s₂=>∃ h₄ L,s₂={ s' with heap:=h₄ }∧Heap.HeldW B (X.env::X.outer) a cls a0 L h₄∧s'.heap.UpToSlots h₄) (E:=X.xe) hfr hf fl' fun h₄ held sm4=>⟨h₄,_,rfl,held,sm4⟩)) ?_ fun _ _ z=>z.1
 rintro _ s₂ ⟨⟨h₄,L4,rfl,held,sm4⟩,hd4⟩
 refine wpAny_mono (WM (Wk _ _) hd4 (wpAny_landsW (Q:=fun _ s₃=>∃ h₅,s₃={ s' with heap:=h₅ }∧Heap.FlyingW B (X.env::X.outer) a cls a0 h₅∧h₄.UpToSlots h₅) (E:=X.xe) held fun h₅ fl5 sm5=>⟨h₅,rfl,fl5,sm5⟩)) ?_ fun _ _ z=>z.1
 rintro _ s₃ ⟨⟨h₅,rfl,fl5,sm5⟩,hd5⟩
 rw [← hs] at fl5
 have F5:=F.on ⟨a0,fl5⟩ nf (sm4.trans sm5)
 have I5:Inv X pins σ H2 { s' with heap:=h₅ }:=I.seen (s':={ s' with heap:=h₅ }) F5 os bare
 have I5c:=I5.caught a
 refine wpAny_handleBy_cons (codeAny_handlers_test (WE I5c hc hcm ?_ hdb)) (by intro q;cases q)
 obtain ⟨ob,hob,hcl⟩:=fl5.there
 have LT:PySem.W.Looks (model X.prog X.w) h₅ (typeOf (.ref a)) cls:=by
  subst hcl
  exact (PySem.W.Looks.ld hob).andThen .now
 refine PySem.W.exm_one (K:=X.K) (h:=h₅) I5.kIn LT hm _ _ _ _ (fun _ _ z=>z) ?_
 refine codeAny_handlers_suite_as ?_
 refine wpAny_mono (WM (Wk _ _) hd5 (lands_againW (Q:=fun _ s₄=>∃ h₆,s₄={ s' with heap:=h₆ }∧Heap.FlyingW B X.stack a cls a0 h₆∧h₅.UpToSlots h₆) (E:=fun _ _=>False) fl5 fun h₆ fl6 sm6=>⟨h₆,rfl,fl6,sm6⟩)) ?_ fun _ _ z=>z.1.elim
 rintro _ s₄ ⟨⟨h₆,rfl,fl6,sm6⟩,hd6⟩
 have F6:=F5.on ⟨a0,fl6⟩ nf sm6
 obtain ⟨u6,ok6⟩:=F6.track I.stkFree nf hd6
 have I6:Inv X pins σ (upd H2 a (W6 a cls dc)) { s' with heap:=h₆ }:=I.call' (s':={ s' with heap:=h₆ }) (ch:=[]) os u6 ok6 bare fun b z=>nomatch z
 have I6c:=I6.caught a
 refine Vq (X:=X.caught a) I6c hN hj (.inl hk) (v := .ref a) rfl (fun s7 I7=>?_) (.inr hk)
 refine wpAny_mono (hsu a pins _ _ _ (D.gone j) I7 (ht a F6.out)) (fun f s8 z=>?_) fun _ _ z=>z.elim
 have key:∀ {σ':St} {H':Hp} {Q:St→Hp→Prop},Inv (X.caught a) pins σ' H' s8→Q (σ'.set j none) H'→∀ {R:Unit→Shared→Prop},(∀ s9,Inv X pins (σ'.set j none) H' s9→R () s9)→wpAny (model X.prog X.w) X.A (do bindName X.env n .none;unbindBehindTheSuite X.env n hpos) R X.xe s8 :=
  fun {σ' H' Q} J _ {R} hR=>Yeu (J.uncaught I.ok.hd) hN hj hk hR
 cases f with
 | next=>obtain ⟨σ',H',J,q⟩:=z;exact key (Q:=fun _ _=>True) J trivial fun s9 J9=>⟨_,_,J9,q⟩
 | brk=>obtain ⟨σ',H',J,q⟩:=z;exact key (Q:=fun _ _=>True) J trivial fun s9 J9=>⟨_,_,J9,q⟩
 | cont=>obtain ⟨σ',H',J,q⟩:=z;exact key (Q:=fun _ _=>True) J trivial fun s9 J9=>⟨_,_,J9,q⟩
 | ret u=>obtain ⟨v,σ',H',J,r,q⟩:=z;exact key (Q:=fun _ _=>True) J trivial fun s9 J9=>⟨v,_,_,J9,r,q⟩
end
end L2
namespace L2
open PySem PySem.Spec PyProof.Rows
def YcN (K:PySem.W.Frag) (cv:Value) (sp:Sp) (t:TA) (i j:Nat) (ts:TS):TS:=fun D σ H=>t σ H fun vs H1=>sp (vs++[]) H1 (fun v H2=>D.nx (σ.set i (some v)) H2) (fun cls dc H2=>PySem.W.exmOne K cls cv=some true∧∀ a,H2 a=none→ts (D.gone j) (σ.set j (some (.ref a))) (upd H2 a (W6 a cls dc)))
section
variable {g:Gx} {X:Cx} {k jj i j:Nat} {x f c n:Str} {ps:List Str} {sp:Sp} {e:Expr} {es:List Expr} {t:TA} {ts:TS} {b₀:Stmt} {suite:List Stmt} {cv:Value} {fp px cp hpos apos cpos pos:Pos}
theorem Ydz (F:g.FnX jj f ps sp) (hr:Room k X.A) (hN:X.N.Nodup) (hi:X.N[i]?=some x) (hx:Loc X.env.scope x) (hj:X.N[j]?=some n) (hk:X.env.scope.names.lookup n=some .local) (ha:PA X.nox (e::es) t) (hcm:g.mg c=some cv) (hsu:∀ a,PSs (X.caught a) (b₀::suite) ts)
  (hjk:jj≤k) (hX:X.gx=g) (hs:X.stack=X.env::X.outer) (hf:X.env.frame=some X.env.locals) (hg:Gl X f) (hc:Gl X c) (hdf:(f==("__debug__":Str))=false) (hdb:(c==("__debug__":Str))=false)
  (he:starEach (e::es) X.env=(false,eval e X.env)::starEach es X.env) (hpl:(backTo cpos (starEach es X.env)).any (·.1)=false)
  (hsw:swapsWith (.Call (.Name f fp) (e::es) [] cpos) (some (.Name x px)) apos.line X.env=pure false) (hfn:X.fn x=true∨X.env.scope.names.lookup x=some .local) :
  PS X (.Try [.Assign [.Name x px] (.Call (.Name f fp) (e::es) [] cpos) apos] [.ExceptHandler (some (.Name c cp)) (some n) (b₀::suite) hpos] [] [] pos) (YcN X.K cv sp t i j ts):=by
 subst hX
 intro pins s σ H D I h
 obtain ⟨fa,fd,F,b,kp,hm⟩:=F
 refine wpAny_Try_except ?_
 refine wpAny_execs_cons ?_
 refine wpAny_Assign_Name (thn (Q:=EP X pins σ fun v H2=>D.nx (σ.set i (some v)) H2) ?_ fun v s1 hz=>?_) hsw
 ·refine wpAny_Call_Name_kw (WE I hg hm ?_ hdf)
  refine PySem.W.callWith_K (h₀:=X.base) I.ok.mod.kin kp (wpAny_mono (ha cpos pins s σ H _ (I.wish _) h) (fun us s1 hz=>?_) fun _ _ z=>z.elim) he hpl
  obtain ⟨vs,H1,I1,r,q⟩:=hz
  have I1:=I1.unwish
  refine ⟨I1.kIn,?_⟩
  have r2:Yu (vs++[]) (us++[]):=r.append .nil
  have hl:(us++[]).length=ps.length:=by rw [← r2.length];exact F.len _ _ _ _ q
  refine wpAny_call (codeAny_mono (F.run X.A X.stack s1 H1 ⟨us,[]⟩ (us++[]) (vs++[]) _ _ (hr.mono hjk) I1.env0 (b s1 us I1.kIn hl) r2 q) fun r s' hq=>?_)
  cases r with
  | error e=>exact I1.catchAs hs hf hN hj hk hq hsu hc hcm hdb
  | ok fl =>
   cases fl with
   | ret u=>exact I1.after hq
   | next=>exact False.elim hq
   | brk=>exact False.elim hq
   | cont=>exact False.elim hq
 ·obtain ⟨y,H1,I1,r1,q1⟩:=hz
  exact Vq I1 hN hi hx r1 (fun s2 I2=>wpAny_execs_nil (wpAny_execs_nil ⟨_,H1,I2,q1⟩)) hfn
end
structure RoomM (k:Nat) (A:Around):Prop where
 dp:A.depth+3*k+5<recursionLimit
 un:A.units+16*k+200<cLine
theorem Room.m {k:Nat} {A:Around} (r:Room k A) (h:Option Value):RoomM k (A.mark h):=⟨r.dp,r.un⟩
section
variable {g:Gx} {k:Nat} {x qual:Str} {st:Stmt} {N ps:List Str} {sp:Sp}
end
section
variable {g:Gx} {X:Cx} {k j:Nat} {x:Str} {ps:List Str} {sp:Sp} {e:Expr} {es:List Expr} {t:TA} {p pos:Pos}
end
end L2
namespace PySem.W
open PySem PySem.Calls PyProof.Rows Builtin Builtin.ObjectAttr Builtin.Getset_descriptor
section
variable {prog:Program} {w:World} {A:Around} {E:Value→Shared→Prop} {K:Frag} {x C:Addr} {ox:Obj} {hh:Heap} {g:Array GenState} {d:Drawn} {t:Nat} {os:OsState}
theorem Qp (v:Value):bindSpecial (.builtin "BaseException.__getattribute__") v=pure (.builtin "BaseException.__getattribute__",[v]):=by
 have h1:withoutEnding? "BaseException.__getattribute__" "#opaque"=none:=by decide +kernel
 have h2:withoutEnding? "BaseException.__getattribute__" "#data"=none:=by decide +kernel
 have h3:builtinKind "BaseException.__getattribute__"=some .slot:=by decide +kernel
 simp only [bindSpecial,typeOf,builtinType,h1,h2,h3]
 rfl
theorem YcO {tp:Value} {R:Result→Shared→Prop} (In:K.In hh) (hx:hh.get? x=some ox) (hc:ox.cls = .ref C) (hm:mroIn K C (.type "object")=some true)
  (h:R (.ok (.ret (.ref C))) ⟨hh,g,d,t,os⟩):codeAny (model prog w) A (.call (.builtin "getset_descriptor.__get__") ⟨[.builtin "object.__class__",.ref x,tp],[]⟩) R ⟨hh,g,d,t,os⟩:=by
 have L0:Looks (model prog w) hh (typeOf (.ref x)) (.ref C):=by rw [← hc];exact (Looks.ld hx).andThen .now
 have L1:=looks_mroIn (M:=model prog w) In hm
 refine codeAny_call_builtin KF.slot_gs.plain KF.entry_gs (KF.slot_gs.check _ _ _ _ _ _ _ _ KF.type_class (KF.args_gs _ _ _) ?_)
 unfold Builtin.«getset_descriptor.__get__»
 unfold descrGet
 rw [dga_obj]
 refine wpAny_bind (wpAny_pure ?_)
 unfold descrGetter
 unfold descrCheckInstance descrNameAndClass
 unfold isInstance
 simp only [KF.owner_class]
 repeat lk
 refine ⟨Code.quiet_builtin _ (by decide +kernel),codeAny_builtin KF.entry_class ?_⟩
 unfold Builtin.«object.__class__»
 unfold shownTypeOf
 repeat lk
 exact h
theorem YaT {tk:Tok} {Q:Fin→Shared→Prop} (In:K.In hh) (hx:hh.get? x=some ox) (hc:ox.cls = .ref C) (hm:mroIn K C (.type "object")=some true) (ha:findIn K (.ref C) "__class__"=some (some (.builtin "object.__class__")))
  (hq:Q (.done (.ret (.ref C))) ⟨hh,g,d,t,os⟩):wpAny (model prog w) A (Builtin.«object.__getattribute__» ⟨[.ref x,.str "__class__" tk],[]⟩) Q E ⟨hh,g,d,t,os⟩:=by
 have hT5:(⟨hh,g,d,t,os⟩:Shared).TypeIs (.builtin "object.__class__") "getset_descriptor":=F.typeOf_object_class
 have f5:=F.typeOf_object_class
 have f6:=F.slot_gs_get.lookup
 have f7:=F.slot_gs_set.lookup
 have L3:=looks_findIn (M:=model prog w) In ha
 repeat (any_goals (first | assumption | (with_reducible refine wpAny_loadPart_at hx ?_;rw [hc]) | with_reducible refine L3.at ?_ | wp_step))
 refine YcO In hx hc hm ?_
 repeat (any_goals (first | assumption | wp_step))
theorem Ui {nv:Value} {Q:Unit→Shared→Prop} (In:K.In hh) (hx:hh.get? x=some ox) (hc:ox.cls = .ref C) (hb:mroIn K C (.type "BaseException")=some true) (hq:Q () ⟨hh,g,d,t,os⟩) :
  wpAny (model prog w) A (checkBuiltinCall "BaseException.__getattribute__" ⟨[.ref x,nv],[]⟩) Q E ⟨hh,g,d,t,os⟩:=by
 have k1:builtinKind "BaseException.__getattribute__"=some .slot:=by decide +kernel
 have k2:splitId "BaseException.__getattribute__"=some ("BaseException","__getattribute__"):=by decide +kernel
 have k3:=F.args_bexc_ga (.ref x) nv
 have L1:=looks_mroIn (M:=model prog w) In hb
 simp only [checkBuiltinCall,k1,k2]
 refine wpAny_bind ?_
 unfold isInstance
 repeat (first | (with_reducible refine wpAny_loadPart_at hx ?_;rw [hc]) | with_reducible refine L1.at ?_ | wp_step)
 exact hq
theorem YbR {tk:Tok} {R:Result→Shared→Prop} (In:K.In hh) (hx:hh.get? x=some ox) (hc:ox.cls = .ref C) (hm:mroIn K C (.type "object")=some true) (hb:mroIn K C (.type "BaseException")=some true) (ha:findIn K (.ref C) "__class__"=some (some (.builtin "object.__class__")))
  (hq:R (.ok (.ret (.ref C))) ⟨hh,g,d,t,os⟩):codeAny (model prog w) A (.call (.builtin "BaseException.__getattribute__") ⟨[.ref x,.str "__class__" tk],[]⟩) R ⟨hh,g,d,t,os⟩ :=
 codeAny_call_builtin (by decide +kernel) F.entry_bexc_ga (Ui In hx hc hb (YaT In hx hc hm ha hq))
theorem YdA {tk:Tok} {Q:Value→Shared→Prop} (In:K.In hh) (hx:hh.get? x=some ox) (hc:ox.cls = .ref C) (hm:mroIn K C (.type "object")=some true) (hb:mroIn K C (.type "BaseException")=some true) (ha:findIn K (.ref C) "__class__"=some (some (.builtin "object.__class__")))
  (hga:findIn K (.ref C) "__getattribute__"=some (some (.builtin "BaseException.__getattribute__"))) (hgt:findIn K (.ref C) "__getattr__"=some none) (hbd:bindSpecial (.builtin "BaseException.__getattribute__") (.ref x)=pure (.builtin "BaseException.__getattribute__",[.ref x])) (hq:Q (.ref C) ⟨hh,g,d,t,os⟩) :
  wpAny (model prog w) A (getAttrBy (.ref x) (.str "__class__" tk) false) Q E ⟨hh,g,d,t,os⟩:=by
 have e2:(Value.builtin "BaseException.__getattribute__"==Value.builtin "object.__getattribute__")=false:=by decide +kernel
 have e1:(onTheHeap (Value.ref C)&&Value.builtin "BaseException.__getattribute__"==Value.builtin "object.__getattribute__")=false:=by rw [e2];rfl
 have e0:(false&&onTheHeap (Value.builtin "BaseException.__getattribute__"))=false:=rfl
 have L1:=looks_findIn (M:=model prog w) In hga
 have L2:=looks_findIn (M:=model prog w) In hgt
 repeat (any_goals (first | assumption | (with_reducible refine wpAny_loadPart_at hx ?_;rw [hc]) | with_reducible refine L1.at ?_ | with_reducible refine L2.at ?_ | wp_step))
 refine YbR In hx hc hm hb ha ?_
 repeat (any_goals (first | assumption | wp_step))
theorem YbS {Q:Option Value→Shared→Prop} (In:K.In hh) (hx:hh.get? x=some ox) (hc:ox.cls = .ref C) (hm:mroIn K C (.type "object")=some true) (hb:mroIn K C (.type "BaseException")=some true) (ha:findIn K (.ref C) "__class__"=some (some (.builtin "object.__class__")))
  (hga:findIn K (.ref C) "__getattribute__"=some (some (.builtin "BaseException.__getattribute__"))) (hgt:findIn K (.ref C) "__getattr__"=some none) (hq:Q (some (.ref C)) ⟨hh,g,d,t+1,os⟩) :
  wpAny (model prog w) A (getAttr? (.ref x) "__class__") Q E ⟨hh,g,d,t,os⟩:=by
 unfold getAttr? getAttrBy?
 refine wpAny_bind (wpAny_mkText (wpAny_bind (wpAny_attempt (YdA In hx hc hm hb ha hga hgt ?_ (wpAny_pure hq)))))
 exact Qp (.ref x)
theorem kitx_exc (hd:hasDictIn K C=true) (hm:mroIn K C (.type "object")=some true) (hb:mroIn K C (.type "BaseException")=some true) (ha:findIn K (.ref C) "__class__"=some (some (.builtin "object.__class__")))
  (hga:findIn K (.ref C) "__getattribute__"=some (some (.builtin "BaseException.__getattribute__"))) (hgt:findIn K (.ref C) "__getattr__"=some none):KitX K (.ref x) (.ref C) (fun h=>∃ o,h.get? x=some o∧o.cls = .ref C) where
 ty:=fun M h _ ⟨o,hx,hc⟩=>by rw [← hc];exact (Looks.ld hx).andThen .now
 it:=fun M h In _=>by
  obtain ⟨cd,e,_⟩:=any_some hd
  unfold clsIn at e
  split at e
  case h_2=>cases e
  case h_1 q =>
   intro A' Q' E' s' k z
   unfold isType
   unfold loadHead
   exact wpAny_bind (wpAny_loadPart (k _ _ (In _ _ q)) (wpAny_pure z))
 ne:=fun h tp dd its n sl In htp=>by
  obtain ⟨cd,e,_⟩:=any_some hd
  refine Bool.eq_false_iff.mpr fun z=>?_
  have z1:C=tp:=Value.ref.inj (beq_iff_eq.mp z)
  subst z1
  unfold clsIn at e
  split at e
  case h_2=>cases e
  case h_1 q =>
   have y:=(In _ _ q).symm.trans htp
   cases y
 ca:=fun {prog w A E Q s} In ⟨o,hx,hc⟩ k=>by
  obtain ⟨hh,g,d,t,os⟩:=s
  exact YbS In hx hc hm hb ha hga hgt k
end
end PySem.W
namespace L2
open PySem PySem.Spec PyProof.Rows
structure ExcT (K:PySem.W.Frag) (C:Addr):Prop where
 hd:PySem.W.hasDictIn K C=true
 hm:PySem.W.mroIn K C (.type "object")=some true
 hb:PySem.W.mroIn K C (.type "BaseException")=some true
 ha:PySem.W.findIn K (.ref C) "__class__"=some (some (.builtin "object.__class__"))
 hga:PySem.W.findIn K (.ref C) "__getattribute__"=some (some (.builtin "BaseException.__getattribute__"))
 hgt:PySem.W.findIn K (.ref C) "__getattr__"=some none
section
variable {X:Cx}
theorem YcP {g:Gx} {x:Str} {C:Addr} {pos:Pos} (h:g.mg x=some (.ref C)) (hX:X.gx=g:=by rfl) (hg:Gl X x:=by rfl) (hd:(x==("__debug__":Str))=false:=by decide):PE X (.Name x pos) (tC (.ref C)):=by
 subst hX
 exact Ya2 hg h rfl hd
end
theorem YdB {X:Cx} {a:Addr}:(X.caught a).K=X.K:=rfl
end L2
namespace L2
open PySem PySem.Spec PyProof.Rows
end L2
namespace L2
open PySem PySem.Spec PyProof.Rows
section
variable {src:List (Option Nat)} {te:TE} {σ:St} {H:Hp} {Q:VK}
end
end L2
namespace L2
open PySem PySem.Spec PyProof.Rows
section
variable {X:Cx}
end
end L2
namespace L2
open PySem PySem.Spec PyProof.Rows
section
variable {src:List (Option Nat)} {te:TE} {σ:St} {H:Hp} {Q:VK}
theorem Q7 {K:PySem.W.Frag} {tl:TE} {xs:List V} (ys:List V) (ha:∀ R:V→Hp→Prop,(∀ a H1,Yf H H1→SqT K H1 a xs→R (.ref a) H1)→tl σ H R) (hl:ys.length=xs.length) (hlen:xs.length≤100000)
  (step:∀ (i:Nat) x y H',xs[i]?=some x→ys[i]?=some y→Yf H H'→∀ R:VK,(∀ H'',Yf H' H''→R y H'')→te (some x::YN src σ) H' R)
  (fin:∀ D H',H D=none→Yf H H'→H' D=some (.lst ys)→Q (.ref D) H'):tLC (none::src) (QU K tl) (YD 0) XN te σ H Q :=
 ha _ fun a H1 s1 hS=>⟨a,rfl,⟨xs,hS⟩,fun D hD=>UN (Qn.imp fun H' (e:Yf H1 H')=>e.tup hS) ys (fun _ e=>e) hD hl hlen (fun i x y H' hx hy sm R r=>step i x y H' hx hy (s1.trans sm) R r) fun H' sm=>fin D H' (s1.free hD) (s1.trans sm)⟩
end
end L2
namespace L2
open PySem PySem.Spec PyProof.Rows
def SqX (K:PySem.W.Frag) (H:Hp) (a:Addr) (xs:List V):Prop:=Rd H a (.lst xs)∨∃ (its:Array Value) (n:Nat),K.lookup a=some { cls := .type "list",data := .seq its n }∧its.size≤sizeLine∧Yu xs its.toList
theorem SqX.sq {K:PySem.W.Frag} {H:Hp} {a:Addr} {xs:List V} (h:SqX K H a xs):SqL K H a xs:=by
 rcases h with h | ⟨its,n,h1,h2,h3⟩
 ·exact .inl h
 ·exact .inr ⟨_,its,n,h1,rfl,rfl,rfl,h2,h3⟩
theorem SqX.of {K:PySem.W.Frag} {H:Hp} {a:Addr} {xs:List V} (h:H a=some (.lst xs)):SqX K H a xs := .inl (.of h)
theorem SqX.keep {K:PySem.W.Frag} {H H':Hp} {a:Addr} {xs:List V} (h:SqX K H a xs) (s:Yf H H'):SqX K H' a xs:=by
 rcases h with h | h
 ·rcases h with h | ⟨o,h⟩
  ·exact .inl (.inl (s _ _ h))
  ·exact .inl (.inr ⟨o,s _ _ h⟩)
 ·exact .inr h
section
variable {X:Cx}
end
end L2
namespace L2
open PySem PySem.Spec PyProof.Rows
def Gx.FnV (g:Gx) (k:Nat) (f:Addr) (ps:List Str) (sp:Sp):Prop:=∃ fd,FnOk g.P g.w g.K g.mg g.base CX0 k f fd ps sp∧XC g.K fd ps []∧PySem.W.keepIn g.K (.ref f)=true
def tFn (g:Gx) (k:Nat) (ps:List Str) (sp:Sp):TE:=fun _ H Q=>∀ f,g.FnV k f ps sp→Q (.ref f) H
def Yfd (g:Gx) (k i:Nat) (t:TA):TE:=fun σ H Q=>∃ f ps sp,σ[i]?=some (some (.ref f))∧g.FnV k f ps sp∧t σ H fun vs H1=>sp vs H1 Q E0
section
variable {X:Cx} {g:Gx} {k j i:Nat} {x:Str} {ps:List Str} {sp:Sp} {p pos:Pos} {e:Expr} {es:List Expr} {t:TA}
theorem Y9 (F:g.Fn j x ps sp) (hX:X.gx=g) (hg:Gl X x) (hdb:(x==("__debug__":Str))=false):PE X (.Name x pos) (tFn g j ps sp):=by
 subst hX
 obtain ⟨f,fd,F,b,kp,hm⟩:=F
 intro pins s σ H Q I h
 exact Ya2 (v := .ref f) hg hm rfl hdb pins s σ H Q I (h f ⟨fd,F,b,kp⟩)
theorem YdC (i:Nat) (hr:Room k X.A) (ha:PA X (e::es) t) (hj:j≤k) (hX:X.gx=g) (hN:X.N[i]?=some x) (hv:Vis X.env.scope x) (hdb:(x==("__debug__":Str))=false)
  (hcd:(x==("__classdict__":Str))=false) (he:starEach (e::es) X.env=(false,eval e X.env)::starEach es X.env) (hpl:(backTo pos (starEach es X.env)).any (·.1)=false):PE X (.Call (.Name x p) (e::es) [] pos) (Yfd g j i t):=by
 subst hX
 intro pins s σ H Q I h
 obtain ⟨f,ps,sp,hσ,⟨fd,F,b,kp⟩,ht⟩:=h
 refine wpAny_Call_Name_kw (thn (QR hN hv hdb hcd pins s σ H (fun v H1=>v = .ref f∧t σ H1 fun vs H1=>sp vs H1 Q E0) I ⟨.ref f,hσ,rfl,ht⟩) fun u s1 ⟨v,H1,I1,r,e,ht⟩=>?_)
 subst e
 obtain rfl:u=Value.ref f:=r
 refine PySem.W.callWith_K (h₀:=X.base) I1.ok.mod.kin kp (thn (ha pos pins s1 σ H1 _ I1 ht) fun us s2 ⟨vs,H2,I2,r2,q⟩=>⟨I2.kIn,?_⟩) he hpl
 exact QX F (hr.mono hj) b .nil QF I2 r2 (by rw [List.append_nil];exact q)
end
theorem YR (es:List Expr) (x:Nat) (p:Pos) (es':List Expr) (env:Env):starEach (.Tuple es x p::es') env=(false,eval (.Tuple es x p) env)::starEach es' env:=rfl
end L2
namespace L2
open PySem PySem.Spec PyProof.Rows
section
variable {X:Cx} {pins:List (Addr×Obj)} {σ:St} {H:Hp} {s:Shared} {A:Around} {E Q:Value→Shared→Prop}
theorem Q8:∀ {Ts:List String} {us:List Value},Yu (Ts.map V.ty) us→us=Ts.map Value.type
 | [],_,r=>by cases r;rfl
 | T::Ts,_,r=>by
  cases r with
  | cons h t =>
   have:_=Value.type T:=h
   rw [this,Q8 t]
   rfl
theorem YbT {x:V} {u t:Value} {tp:Addr} {Ts:List String} {b:Bool} (I:Inv X pins σ H s) (rx:YC x u) (ty:TyOf X.K H x t) (hT:H tp=some (.tup (Ts.map V.ty))) (e:PySem.W.kitAny X.K t (Ts.map Value.type)=some b) (h:∀ tk,Q (.bool b) { s with toks:=tk }) :
  wpAny (model X.prog X.w) A (call (.builtin "isinstance") [u,.ref tp]) Q E s:=by
 obtain ⟨_,us,r,o,g1,g2,n,g3⟩:=(show YM X.prog X.w H s.heap tp (.tup (Ts.map V.ty)) from I.hok tp _ hT)
 obtain ⟨oc,od,ot,sl⟩:=o
 have g2':oc=Value.type "tuple":=g2
 have g3':ot=Data.seq us.toArray n:=g3
 subst g2' g3'
 rw [Q8 r] at g1
 cases ty with
 | non=>cases (show u=Value.none from rx);exact PySem.W.kia_tup PySem.W.kitx_none I.kIn True.intro g1 e (fun z=>nomatch z) h
 | bl y=>cases (show u=Value.bool y from rx);exact PySem.W.kia_tup PySem.W.kitx_bool I.kIn True.intro g1 e (fun z=>nomatch z) h
 | int i=>obtain ⟨t,q⟩:=(show ∃ t,u=Value.int i t from rx);cases q;exact PySem.W.kia_tup PySem.W.kitx_int I.kIn True.intro g1 e (fun z=>nomatch z) h
 | str y=>obtain ⟨t,q⟩:=(show ∃ t,u=Value.str y t from rx);cases q;exact PySem.W.kia_tup PySem.W.kitx_str I.kIn True.intro g1 e (fun z=>nomatch z) h
 | flt y=>obtain ⟨t,q⟩:=(show ∃ t,u=Value.float y t from rx);cases q;exact PySem.W.kia_tup PySem.W.kitx_float I.kIn True.intro g1 e (fun z=>nomatch z) h
 | @lst a xs ea =>
  cases (show u=Value.ref a from rx)
  obtain ⟨_,_,n,_,h1⟩:=(show YM X.prog X.w H s.heap a (.lst xs) from I.hok a _ ea)
  exact PySem.W.kia_tup PySem.W.kitx_list I.kIn ⟨_,h1,rfl⟩ g1 e (fun z=>nomatch z) h
 | @frz a ob xs ea =>
  cases (show u=Value.ref a from rx)
  obtain ⟨_,_,_,n,_,h1⟩:=(show YM X.prog X.w H s.heap a (.frz ob (.lst xs)) from I.hok a _ ea)
  exact PySem.W.kia_tup PySem.W.kitx_list I.kIn ⟨_,h1,rfl⟩ g1 e (fun z=>nomatch z) h
 | @tup a xs ea =>
  cases (show u=Value.ref a from rx)
  obtain ⟨_,_,_,p⟩:=(show YM X.prog X.w H s.heap a (.tup xs) from I.hok a _ ea)
  obtain ⟨o,h1,h2,_⟩:=p
  exact PySem.W.kia_tup PySem.W.kitx_tuple I.kIn ⟨o,h1,h2⟩ g1 e (fun z=>nomatch z) h
 | @dK a kvs ea =>
  cases (show u=Value.ref a from rx)
  obtain ⟨_,_,vs,_,p⟩:=(show YM X.prog X.w H s.heap a (.dK kvs) from I.hok a _ ea)
  obtain ⟨o,es,ep,h1,h2,_⟩:=p
  exact PySem.W.kia_tup PySem.W.kitx_dict I.kIn ⟨o,h1,h2.1⟩ g1 e (fun z=>nomatch z) h
 | @dT a kvs ea =>
  cases (show u=Value.ref a from rx)
  obtain ⟨_,_,xs,_,o,es,ep,h1,h2,_⟩:=(show YM X.prog X.w H s.heap a (.dT kvs) from I.hok a _ ea)
  exact PySem.W.kia_tup PySem.W.kitx_dict I.kIn ⟨o,h1,h2.1⟩ g1 e (fun z=>nomatch z) h
 | @ins a C dx fs ea cl ha hn htk hm =>
  cases (show u=Value.ref a from rx)
  obtain ⟨mA,O,_⟩:=Ya8 I.hok ea
  obtain ⟨od,J,_⟩:=O.look
  exact PySem.W.kia_tup (PySem.W.kitx_own (cl.get _) cl.hd ha hn htk hm) I.kIn J g1 e (fun z=>nomatch z) h
end
section
variable {X:Cx}
theorem Y6:Xk X (.builtin "isinstance") (fun xs H Q=>∃ x tp Ts t b,xs=[x,.ref tp]∧H tp=some (.tup (List.map V.ty Ts))∧TyOf X.K H x t∧PySem.W.kitAny X.K t (Ts.map Value.type)=some b∧Q (.bl b) H):=by
 intro pins s σ H xs us Q I r h
 obtain ⟨x,tp,Ts,t,b,rfl,hT,ty,e,q⟩:=h
 obtain ⟨u,v,rfl,ru,rv⟩:=r.two
 cases rv
 exact YbT I ru ty hT e fun tk=>⟨.bl b,H,I.tok _,rfl,q⟩
end
section
variable {src:List (Option Nat)} {te:TE} {σ:St} {Q:VK}
theorem YcQ {K:PySem.W.Frag} {G1 G2:Hp→List V→Prop} {xs ys:List V} {H1:Hp} {D:Addr} (zs:List V) (g1:∀ H',Yf H1 H'→G1 H' xs) (g2:∀ H',Yf H1 H'→G2 H' ys) (hD:H1 D=none) (hxy:xs.length=ys.length) (hl:zs.length=xs.length) (hlen:xs.length≤100000)
  (step:∀ (i:Nat) x y z H',xs[i]?=some x→ys[i]?=some y→zs[i]?=some z→Yf H1 H'→∀ R:VK,(∀ H'',Yf H' H''→R z H'')→te (some x::some y::YN src σ) H' R)
  (fin:∀ H',Yf H1 H'→H' D=some (.lst zs)→Q (.ref D) H'):LC (none::none::src) (Itz G1 G2) (WI K 2 (Xm (YD 0) (Xm (YD 1) WH))) XN te σ H1 Q D:=by
 have h6:100000<sizeLine:=by decide
 refine YcI (J:=Itz G1 G2) (n:=xs.length) (P:=fun H'=>Yf H1 H') (fun i H' sm hi=>⟨xs,ys,xs[i],ys[i],g1 _ sm,g2 _ sm,List.getElem?_eq_getElem hi,List.getElem?_eq_getElem (by omega)⟩) (fun H' sm=>⟨xs,ys,g1 _ sm,g2 _ sm,by omega⟩)
  (fun i ws σ' H'=>ws=zs.take i∧(∃ o o',σ'=o::o'::YN src σ)∧Yf H1 H'∧H' D=some (.lst ws)) ⟨by simp,⟨none,none,rfl⟩,.upd_new hD _,Yh⟩ (fun i ws σ' H' p=>⟨p.2.2.1,p.2.2.2⟩) (YaS K 0 1) ?_ ?_
 ·rintro i ws σ' H' hi ⟨rfl,⟨o,o',rfl⟩,sm,hd⟩ x H3 ⟨T,rfl,hT,heq⟩
  have hx:xs[i]?=some xs[i]:=List.getElem?_eq_getElem hi
  have hy:ys[i]?=some (ys[i]'(by omega)):=List.getElem?_eq_getElem _
  have hz:zs[i]?=some (zs[i]'(by omega)):=List.getElem?_eq_getElem _
  have e3:=heq xs ys _ _ (g1 _ sm) (g2 _ sm) hx hy
  subst e3
  have s3:Yf H' (upd H' T (.tup [xs[i],ys[i]'(by omega)])) := .upd_new hT _
  refine ⟨T,_,rfl,SqT.of Yh,rfl,_,_,rfl,_,_,rfl,rfl,?_⟩
  show te (some xs[i]::some (ys[i]'(by omega))::YN src σ) _ _
  refine step i _ _ _ _ hx hy hz (sm.trans s3) _ fun H'' s2=>⟨s2 _ _ (s3 _ _ hd),?_,(X9 hz).symm,⟨_,_,rfl⟩,.upd_over hD ((sm.trans s3).trans s2) _,Yh⟩
  rw [List.length_take];omega
 ·rintro ws σ' H' ⟨rfl,_,sm,hd⟩
  rw [← hl,List.take_length] at hd
  exact fin H' sm hd
variable {X:Cx} {H:Hp}
def iOr (a b:TI):TI:=fun σ H R=>a σ H R∨b σ H R
theorem WD {tg:Expr} {l:Expr} {a b:TI} (ha:PI X tg l a) (hb:PI X tg l b):PI X tg l (iOr a b):=by
 intro pins s σ H R I h
 rcases h with h | h
 ·exact ha pins s σ H R I h
 ·exact hb pins s σ H R I h
theorem YdD {K:PySem.W.Frag} {ta:TA} {xs ys:List V} {a b:Addr} (zs:List V) (ha:∀ R:List V→Hp→Prop,R [.ref a,.ref b] H→ta σ H R) (h1:SqT K H a xs) (h2:SqT K H b ys) (hxy:xs.length=ys.length) (hl:zs.length=xs.length) (hlen:xs.length≤100000)
  (step:∀ (i:Nat) x y z H',xs[i]?=some x→ys[i]?=some y→zs[i]?=some z→Yf H H'→∀ R:VK,(∀ H'',Yf H' H''→R z H'')→te (some x::some y::YN src σ) H' R)
  (fin:∀ D H',H D=none→Yf H H'→H' D=some (.lst zs)→Q (.ref D) H'):tLC (none::none::src) (QG K ta) (WI K 2 (Xm (YD 0) (Xm (YD 1) WH))) XN te σ H Q :=
 ha _ ⟨a,b,xs,ys,rfl,h1,h2,fun D hD=>YcQ zs (fun H' sm=>sm.tup h1) (fun H' sm=>sm.tup h2) hD hxy hl hlen step fun H'=>fin D H' hD⟩
theorem YdE {K:PySem.W.Frag} {ta:TA} {xs ys:List V} {a b:Addr} (zs:List V) (ha:∀ R:List V→Hp→Prop,R [.ref a,.ref b] H→ta σ H R) (h1:SqL K H a xs) (h2:SqL K H b ys) (hxy:xs.length=ys.length) (hl:zs.length=xs.length) (hlen:xs.length≤100000)
  (step:∀ (i:Nat) x y z H',xs[i]?=some x→ys[i]?=some y→zs[i]?=some z→Yf H H'→∀ R:VK,(∀ H'',Yf H' H''→R z H'')→te (some x::some y::YN src σ) H' R)
  (fin:∀ D H',H D=none→Yf H H'→H' D=some (.lst zs)→Q (.ref D) H'):tLC (none::none::src) (QH K ta) (WI K 2 (Xm (YD 0) (Xm (YD 1) WH))) XN te σ H Q :=
 ha _ ⟨a,b,xs,ys,rfl,h1,h2,fun D hD=>YcQ zs (fun H' sm=>sm.seq h1) (fun H' sm=>sm.seq h2) hD hxy hl hlen step fun H'=>fin D H' hD⟩
end
end L2
namespace L2
open PySem PySem.Spec PyProof.Rows
def LtAt (A:Around) (s:Shared) (u v:Value) (b:Bool):Prop:=∀ (prog:Program) (w:World) (E:Value→Shared→Prop) (Q:Value→Shared→Prop),Q (.bool b) s→wpAny (model prog w) A (richCompare .Lt u v) Q E s
section
open PySem.SeqAt
open PySem.AutoSeq1 (wpAny_loadPart')
open PySem.MeetsSeq PySem.MeetsSeq2 PySem.MeetsSeq3
inductive Two (A:Around) (s:Shared):List Value→List Value→Bool→Prop
 | nn:Two A s [] [] false
 | nc {v:Value} {vs:List Value}:Two A s [] (v::vs) true
 | cn {v:Value} {vs:List Value}:Two A s (v::vs) [] false
 | eq {u v:Value} {us vs:List Value} {b:Bool}:EqAt A s u v true→Two A s us vs b→Two A s (u::us) (v::vs) b
 | ne {u v:Value} {us vs:List Value} {b:Bool}:EqAt A s u v false→LtAt A s u v b→Two A s (u::us) (v::vs) b
variable {X:Cx}
end
end L2
namespace L2
open PySem PySem.Spec PyProof.Rows
section
open PySem.SeqAt
open PySem.AutoSeq1 (wpAny_loadPart')
open PySem.MeetsSeq PySem.MeetsSeq2 PySem.MeetsSeq3
variable {X:Cx}
variable {K:PySem.W.Frag}
end
end L2
namespace L2
open PySem
mutual
inductive KD:PyData→Prop
 | int (i:Int):KD (.int i)
 | tup {ds:List PyData}:KDs ds→KD (.tuple ds)
inductive KDs:List PyData→Prop
 | nil:KDs []
 | cons {d:PyData} {ds:List PyData}:KD d→KDs ds→KDs (d::ds)
end
mutual
theorem KD.eqv:∀ {d e:PyData},KD d→KD e→(PyData.eqv d e=true↔d=e)
 | _,_,.int i,.int j=>by rw [PyData.eqv];simp
 | _,_,.int i,.tup _=>by rw [PyData.eqv];simp
 | _,_,.tup _,.int i=>by rw [PyData.eqv];simp
 | _,_,.tup h,.tup k=>by
  rw [PyData.eqv,h.eqv k]
  simp
theorem KDs.eqv:∀ {ds es:List PyData},KDs ds→KDs es→(PyData.eqvAll ds es=true↔ds=es)
 | _,_,.nil,.nil=>by simp [PyData.eqvAll]
 | _,_,.nil,.cons _ _=>by simp [PyData.eqvAll]
 | _,_,.cons _ _,.nil=>by simp [PyData.eqvAll]
 | _,_,.cons (d:=d) (ds:=ds) h hs,.cons (d:=e) (ds:=es) k ks=>by
  rw [PyData.eqvAll,Bool.and_eq_true,h.eqv k,hs.eqv ks]
  simp
end
mutual
inductive KLt:PyData→PyData→Prop
 | int {i j:Int}:i<j→KLt (.int i) (.int j)
 | mix {i:Int} {ds:List PyData}:KLt (.int i) (.tuple ds)
 | tup {ds es:List PyData}:KLs ds es→KLt (.tuple ds) (.tuple es)
inductive KLs:List PyData→List PyData→Prop
 | nil {e:PyData} {es:List PyData}:KLs [] (e::es)
 | here {d e:PyData} {ds es:List PyData}:KLt d e→KLs (d::ds) (e::es)
 | there {d:PyData} {ds es:List PyData}:KLs ds es→KLs (d::ds) (d::es)
end
mutual
theorem KLt.trans:∀ {a b c:PyData},KLt a b→KLt b c→KLt a c
 | _,_,_,.int h,.int k => .int (by omega)
 | _,_,_,.int h,.mix => .mix
 | _,_,_,.mix,.tup _ => .mix
 | _,_,_,.tup h,.tup k => .tup (h.trans k)
theorem KLs.trans:∀ {a b c:List PyData},KLs a b→KLs b c→KLs a c
 | _,_,_,.nil,.here _ => .nil
 | _,_,_,.nil,.there _ => .nil
 | _,_,_,.here h,.here k => .here (h.trans k)
 | _,_,_,.here h,.there _ => .here h
 | _,_,_,.there _,.here k => .here k
 | _,_,_,.there h,.there k => .there (h.trans k)
end
end L2
namespace L2
open PySem
section
variable {src:List (Option Nat)} {te:TE} {σ:St} {H:Hp} {Q:VK}
end
end L2
namespace L2
open PySem
mutual
inductive VL (H:Hp):V→PyData→List Addr→Prop
 | int (i:Int):VL H (.int i) (.int i) []
 | str (x:Str) (h:PyData.strOk x=true):VL H (.str x) (.str x) []
 | lst {a:Addr} {vs:List V} {ds:List PyData} {L:List Addr}:H a=some (.lst vs)→vs.length≤10000→VLs H vs ds L→VL H (.ref a) (.list ds) (a::L)
 | tup {a:Addr} {vs:List V} {ds:List PyData} {L:List Addr}:H a=some (.tup vs)→vs.length≤10000→VLs H vs ds L→VL H (.ref a) (.tuple ds) L
inductive VLs (H:Hp):List V→List PyData→List Addr→Prop
 | nil:VLs H [] [] []
 | cons {v:V} {d:PyData} {L:List Addr} {vs:List V} {ds:List PyData} {L':List Addr}:VL H v d L→VLs H vs ds L'→VLs H (v::vs) (d::ds) (L++L')
end
def Tps (H H':Hp):Prop:=∀ a vs,H a=some (.tup vs)→H' a=some (.tup vs)
theorem Yf.tps {H H':Hp} (s:Yf H H'):Tps H H':=fun a vs h=>s a _ h
theorem Tps.trans {H H' H'':Hp} (s:Tps H H') (t:Tps H' H''):Tps H H'':=fun a vs h=>t a vs (s a vs h)
theorem Tps.upd_lst {H:Hp} {p:Addr} {xs ys:List V} (h:H p=some (.lst xs)):Tps H (upd H p (.lst ys)):=fun a vs ha=>by
 rw [Ym (Wp ha h (by intro z;cases z))];exact ha
mutual
theorem VL.keepL {H H':Hp} (t:Tps H H'):∀ {v:V} {d:PyData} {L:List Addr},VL H v d L→(∀ a∈L,∀ vs,H a=some (.lst vs)→H' a=some (.lst vs))→VL H' v d L
 | _,_,_,.int i,_ => .int i
 | _,_,_,.str x h,_ => .str x h
 | _,_,_,.lst h hn hs,e => .lst (e _ (.head _) _ h) hn (hs.keepL t fun a ha=>e a (.tail _ ha))
 | _,_,_,.tup h hn hs,e => .tup (t _ _ h) hn (hs.keepL t e)
theorem VLs.keepL {H H':Hp} (t:Tps H H'):∀ {vs:List V} {ds:List PyData} {L:List Addr},VLs H vs ds L→(∀ a∈L,∀ vs,H a=some (.lst vs)→H' a=some (.lst vs))→VLs H' vs ds L
 | _,_,_,.nil,_ => .nil
 | _,_,_,.cons h hs,e => .cons (h.keepL t fun a ha=>e a (List.mem_append_left _ ha)) (hs.keepL t fun a ha=>e a (List.mem_append_right _ ha))
end
theorem VL.keep {H H':Hp} {v:V} {d:PyData} {L:List Addr} (h:VL H v d L) (s:Yf H H'):VL H' v d L:=h.keepL s.tps fun a _ vs e=>s _ _ e
theorem VLs.keep {H H':Hp} {vs:List V} {ds:List PyData} {L:List Addr} (h:VLs H vs ds L) (s:Yf H H'):VLs H' vs ds L:=h.keepL s.tps fun a _ vs e=>s _ _ e
mutual
theorem VL.mem {H:Hp}:∀ {v:V} {d:PyData} {L:List Addr},VL H v d L→∀ a∈L,∃ vs,H a=some (.lst vs)∧vs.length≤10000
 | _,_,_,.lst (a:=b) h hn hs,a,ha=>by
  rcases List.mem_cons.mp ha with e | ha
  ·subst e;exact ⟨_,h,hn⟩
  ·exact hs.mem a ha
 | _,_,_,.tup h hn hs,a,ha=>hs.mem a ha
theorem VLs.mem {H:Hp}:∀ {vs:List V} {ds:List PyData} {L:List Addr},VLs H vs ds L→∀ a∈L,∃ vs,H a=some (.lst vs)∧vs.length≤10000
 | _,_,_,.cons h hs,a,ha=>by
  rcases List.mem_append.mp ha with ha | ha
  ·exact h.mem a ha
  ·exact hs.mem a ha
end
mutual
theorem VL.den {K:PySem.W.Frag} {H:Hp}:∀ {v:V} {d:PyData} {L:List Addr},VL H v d L→Den K H v d
 | _,_,_,.int i => .int i
 | _,_,_,.str x h => .str x h
 | _,_,_,.lst h _ hs => .lst (SqL.of h) hs.den
 | _,_,_,.tup h _ hs => .tup (SqT.of h) hs.den
theorem VLs.den {K:PySem.W.Frag} {H:Hp}:∀ {vs:List V} {ds:List PyData} {L:List Addr},VLs H vs ds L→Dens K H vs ds
 | _,_,_,.nil => .nil
 | _,_,_,.cons h hs => .cons h.den hs.den
end
theorem VLs.length {H:Hp}:∀ {vs:List V} {ds:List PyData} {L:List Addr},VLs H vs ds L→vs.length=ds.length
 | _,_,_,.nil=>rfl
 | _,_,_,.cons _ hs=>congrArg (·+1) hs.length
theorem VLs.append {H:Hp} {vs':List V} {ds':List PyData} {L':List Addr}:∀ {vs:List V} {ds:List PyData} {L:List Addr},VLs H vs ds L→VLs H vs' ds' L'→VLs H (vs++vs') (ds++ds') (L++L')
 | _,_,_,.nil,h=>h
 | _,_,_,.cons a b,h=>by rw [List.append_assoc];exact .cons a (b.append h)
theorem VL.one {H:Hp} {v:V} {d:PyData} {L:List Addr} (h:VL H v d L):VLs H [v] [d] L:=by
 have:=VLs.cons h .nil
 rwa [List.append_nil] at this
structure Owns (H0 H:Hp) (vs:List V) (ds:List PyData) (L:List Addr):Prop where
 vl:VLs H vs ds L
 nd:L.Nodup
 new:∀ a∈L,H0 a=none
theorem Owns.ext {H0 H1 H2:Hp} {vs:List V} {ds:List PyData} {L L':List Addr} {ys:List V} {es:List PyData} {D:Addr} {zs zs':List V} (h:Owns H0 H1 vs ds L) (hD:∀ a∈L,a≠D) (s0:Yf H0 H1) (s:Yf H1 H2) (o:Owns H1 H2 ys es L') (h1:H1 D=some (.lst zs)):Owns H0 (upd H2 D (.lst zs')) (vs++ys) (ds++es) (L++L')∧∀ a∈L++L',a≠D:=by
 have hD':∀ a∈L',a≠D:=fun a ha e=>by have:=o.new a ha;rw [e,h1] at this;cases this
 have t:Tps H2 (upd H2 D (.lst zs')) := .upd_lst (s _ _ h1)
 refine ⟨⟨((h.vl.keep s).keepL t fun a ha vs e=>by rw [Ym (hD a ha)];exact e).append (o.vl.keepL t fun a ha vs e=>by rw [Ym (hD' a ha)];exact e),?_,fun a ha=>?_⟩,fun a ha=>?_⟩
 ·refine List.nodup_append.mpr ⟨h.nd,o.nd,fun a ha b hb e=>?_⟩
  subst e
  obtain ⟨vs,e1,_⟩:=h.vl.mem a ha
  rw [o.new a hb] at e1
  cases e1
 ·rcases List.mem_append.mp ha with ha | ha
  ·exact h.new a ha
  ·exact s0.free (o.new a ha)
 ·rcases List.mem_append.mp ha with ha | ha
  ·exact hD a ha
  ·exact hD' a ha
theorem Q9 {K:PySem.W.Frag} {tl:TE} {g:TG} {tb:TS} {D:Ends} {σ:St} {H:Hp} {a:Addr} {xs:List V} (Pv:Nat→St→Hp→Prop) (ha:∀ R:V→Hp→Prop,R (.ref a) H→tl σ H R) (h0:Pv 0 σ H) (hl:∀ i σ H,i≤xs.length→Pv i σ H→SqT K H a xs)
  (hs:∀ i x σ H,xs[i]?=some x→Pv i σ H→g x σ H fun σ2 H2=>tb { D with nx:=Pv (i+1),ct:=Pv (i+1),bk:=D.nx } σ2 H2) (hd:∀ σ H,Pv xs.length σ H→D.nx σ H):X4 (QU K tl) g tb D σ H:=by
 refine ha _ ⟨a,rfl,⟨xs,hl 0 σ H (Nat.zero_le _) h0⟩,?_⟩
 exact Ya4 Pv h0 hl hs hd
theorem WN {a b:TI} {g:TG} {tb:TS} {D:Ends} {σ:St} {H:Hp} (h:X4 a g tb D σ H):X4 (iOr a b) g tb D σ H:=.inl h
theorem Us {a b:TI} {g:TG} {tb:TS} {D:Ends} {σ:St} {H:Hp} (h:X4 b g tb D σ H):X4 (iOr a b) g tb D σ H:=.inr h
section
variable {src:List (Option Nat)} {te:TE} {σ:St} {H:Hp} {Q:VK}
end
end L2
namespace L2
open PySem PySem.Spec PyProof.Rows
section
variable {X:Cx} {pos:Pos}
end
end L2
namespace L2
open PySem
section
variable {src:List (Option Nat)} {te:TE} {σ:St} {H:Hp} {Q:VK}
theorem UR {ta:TA} {n:Nat} (I:Addr→Nat→List V→Hp→Prop) (ha:∀ R:List V→Hp→Prop,R [.int n] H→ta σ H R) (hlen:n≤100000)
  (i0:∀ D,H D=none→I D 0 [] (upd H D (.lst []))) (dl:∀ D i zs H',I D i zs H'→zs.length=i∧H' D=some (.lst zs))
  (step:∀ D (i:Nat) zs H',H D=none→i<n→I D i zs H'→∀ R:VK,(∀ y H'',H'' D=some (.lst zs)→I D (i+1) (zs++[y]) (upd H'' D (.lst (zs++[y])))→R y H'')→te (some (.int i)::YN src σ) H' R)
  (fin:∀ D zs H',H D=none→I D n zs H'→Q (.ref D) H'):tLC (none::src) (UB ta) (YD 0) XN te σ H Q:=by
 refine ha _ ⟨n,rfl,by omega,by omega,fun D hD=>?_⟩
 have h6:100000<sizeLine:=by decide
 refine QI (W5 (lo:=0) (n:=n) (P:=fun _=>True)) (fun i zs σ' H'=>(∃ o,σ'=o::YN src σ)∧i≤n∧I D i zs H') ⟨⟨none,rfl⟩,Nat.zero_le _,i0 D hD⟩ (fun i zs σ' H' q=>⟨trivial,(dl _ _ _ _ q.2.2).2⟩) (WB 0) ?_ ?_
 ·rintro i zs σ' H' x hx ⟨⟨o,rfl⟩,_,hI⟩
  have hi:i<n:=by have:=(List.getElem?_eq_some_iff.mp hx).1;simpa using this
  rw [List.getElem?_map,List.getElem?_range hi] at hx
  have e:V.int (0+(i:Int))=x:=Option.some.inj hx
  rw [Int.zero_add] at e
  subst e
  have hl:=(dl _ _ _ _ hI).1
  show te (some (.int i)::YN src σ) H' _
  exact step D i zs H' hD hi hI _ fun y H'' hd hI'=>⟨hd,by omega,⟨_,rfl⟩,hi,hI'⟩
 ·rintro zs σ' H' ⟨_,_,hI⟩
  exact fin D zs H' hD (by simpa using hI)
end
end L2
namespace L2
open PySem PySem.Spec PyProof.Rows
section
variable {g:Gx} {k:Nat} {x qual m:Str} {st:Stmt} {N ps:List Str} {sp:Sp} {C:Addr}
end
section
variable {g:Gx} {X:Cx} {k j:Nat} {x m:Str} {ps:List Str} {sp:Sp} {E:XK} {C:Addr} {e o:Expr} {es:List Expr} {t:TA} {ta:TE} {p pos apos:Pos}
end
theorem Vv {X:Cx} {f:Value} {r1 r2:List V→Hp→VK→Prop} (h1:Xk X f r1) (h2:Xk X f r2):Xk X f (fun xs H Q=>r1 xs H Q∨r2 xs H Q):=fun pins s σ H xs us Q I v h =>
 h.elim (h1 pins s σ H xs us Q I v) (h2 pins s σ H xs us Q I v)
section
variable {g:Gx} {X:Cx} {k jj j:Nat} {f c n:Str} {ps:List Str} {sp:Sp} {e:Expr} {es:List Expr} {t:TA} {ts:TS} {b₀:Stmt} {suite:List Stmt} {cv:Value} {fp cp hpos apos cpos pos:Pos}
end
end L2
namespace L2
open PySem PySem.Spec PyProof.Rows
def Yev (l:List Str) (v:Str):List Str:=if l.any (·==v) then l else l++[v]
def met (val:Nat→Str) (i:Nat):List Str:=((List.range i).map val).foldl Yev []
section
variable {prog:Program} {w:World} {A:Around} {R:Result→Shared→Prop} {I:Addr} {fp wr:List Addr} {G:Array GenState→Array GenState→Prop} {n:Nat} {P:Nat→Value→Prop} {St:Nat→Shared→Prop}
end
end L2
namespace L2
open PySem PySem.Spec PyProof.Rows
section
variable {prog:Program} {w:World} {A:Around} {E:Value→Shared→Prop} {s:Shared}
end
def SetO (a:Addr) (n:Nat):HO := .ext fun h=>∃ (o:Obj) (es:Array (Int×Value)) (ep:Nat) (t:SetTable),h.get? a=some o∧o.ExactSet∧o.data = .set es ep t∧t.fits es.size=true∧es.size=n∧n<scanBound
section
variable {X:Cx}
end
end L2
namespace L2
open PySem PySem.Spec PyProof.Rows
section
variable {X:Cx}
end
end L2
namespace L2
open PySem PySem.Spec PyProof.Rows
section
variable {X:Cx}
end
end L2
namespace L2
open PySem PySem.Spec PyProof.Rows
section
variable {X:Cx}
end
end L2
namespace L2
open PySem PySem.Spec PyProof.Rows
section
variable {X:Cx} {e lo st:Expr} {te tl ts:TE} {pos p2:Pos}
end
section
variable {g:Gx} {X:Cx} {k j:Nat} {x m:Str} {ps:List Str} {sp:Sp} {e:Expr} {es:List Expr} {t:TA} {p pos apos:Pos}
end
end L2
namespace L2
open PySem PySem.Spec PyProof.Rows
section
variable {X:Cx}
end
section
variable {K:PySem.W.Frag} {h:Heap} {mg:Str→Option Value} {P:Program} {w:World} {base:Heap} {f B:Addr} {x qual m:Str} {st:Stmt} {ps N:List Str} {oc kV dc pm cd ct:Value} {od an:Option Addr} {sl:Array (Option Value)} {g:Gx} {k:Nat} {sp:Sp}
end
end L2
namespace L2
def Yew (a b:TE):TE:=fun σ H Q=>a σ H Q∨b σ H Q
theorem VW {X:Cx} {e:PySem.Expr} {a b:TE} (ha:PE X e a) (hb:PE X e b):PE X e (Yew a b):=fun pins s σ H Q I h=>h.elim (fun z=>ha pins s σ H Q I z) (fun z=>hb pins s σ H Q I z)
end L2
namespace L2
open PySem PySem.Spec PyProof.Rows
section
variable {g:TG} {tb:TS} {D:Ends} {σ:St} {H:Hp}
end
def V0s (H:Hp) (us:List V) (ds:List PyData):Prop:=us.length=ds.length∧∀ (i:Nat) u d,us[i]?=some u→ds[i]?=some d→VL H u d []
theorem V0s.keep {H H':Hp} {us:List V} {ds:List PyData} (h:V0s H us ds) (t:Tps H H'):V0s H' us ds:=⟨h.1,fun i u d h1 h2=>(h.2 i u d h1 h2).keepL t fun a ha=>absurd ha (by simp)⟩
theorem V0s.nil {H:Hp}:V0s H [] []:=⟨rfl,fun i u d h=>by simp at h⟩
theorem V0s.one {H:Hp} {u:V} {d:PyData} (h:VL H u d []):V0s H [u] [d]:=⟨rfl,fun i x y h1 h2=>by
 cases i with
 | zero =>
  have e1:u=x:=by simpa using h1
  have e2:d=y:=by simpa using h2
  subst e1 e2
  exact h
 | succ i=>simp at h1⟩
theorem V0s.append {H:Hp} {us us':List V} {ds ds':List PyData} (h:V0s H us ds) (h':V0s H us' ds'):V0s H (us++us') (ds++ds'):=by
 refine ⟨by rw [List.length_append,List.length_append,h.1,h'.1],fun i u d h1 h2=>?_⟩
 by_cases hi:i<us.length
 ·rw [List.getElem?_append_left hi] at h1
  rw [List.getElem?_append_left (by rw [← h.1];exact hi)] at h2
  exact h.2 i u d h1 h2
 ·rw [List.getElem?_append_right (by omega)] at h1
  rw [List.getElem?_append_right (by rw [← h.1];omega),← h.1] at h2
  exact h'.2 _ u d h1 h2
theorem V0s.of {H:Hp}:∀ {us:List V} {ds:List PyData} {L:List Addr},VLs H us ds L→L=[]→V0s H us ds
 | _,_,_,.nil,_ => .nil
 | _,_,_,.cons h hs,e=>by
  obtain ⟨e1,e2⟩:=List.append_eq_nil_iff.mp e
  subst e1
  have:=(V0s.of hs e2)
  exact V0s.append (.one h) this
end L2
namespace L2
open PySem
end L2
namespace L2
open PySem
end L2
namespace L2
open PySem PySem.Spec PyProof.Rows
section
variable {X:Cx} {elts:List Expr} {kk:Nat} {tpos:Pos}
end
section
variable {tb:TS} {D:Ends} {σ:St} {H:Hp}
end
end L2
namespace L2
open PySem
end L2
namespace L2
open PySem PySem.Spec PyProof.Rows
abbrev FnO (f:Addr) (fd:FuncData):HO := .ext fun h=>h.get? f=some { cls := .type "function",data := .func fd }
abbrev CdO (c:Addr) (q:Str):HO := .ext fun h=>h.CodeRec (.ref c) q
abbrev Vw (c:Addr) (v:V):HO := .ext fun h=>∃ u,YC v u∧h.IsCell c (some u)
section
variable {P:Program} {w:World} {H H':Hp} {h h':Heap}
theorem YcR {f:Addr} {fd:FuncData} (e:h.get? f=some { cls := .type "function",data := .func fd }):YM P w H h f (FnO f fd):=⟨e,⟨_,e⟩,fun _ _ p k=>k _ p⟩
theorem Yfe {c:Addr} {q:Str} (e:h.CodeRec (.ref c) q):YM P w H h c (CdO c q):=by
 obtain ⟨c',o,vs,t,e1,e2,e3⟩:=id e
 cases e1
 refine ⟨e,⟨_,e2⟩,fun h1 h2 p k=>?_⟩
 obtain ⟨c',o,vs,t,e1,e2,e3⟩:=p
 cases e1
 exact ⟨c,o,vs,t,rfl,k _ e2,e3⟩
theorem YdF {c:Addr} {v:V} {u:Value} (r:YC v u) (e:h.IsCell c (some u)):YM P w H h c (Vw c v):=by
 obtain ⟨o,e1,e2⟩:=id e
 refine ⟨⟨u,r,e⟩,⟨_,e1⟩,fun h1 h2 p k=>?_⟩
 obtain ⟨u,r,o,e1,e2⟩:=p
 exact ⟨u,r,o,k _ e1,e2⟩
theorem HOk.track {c:Addr} {o:HO} (x:HOk P w H h) (hn:H c=none) (new:YM P w (upd H c o) h c o):HOk P w (upd H c o) h:=fun b u e=>by
 by_cases hb:b=c
 ·subst hb;rw [Yh] at e;cases e;exact new
 ·rw [Ym hb] at e
  exact (x b u e).stay (fun _ _ _ q=>q) (fun d q=>by rw [Ym (YK q hn)];exact q) fun d xs q=>by rw [Ym (YK q hn)];exact q
end
def off (H:Hp) (cs:List Addr):Hp:=fun b=>if b∈cs then none else H b
def on (H' H:Hp) (cs:List Addr):Hp:=fun b=>if b∈cs then H b else H' b
section
variable {H H':Hp} {cs:List Addr} {b:Addr} {o:HO}
theorem Wt (h:b∈cs):off H cs b=none:=if_pos h
theorem YS (h:b∉cs):off H cs b=H b:=if_neg h
theorem YbU (h:b∈cs):on H' H cs b=H b:=if_pos h
theorem Wu (h:b∉cs):on H' H cs b=H' b:=if_neg h
theorem X5 (h:H b=none):off H cs b=none:=by unfold off;split<;>first | rfl | exact h
theorem YcS (h:off H cs b=some o):H b=some o∧b∉cs:=by
 by_cases hb:b∈cs
 ·rw [Wt hb] at h;cases h
 ·rw [YS hb] at h;exact ⟨h,hb⟩
end
abbrev YE:=List (Str×Addr×V)
def YE.cl (l:YE):List (Str×Addr):=l.map fun p=>(p.1,p.2.1)
def YE.as (l:YE):List Addr:=l.map fun p=>p.2.1
def YE.vs (l:YE):List V:=l.map fun p=>p.2.2
def YE.In (l:YE) (H:Hp):Prop:=∀ p∈l,H p.2.1=some (Vw p.2.1 p.2.2)
theorem YE.In.keep {l:YE} {H H':Hp} (h:l.In H) (s:Yf H H'):l.In H':=fun p hp=>s _ _ (h p hp)
section
variable {l:YE} {H:Hp}
theorem XL {c:Addr} (h:c∈l.as):∃ p∈l,p.2.1=c:=by
 obtain ⟨p,hp,e⟩:=List.mem_map.mp h
 exact ⟨p,hp,e⟩
theorem Wh:∀ {l:YE} {x:Str} {c:Addr},l.cl.lookup x=some c→∃ p∈l,p.1=x∧p.2.1=c
 | p::l,x,c,h=>by
  rw [YE.cl,List.map_cons,List.lookup_cons] at h
  cases hb:x==p.1 with
  | true=>rw [hb] at h;exact ⟨p,.head _,(eq_of_beq hb).symm,Option.some.inj h⟩
  | false =>
   rw [hb] at h
   obtain ⟨q,h1,h2⟩:=Wh (l:=l) h
   exact ⟨q,.tail _ h1,h2⟩
theorem Yaa:∀ {l:YE},(l.map (·.1)).Nodup→∀ p∈l,l.cl.lookup p.1=some p.2.1
 | a::q,nd,p,hp=>by
  rw [List.map_cons,List.nodup_cons] at nd
  rw [YE.cl,List.map_cons,List.lookup_cons]
  rcases List.mem_cons.mp hp with rfl | hp
  ·simp
  ·have:(p.1==a.1)=false:=by
    rw [beq_eq_false_iff_ne]
    intro z
    exact nd.1 (z▸List.mem_map_of_mem hp)
   rw [this]
   exact Yaa nd.2 p hp
end
def YbV (P:Program) (w:World) (K:PySem.W.Frag) (mg:Str→Option Value) (base:Heap) (N:List Str) (qual:Str) (scope:Scope) (f:Addr) (cd:Value) (cl:List (Str×Addr)) (A:Around) (outer:List Env) (s:Shared) (H:Hp):Cx where
 prog:=P
 w:=w
 K:=K
 mg:=mg
 base:=base
 A:=A.deeper (PySem.W.envX qual scope s.heap.objs.size f cd cl)
 N:=N
 s₀:=s
 H₀:=H
 env:=PySem.W.envX qual scope s.heap.objs.size f cd cl
 outer:=outer
 stack:=PySem.W.envX qual scope s.heap.objs.size f cd cl::outer
 ex:=[]
 calm:=true
 fn:=fun _=>false
 pn:=[]
 xe:=fun _ _=>False
structure ClScope (N ps:List Str) (l:List Str) (sc:Scope):Prop where
 kind:sc.kind = .function
 co:sc.isCoroutine=false
 gen:sc.isGenerator=false
 nd:N.Nodup
 pre:N.take ps.length=ps
 suf:N.drop (N.length - l.length)=l
 len:ps.length+l.length≤N.length
 par:∀ x∈ps,sc.names.lookup x=some .local
 fre:∀ x∈l,sc.names.lookup x=some .free
 nocell:∀ y∈sc.names,y.2 ≠ .cell
 all:∀ y∈sc.names,y.2 = .free→y.1∈l
def US (N:List Str) (vs fv:List V):St:=vs.map some++List.replicate (N.length - vs.length - fv.length) none++fv.map some
section
variable {P:Program} {w:World} {K:PySem.W.Frag} {mg:Str→Option Value} {base:Heap} {N ps:List Str} {qual name:Str} {scope:Scope} {f c:Addr} {A:Around} {outer:List Env} {s:Shared} {H:Hp} {us:List Value} {vs:List V} {l:YE} {cd:Value}
theorem U7:∀ {ps:List Str} {us:List Value} {i:Nat} {x:Str} {u:Value},ps.Nodup→ps[i]?=some x→us[i]?=some u→(ps.zip us).reverse.lookup x=some u:=by
 intro ps us i x u nd h1 h2
 have hm:(x,u)∈ps.zip us:=List.mem_of_getElem? (show (ps.zip us)[i]?=some (x,u) from List.getElem?_zip_eq_some.mpr ⟨h1,h2⟩)
 have key:∀ (q:List (Str×Value)),(q.map (·.1)).Nodup→(x,u)∈q→q.lookup x=some u:=by
  intro q
  induction q with
  | nil=>intro _ h;cases h
  | cons a q ih =>
   intro nd h
   rw [List.lookup_cons]
   rw [List.map_cons,List.nodup_cons] at nd
   rcases List.mem_cons.mp h with rfl | h
   ·simp
   ·have:(x==a.1)=false:=by
     rw [beq_eq_false_iff_ne]
     intro z
     exact nd.1 (z▸List.mem_map_of_mem h)
    rw [this]
    exact ih nd.2 h
 refine key _ ?_ (List.mem_reverse.mpr hm)
 rw [List.map_reverse]
 have hz:∀ (ps:List Str) (us:List Value),ps.Nodup→((ps.zip us).map (·.1)).Nodup∧∀ z∈(ps.zip us).map (·.1),z∈ps:=by
  intro ps
  induction ps with
  | nil=>intro us _;simp
  | cons a ps ih =>
   intro us nd
   cases us with
   | nil=>simp
   | cons u us =>
    have nd':=List.nodup_cons.mp nd
    obtain ⟨i1,i2⟩:=ih us nd'.2
    rw [List.zip_cons_cons,List.map_cons]
    refine ⟨List.nodup_cons.mpr ⟨fun hm=>nd'.1 (i2 _ hm),i1⟩,fun z hz=>?_⟩
    rcases List.mem_cons.mp hz with rfl | hz
    ·exact .head _
    ·exact .tail _ (i2 z hz)
 exact List.pairwise_reverse.mpr ((hz ps us nd).1.imp fun h=>Ne.symm h)
theorem YbW {h1:Heap} {tk:Nat} (S:ClScope N ps (l.map (·.1)) scope) (hnd:l.as.Nodup) (hd:A.handled=none) (e0:Env0 P w K mg base A outer s H) (hl:vs.length=ps.length) (r:Yu vs us) (cellAt:∀ p∈l,∃ u,YC p.2.2 u∧s.heap.IsCell p.2.1 (some u)) (hoff:HOk P w (off H l.as) s.heap)
  (hns:h1.Ns s.heap.objs.size (fun x=>(ps.zip us).reverse.lookup x)) (hk:∀ b o,s.heap.get? b=some o→h1.get? b=some o) :
  Inv (YbV P w K mg base N qual scope f cd l.cl A outer s (off H l.as)) [] (US N vs l.vs) (off H l.as) { s with heap:=h1,toks:=tk }:=by
 have lfst:l.cl.map (·.1)=l.map (·.1):=by rw [YE.cl,List.map_map];rfl
 have ndN:(l.map (·.1)).Nodup:=by rw [← S.suf];exact S.nd.sublist (List.drop_sublist _ _)
 have noA:∀ b:Addr,b∉(YbV P w K mg base N qual scope f cd l.cl A outer s (off H l.as)).ex:=fun b z=>absurd (show b∈([]:List Addr) from z) (by simp)
 have lk:=Yaa ndN
 have cinj:∀ p∈l,∀ q∈l,p.2.1=q.2.1→p=q:=fun p hp q hq e=>by
  obtain ⟨i,hi,e1⟩:=List.getElem_of_mem hp
  obtain ⟨j,hj,e2⟩:=List.getElem_of_mem hq
  have h1:l.as[i]?=some p.2.1:=by rw [YE.as,List.getElem?_map,List.getElem?_eq_getElem hi,e1];rfl
  have h2:l.as[j]?=some p.2.1:=by rw [YE.as,List.getElem?_map,List.getElem?_eq_getElem hj,e2,e];rfl
  have hij:i=j:=by
   obtain ⟨g1,g2⟩:=List.getElem?_eq_some_iff.mp h1
   obtain ⟨g3,g4⟩:=List.getElem?_eq_some_iff.mp h2
   exact (List.getElem_inj hnd).mp (g2.trans g4.symm)
  subst hij
  rw [← e1,← e2]
 refine ⟨⟨e0.mod,S.kind,rfl,rfl,Nat.le_refl _,fun y z c h1 h2=>?_,fun y hy=>?_,fun y c h _=>absurd h (by show ¬ (false=true);decide),fun _=>hd,Around.frames_deeper e0.frames,.inr ⟨rfl,rfl⟩,fun b z=>absurd z (noA b),fun b o e=>⟨(e0.bs b o e).1,X5 (e0.bs b o e).2⟩,e0.bsz,fun b _ _=>noA b,fun b z=>absurd z (noA b),e0.funs,fun b hb=>X5 (e0.frf b hb)⟩,
  rfl,e0.bare,Un.kept hk,⟨_,hns,fun i y v h1 h2 h3=>?_⟩,fun y c h=>?_,X5 (e0.hok.fresh (Nat.le_refl _)),fun y c h=>?_,fun p hp=>absurd (show p∈([]:List (Addr×Obj)) from hp) (by simp),hoff.kept hk,?_⟩
 ·obtain ⟨p,hp,e1,e2⟩:=Wh h1
  obtain ⟨q,hq,e3,e4⟩:=Wh h2
  have:=cinj p hp q hq (e2.trans e4.symm)
  rw [← e1,← e3,this]
 ·have hy:scope.names.lookup y=some .cell∨scope.names.lookup y=some .free:=hy
  rcases hy with hy | hy
  ·exact absurd rfl (S.nocell _ (PySem.mem_of_lookup hy))
  ·obtain ⟨p,hp,e⟩:=List.mem_map.mp (S.all _ (PySem.mem_of_lookup hy) rfl)
   exact ⟨p.2.1,by show l.cl.lookup y=_;rw [← show p.1=y from e];exact lk p hp⟩
 ·have hvl:l.vs.length=(l.map (·.1)).length:=by rw [YE.vs,List.length_map,List.length_map]
  have hsl:=S.len
  unfold US at h2
  by_cases hi:i<vs.length
  ·have ha:vs[i]?=some v:=by
    rw [List.append_assoc,List.getElem?_append_left (by simpa using hi),List.getElem?_map] at h2
    cases e:vs[i]? with
    | none=>rw [e] at h2;cases h2
    | some a=>rw [e] at h2;cases h2;rfl
   obtain ⟨u,hu,rv⟩:=r.get ha
   have hp:ps[i]?=some y:=by
    rw [← S.pre,List.getElem?_take_of_lt (by omega)];exact h1
   have ndP:ps.Nodup:=by rw [← S.pre];exact S.nd.sublist (List.take_sublist _ _)
   exact ⟨u,rv,.inl ⟨S.par y (List.mem_of_getElem? hp),U7 ndP hp hu⟩⟩
  ·by_cases hi2:i<vs.length+(N.length - vs.length - l.vs.length)
   ·rw [List.getElem?_append_left (by rw [List.length_append,List.length_map,List.length_replicate];exact hi2),List.getElem?_append_right (by rw [List.length_map];omega),List.getElem?_replicate] at h2
    split at h2<;>cases h2
   ·rw [List.getElem?_append_right (by rw [List.length_append,List.length_map,List.length_replicate];omega),List.length_append,List.length_map,List.length_replicate,List.getElem?_map] at h2
    obtain ⟨v',hv',e⟩:=Option.map_eq_some_iff.mp h2
    cases e
    have hv2:(l.map fun p=>p.2.2)[i - (vs.length+(N.length - vs.length - l.vs.length))]?=some _:=hv'
    rw [List.getElem?_map] at hv2
    obtain ⟨p,hp,rfl⟩:=Option.map_eq_some_iff.mp hv2
    have hpm:=List.mem_of_getElem? hp
    have hy:(l.map (·.1))[i - (vs.length+(N.length - vs.length - l.vs.length))]?=some y:=by
     rw [← S.suf,List.getElem?_drop]
     rw [show N.length - (l.map (·.1)).length+(i - (vs.length+(N.length - vs.length - l.vs.length)))=i by omega]
     exact h1
    rw [List.getElem?_map,hp] at hy
    have ey:p.1=y:=Option.some.inj hy
    obtain ⟨u,ru,hc⟩:=cellAt p hpm
    obtain ⟨o,ho,hd'⟩:=hc
    refine ⟨u,ru,.inr ⟨.inr ?_,p.2.1,by show l.cl.lookup y=_;rw [← ey];exact lk p hpm,o,hk _ _ ho,hd'⟩⟩
    exact S.fre y (by rw [← ey];exact List.mem_map_of_mem hpm)
 ·obtain ⟨p,hp,e1,e2⟩:=Wh (show l.cl.lookup y=some c from h)
  obtain ⟨u,ru,o,ho,hd'⟩:=cellAt p hp
  exact ⟨some u,o,by rw [← e2];exact hk _ _ ho,hd'⟩
 ·obtain ⟨p,hp,e1,e2⟩:=Wh (show l.cl.lookup y=some c from h)
  exact Wt (by rw [← e2];exact List.mem_map_of_mem hp)
 ·unfold US
  show _=N.length
  have hvl:l.vs.length=(l.map (·.1)).length:=by rw [YE.vs,List.length_map,List.length_map]
  have hsl:=S.len
  rw [List.length_append,List.length_append,List.length_map,List.length_map,List.length_replicate]
  omega
end
def ClIn (H:Hp) (f c:Addr) (fd:FuncData) (qual:Str) (l:YE):Prop:=H f=some (FnO f fd)∧H c=some (CdO c qual)∧l.In H
theorem ClIn.keep {H H':Hp} {f c:Addr} {fd:FuncData} {qual:Str} {l:YE} (h:ClIn H f c fd qual l) (s:Yf H H'):ClIn H' f c fd qual l:=⟨s _ _ h.1,s _ _ h.2.1,h.2.2.keep s⟩
end L2
namespace L2
open PySem PySem.Spec PyProof.Rows
def Bm (mg:Str→Option Value) (base:Heap):Prop:=∃ bm ob,mg "__builtins__"=some (.ref bm)∧bm≠builtinsNs∧bm≠mainGlobals∧base.get? bm=some ob∧ob.cls = .type "module"∧ob.dict=some builtinsNs∧ob.data = .plain
section
variable {X:Cx} {pins:List (Addr×Obj)} {σ:St} {H:Hp} {s:Shared}
theorem Inv.madeF {P c':Addr} {ps more:Array Value} {h':Heap} {tk:Nat} {fd:FuncData} {qual:Str} (I:Inv X pins σ H s) (hP:H P=some (.tbl ps)) (hx:Heap.ExtBut P s.heap h') (hge:s.heap.objs.size≤c') (hlt:c'<h'.objs.size) (hrec:h'.CodeRec (.ref c') qual) (htb:h'.get? P=some (PySem.W.tabObj (ps++more))) :
  Inv X pins σ (upd (upd (upd H P (.tbl (ps++more))) c' (CdO c' qual)) h'.objs.size (FnO h'.objs.size fd)) { s with heap:=h'.push { cls := .type "function",data := .func fd },toks:=tk }:=by
 have hPl:P<s.heap.objs.size:=I.hok.lt hP
 have hcf:s.heap.objs.size≤h'.objs.size:=Nat.le_trans hge (Nat.le_of_lt hlt)
 have hlc:∀ {b:Addr},b<s.heap.objs.size→b≠c'∧b≠h'.objs.size:=fun e=>⟨Nat.ne_of_lt (Nat.lt_of_lt_of_le e hge),Nat.ne_of_lt (Nat.lt_of_lt_of_le e hcf)⟩
 have hHc:∀ {b:Addr} {o:HO},H b=some o→b≠c'∧b≠h'.objs.size:=fun e=>hlc (I.hok.lt e)
 have push:∀ b o,h'.get? b=some o→(h'.push { cls := .type "function",data := .func fd }).get? b=some o:=fun b o e=>Heap.get?_push_of_some _ e
 have hget:∀ {b:Addr},b≠P→b≠c'→b≠h'.objs.size→(upd (upd (upd H P (.tbl (ps++more))) c' (CdO c' qual)) h'.objs.size (FnO h'.objs.size fd)) b=H b:=fun h1 h2 h3=>by rw [Ym h3,Ym h2,Ym h1]
 have atP:(upd (upd (upd H P (.tbl (ps++more))) c' (CdO c' qual)) h'.objs.size (FnO h'.objs.size fd)) P=some (.tbl (ps++more)):=by rw [Ym (hlc hPl).2,Ym (hlc hPl).1,Yh]
 refine I.un ⟨fun b o e n _ _=>push b o (hx b o (fun z=>by rw [z,hP] at n;cases n) e),fun b o e n _ _=>⟨o.slots,push b o (hx b o (fun z=>by rw [z,hP] at n;cases n) e)⟩,fun b o e n _=>?_,fun b o e _=>?_,fun b xs e=>?_,fun b o u e=>?_,fun b qs e=>?_⟩ fun b o e=>?_
 ·have:=Heap.lt_size e
  rw [hget (fun z=>by rw [z,hP] at n;cases n) (hlc this).1 (hlc this).2];exact n
 ·by_cases hb:b=P
  ·subst hb;exact ⟨_,push _ _ htb⟩
  ·exact ⟨o,push b o (hx b o hb e)⟩
 ·rw [hget (Wp e hP (by intro z;cases z)) (hHc e).1 (hHc e).2];exact e
 ·rw [hget (Wp e hP (by intro z;cases z)) (hHc e).1 (hHc e).2];exact e
 ·by_cases hb:b=P
  ·subst hb
   rw [hP] at e;cases e
   exact ⟨more,atP⟩
  ·exact ⟨#[],by rw [hget hb (hHc e).1 (hHc e).2,e];simp⟩
 ·by_cases h3:b=h'.objs.size
  ·subst h3
   rw [Yh] at e;cases e
   exact YcR (Heap.get?_push_size _ rfl)
  ·by_cases h2:b=c'
   ·subst h2
    rw [Ym h3,Yh] at e;cases e
    exact Yfe (hrec.push _)
   ·by_cases h1:b=P
    ·subst h1
     rw [atP] at e;cases e
     exact push _ _ htb
    ·rw [hget h1 h2 h3] at e
     refine (I.hok b o e).stay (fun c u hc q=>push c u (hx c u ?_ q)) (fun c q=>?_) fun c xs q=>?_
     ·rcases hc with rfl | hc
      ·exact h1
      ·exact Wp hc hP (by intro z;cases z)
     ·rw [hget (Wp q hP (by intro z;cases z)) (hHc q).1 (hHc q).2];exact q
     ·rw [hget (Wp q hP (by intro z;cases z)) (hHc q).1 (hHc q).2];exact q
end
def Made (P:Addr) (pos:Pos) (q:Str) (mk:Addr→FuncData→Prop) (H:Hp) (Q:VK):Prop:=∃ ps,H P=some (.tbl ps)∧TriplesOk ps.toList ∧
 ((codeAmong pos ps.toList=none∧∀ f c fd,H f=none→H c=none→f≠c→mk c fd→Q (.ref f) (upd (upd (upd H P (.tbl (ps++#[rawInt pos.line,rawInt pos.col,.ref c]))) c (CdO c q)) f (FnO f fd))) ∨
  ∃ c,codeAmong pos ps.toList=some (.ref c)∧∀ f fd,H f=none→mk c fd→Q (.ref f) (upd H f (FnO f fd)))
section
variable {X:Cx} {c P:Addr} {name qual:Str} {params:Arguments} {body:List Stmt} {eb:Expr} {scope:Scope} {clos:List (Str×Addr)} {pos:Pos} {ln:Nat}
abbrev Yea (qual:Str) (params:Arguments) (body:Expr) (scope:Scope) (clos:List (Str×Addr)) (c:Addr) (fd:FuncData):Prop:=∃ pm ctv,fd=PySem.W.kla_fn "<lambda>" qual params body scope clos pm (.ref c) ctv
theorem YcT {pins:List (Addr×Obj)} {σ:St} {H:Hp} {s:Shared} {ps:Array Value} (I:Inv X pins σ H s) (bm:Bm X.mg X.base) (hP:H P=some (.tbl ps)):mainGlobals≠P∧s.heap.BuiltinsAt X.mg P:=by
 refine ⟨fun z=>?_,?_⟩
 ·obtain ⟨o,es,ep,e,_⟩:=I.mod.glob
  have:=(I.bs _ _ e).2
  rw [z,hP] at this;cases this
 ·obtain ⟨b,ob,h1,h2,h3,h4,h5⟩:=bm
  refine ⟨b,ob,h1,h2,h3,fun z=>?_,(I.bs _ _ h4).1,h5⟩
  have:=(I.bs _ _ h4).2
  rw [z,hP] at this;cases this
theorem Yff {pins:List (Addr×Obj)} {σ:St} {H:Hp} {s:Shared} {Q:VK} (bm:Bm X.mg X.base) (C:PySem.W.CodeHd X.base c P) (hcode:X.env.code = .ref c) (hcl:closureFor scope X.env=pure clos) (I:Inv X pins σ H s) (h:Made P pos qual (Yea qual params eb scope clos) H Q) :
  wpAny (model X.prog X.w) X.A (makeFunction "<lambda>" qual params (.expr eb) scope X.env [] [] [] pos ln) (EP X pins σ Q) X.xe s:=by
 obtain ⟨ps,hP,ht,h⟩:=h
 obtain ⟨hgP,hb⟩:=YcT I bm hP
 have hPo:s.heap.get? P=some (PySem.W.tabObj ps):=I.hok P _ hP
 rcases h with ⟨hnf,h⟩ | ⟨c',hf,h⟩
 ·refine PySem.W.kla_makeFunction (mg:=X.mg) hcl I.ok.glob (I.mod.glob.keeps I.bk) hcode (C.keeps I.bk) hPo ht hnf hgP hb fun c' ctv h' tk hx hge hlt hrec htb=>?_
  refine ⟨.ref h'.objs.size,_,I.madeF hP hx hge hlt hrec htb,rfl,h _ _ _ (I.hok.fresh (Nat.le_trans hge (Nat.le_of_lt hlt))) (I.hok.fresh hge) (Nat.ne_of_gt hlt) ⟨_,_,rfl⟩⟩
 ·refine PySem.W.kla_makeFunctionHit (mg:=X.mg) hcl I.ok.glob (I.mod.glob.keeps I.bk) hcode (C.keeps I.bk) hPo ht hf hb fun ctv h' tk hk hsz=>?_
  exact ⟨.ref h'.objs.size,_,I.laid (fun b o e=>Heap.get?_push_of_some _ (hk b o e)) hsz (YcR (Heap.get?_push_size _ rfl)),rfl,h _ _ (I.hok.fresh hsz) ⟨_,_,rfl⟩⟩
def tLam (P:Addr) (pos:Pos) (q:Str) (mk:Addr→FuncData→Prop):TE:=fun _ H Q=>Made P pos q mk H Q
theorem YcU (bm:Bm X.mg X.base) (C:PySem.W.CodeHd X.base c P) (hcode:X.env.code = .ref c) (hcl:closureFor scope X.env=pure clos) (hq:X.env.qual++"<lambda>"=qual) (hdef:defaultsOf params X.env=([],[])) :
  PE X (.Lambda params eb scope pos) (tLam P pos qual (Yea qual params eb scope clos)):=by
 intro pins s σ H Q I h
 refine PySem.W.kla_eval hdef ?_
 rw [hq]
 exact Yff bm C hcode hcl I h
end
def Wl (X:Cx) (σ:St) (l:YE):Prop:=l.as.Nodup∧∀ p∈l,∃ i:Nat,X.N[i]?=some p.1∧σ[i]?=some (some p.2.2)∧X.env.kindOf p.1=some .cell∧X.env.cells.lookup p.1=some p.2.1
section
variable {X:Cx} {st:Stmt} {Y8:List Stmt} {t:TS} {u:(St→V→Hp→Prop)→St→Hp→Prop} {e:Expr} {te:TE} {pos:Pos}
end
end L2
namespace L2
open PySem PySem.Spec PyProof.Rows
def Yfg (g:Gx) (k i:Nat) (t:TA):TE:=fun σ H Q=>∃ f fd ps sp,σ[i]?=some (some (.ref f))∧FnOk g.P g.w g.K g.mg g.base CX0 k f fd ps sp∧(∀ us:List Value,us.length=ps.length→bindArgs fd ⟨us,[]⟩=pure (ps.zip us))∧H f=some (FnO f fd)∧t σ H fun vs H1=>H1 f=some (FnO f fd)∧sp vs H1 Q E0
section
variable {X:Cx} {g:Gx} {k j i:Nat} {x:Str} {p pos:Pos} {e:Expr} {es:List Expr} {t:TA}
theorem Ybi {pins:List (Addr×Obj)} {σ:St} {H:Hp} {s:Shared} {f:Addr} {fd:FuncData} (I:Inv X pins σ H s) (h:H f=some (FnO f fd)):PySem.W.FnAt f s.heap:=⟨_,_,_,_,(I.hok _ _ h).1⟩
theorem YdG (i:Nat) (hr:Room k X.A) (ha:PA X (e::es) t) (hj:j≤k) (hX:X.gx=g) (hN:X.N[i]?=some x) (hv:Vis X.env.scope x) (hdb:(x==("__debug__":Str))=false)
  (hcd:(x==("__classdict__":Str))=false) (he:starEach (e::es) X.env=(false,eval e X.env)::starEach es X.env) (hpl:(backTo pos (starEach es X.env)).any (·.1)=false):PE X (.Call (.Name x p) (e::es) [] pos) (Yfg g j i t):=by
 subst hX
 intro pins s σ H Q I h
 obtain ⟨f,fd,ps,sp,hσ,F,b,hf,ht⟩:=h
 refine wpAny_Call_Name_kw (thn (QR hN hv hdb hcd pins s σ H (fun v H1=>v = .ref f∧H1 f=some (FnO f fd)∧t σ H1 fun vs H1=>H1 f=some (FnO f fd)∧sp vs H1 Q E0) I ⟨.ref f,hσ,rfl,hf,ht⟩) fun u s1 ⟨v,H1,I1,r,e,hf1,ht⟩=>?_)
 subst e
 obtain rfl:u=Value.ref f:=r
 refine PySem.W.callWith_F (Ybi I1 hf1) (thn (ha pos pins s1 σ H1 _ I1 ht) fun us s2 ⟨vs,H2,I2,r2,hf2,q⟩=>⟨Ybi I2 hf2,?_⟩) he hpl
 exact QX F (hr.mono hj) (.all b) .nil QF I2 r2 (by rw [List.append_nil];exact q)
end
abbrev Tbs:=List (Str×Addr×Addr)
theorem YcV {P:Program} {w:World} {K:PySem.W.Frag} {mg mb:Str→Option Value} {CX:CXT} {k:Nat} {fa a:Addr} {fd:FuncData} {x:Str} {sp:Sp} {s₁:Shared} {vs:List Value} {ns:List Int} (tabs:Tbs)
  (KX:K.In s₁.heap) (hns:s₁.heap.Ns mainGlobals mg) (hb:s₁.heap.Ns builtinsNs mb) (hbb:∀ x:Str,x≠"__name__"→mb x=bootBuiltins x) (hlim:s₁.heap.NoLimit) (hg:s₁.gens=#[])
  (ha:s₁.heap.get? a=some { cls := .type "list",data := .seq vs.toArray }) (hi:IntsAre vs ns) (hl:ns.length≤sizeLine) (hr:Room k callerA)
  (hT:∀ q∈tabs,PySem.W.CodeHd s₁.heap q.2.1 q.2.2∧s₁.heap.get? q.2.2=some (PySem.W.tabObj #[])) (hK:∀ q∈tabs,K.lookup q.2.2=none)
  (bmn:∃ bm ob,mg "__builtins__"=some (.ref bm)∧bm≠builtinsNs∧s₁.heap.get? bm=some ob∧ob.cls = .type "module"∧ob.dict=some builtinsNs∧ob.data = .plain)
  (F:∀ base:Heap,K.In base→base.Ns mainGlobals mg→Bm mg base→(∀ q∈tabs,PySem.W.CodeHd base q.2.1 q.2.2)→FnOk P w K mg base CX k fa fd [x] sp) (hbind:∀ (s:Shared) (u:Value),BindsTo s fd ⟨[u],[]⟩ [(x,u)])
  (hsp:∀ H:Hp,(∀ q∈tabs,H q.2.2=some (.tbl #[]))→SqL K H a (ns.map V.int)→sp [.ref a] H (fun v _=>v = .bl true) fun _ _ _=>False)
  (hCX:∀ H e s',CX [] H s₁ (fun _ _ _=>False) e s'→False) :
  codeAny (model P w) callerA (.call (.ref fa) ⟨[.ref a],[]⟩) (fun r s'=>r = .ok (.ret (.bool true))∧OldK s₁.heap s'.heap∧s'.os=s₁.os∧AllBare s'.gens) s₁:=by
 have rv:=Ql hi
 have lenV:=hi.length
 have tobj:∀ b∈tabs.map (·.2.2),s₁.heap.get? b=some (PySem.W.tabObj #[]):=fun b hb=>by
  obtain ⟨q,hq,rfl⟩:=List.mem_map.mp hb
  exact (hT q hq).2
 have aT:a∉tabs.map (·.2.2):=fun hb=>by
  have:=tobj a hb
  rw [ha] at this
  cases this
 have core:∀ H:Hp,(∀ b,H b=none∨(∃ o xs,H b=some (.frz o (.lst xs)))∨(b∈tabs.map (·.2.2)∧H b=some (.tbl #[])))→SqL K H a (ns.map V.int)→HOk P w H s₁.heap→(∀ b,H b≠none→b=a∨b∈tabs.map (·.2.2))→(H a≠none→K.lookup a=none)→(∀ q∈tabs,H q.2.2=some (.tbl #[])) →
   codeAny (model P w) callerA (.call (.ref fa) ⟨[.ref a],[]⟩) (fun r s'=>r = .ok (.ret (.bool true))∧OldK s₁.heap s'.heap∧s'.os=s₁.os∧AllBare s'.gens) s₁:=by
  intro H hO hS hok hA hKa hTb
  have base_of:∀ {b:Addr} {o:Obj},s₁.heap.get? b=some o→H b=none→(WG s₁.heap H).get? b=some o:=fun e n=>Ydk e n
  have noC:∀ {b:Addr} {o:Obj},s₁.heap.get? b=some o→o.cls ≠ .type "list"→o≠PySem.W.tabObj #[]→H b=none:=fun {b o} e d1 d2=>by
   cases q:H b with
   | none=>rfl
   | some u =>
    rcases hA b (by rw [q];simp) with e' | e'
    ·subst e'
     rw [ha] at e;cases e
     exact absurd rfl d1
    ·rw [tobj b e'] at e
     exact absurd (Option.some.inj e).symm d2
  have noA:∀ {b:Addr} {o:Obj} {es:Array DictEntry} {ep:Nat},s₁.heap.get? b=some o→o.data = .dict es ep→H b=none:=fun {b o es ep} e d=>by
   cases q:H b with
   | none=>rfl
   | some u =>
    rcases hA b (by rw [q];simp) with e' | e'
    ·subst e'
     rw [ha] at e;cases e
     have d':Data.seq vs.toArray _=Data.dict es ep:=d
     cases d'
    ·rw [tobj b e'] at e
     cases e
     have d':Data.fields #[]=Data.dict es ep:=d
     cases d'
  have nsK:∀ {b:Addr} {m:Str→Option Value},s₁.heap.Ns b m→(WG s₁.heap H).Ns b m:=fun {b m} ⟨o,es,ep,e,d,r⟩=>⟨o,es,ep,base_of e (noA e d),d,r⟩
  have hKb:K.In (WG s₁.heap H):=fun b o e=>base_of (KX b o e) (by
   cases q:H b with
   | none=>rfl
   | some u =>
    rcases hA b (by rw [q];simp) with e' | e'
    ·subst e'
     rw [hKa (by rw [q];simp)] at e;cases e
    ·obtain ⟨z,hz,rfl⟩:=List.mem_map.mp e'
     rw [hK z hz] at e;cases e)
  have hM:Mod K mg (WG s₁.heap H):=⟨hKb,nsK hns,⟨mb,nsK hb,hbb⟩,let ⟨mc,h1,h2⟩:=hlim;⟨mc,nsK h1,h2⟩⟩
  have e0:Env0 P w K mg (WG s₁.heap H) callerA [] s₁ H:=⟨rfl,hM,fun b o e=>Yee e,Nat.le_of_eq (Yck _ _),trivial,fun b hb=>absurd (show b∈([]:List Addr) from hb) (by simp),hok,.of_eq hg⟩
  have hBm:Bm mg (WG s₁.heap H):=by
   obtain ⟨bm,ob,b1,b2,b3,b4,b5,b6⟩:=bmn
   refine ⟨bm,ob,b1,b2,fun z=>?_,base_of b3 (noC b3 (by rw [b4];decide) fun z=>by rw [z] at b4;cases b4),b4,b5,b6⟩
   obtain ⟨o,es,ep,e,d,_⟩:=hns
   rw [z,e] at b3;cases b3
   rw [d] at b6;cases b6
  have hCd:∀ q∈tabs,PySem.W.CodeHd (WG s₁.heap H) q.2.1 q.2.2:=fun q hq=>by
   obtain ⟨o,vs',file,tf,flags,tg,inF,text,tt,e1,e2,r⟩:=(hT q hq).1
   exact ⟨o,vs',file,tf,flags,tg,inF,text,tt,base_of e1 (noC e1 (by rw [e2];decide) fun z=>by rw [z] at e2;cases e2),e2,r⟩
  refine codeAny_mono ((F _ hKb (nsK hns) hBm hCd).run callerA [] s₁ H ⟨[.ref a],[]⟩ [.ref a] [.ref a] _ _ hr e0 (hbind s₁ (.ref a)) (.cons rfl .nil) (hsp H hTb hS)) fun r s' h=>?_
  cases r with
  | error e=>exact (hCX H e s' h).elim
  | ok fl =>
   cases fl with
   | next=>exact False.elim h
   | brk=>exact False.elim h
   | cont=>exact False.elim h
   | ret u =>
    obtain ⟨v,H',os,bare,un,hok',r',q⟩:=h
    have q':v = .bl true:=q
    subst q'
    obtain rfl:u=Value.bool true:=r'
    have each:∀ b o,s₁.heap.get? b=some o→s'.heap.get? b=some o∨((∃ z∈tabs,z.2.2=b)∧o=PySem.W.tabObj #[]∧∃ ps,s'.heap.get? b=some (PySem.W.tabObj ps)):=fun b o e=>by
     rcases hO b with q | ⟨ob,xs,z⟩ | ⟨z1,z2⟩
     ·exact .inl (un.keep b o e q (by intro z;exact absurd (show b∈([]:List Addr) from z) (by simp)) (by simp))
     ·have z2:=un.frzs b ob _ z
      obtain ⟨e1,_⟩:=hok b _ z
      obtain ⟨e2,_⟩:=hok' b _ z2
      rw [e] at e1;cases e1
      exact .inl e2
     ·obtain ⟨q,hq,e3⟩:=List.mem_map.mp z1
      obtain ⟨more,e4⟩:=un.tbls b _ z2
      have e5:s'.heap.get? b=some (PySem.W.tabObj (#[]++more)):=hok' b _ e4
      rw [tobj b z1] at e
      exact .inr ⟨⟨q,hq,e3⟩,(Option.some.inj e).symm,_,e5⟩
    refine ⟨rfl,⟨fun b o e=>?_,fun b o e=>?_⟩,os,bare⟩
    ·rcases each b o e with h | ⟨⟨z,hz,rfl⟩,rfl,ps,h⟩
     ·exact .inl h
     ·exact .inr (.inl ⟨((hT z hz).1.tab (hT z hz).2).isCodeTable,rfl,#[],ps,rfl,by rw [Array.empty_append];exact h⟩)
    ·rcases each b o e with h | ⟨_,_,ps,h⟩
     ·exact ⟨o,h⟩
     ·exact ⟨_,h⟩
 have tbIn:∀ q∈tabs,q.2.2∈tabs.map (·.2.2):=fun q hq=>List.mem_map_of_mem hq
 have tbOk:∀ {H:Hp} {b:Addr},b∈tabs.map (·.2.2)→YM P w H s₁.heap b (.tbl #[]):=fun hb=>tobj _ hb
 cases hk:K.lookup a with
 | some o =>
  have e:=KX a o hk
  rw [ha] at e
  cases e
  refine core (fun b=>if b∈tabs.map (·.2.2) then some (.tbl #[]) else none) (fun b=>?_) (.inr ⟨_,vs.toArray,_,hk,rfl,rfl,rfl,by rw [List.size_toArray,lenV];exact hl,by simpa using rv⟩) (fun b u z=>?_) (fun b z=>?_) (fun z=>absurd (if_neg aT) z) fun q hq=>if_pos (tbIn q hq)
  ·by_cases hb:b∈tabs.map (·.2.2)
   ·exact .inr (.inr ⟨hb,if_pos hb⟩)
   ·exact .inl (if_neg hb)
  ·by_cases hb:b∈tabs.map (·.2.2)
   ·have z':=(if_pos hb).symm.trans z
    cases z'
    exact tbOk hb
   ·have z':=(if_neg hb).symm.trans z
    cases z'
  ·by_cases hb:b∈tabs.map (·.2.2)
   ·exact .inr hb
   ·exact absurd (if_neg hb) z
 | none =>
  refine core (fun b=>if b∈tabs.map (·.2.2) then some (.tbl #[]) else if b=a then some (.frz { cls := .type "list",data := .seq vs.toArray } (.lst (ns.map V.int))) else none) (fun b=>?_) (.inl (.inr ⟨{ cls := .type "list",data := .seq vs.toArray },(if_neg aT).trans (if_pos rfl)⟩)) (fun b u z=>?_) (fun b z=>?_) (fun _=>hk) fun q hq=>if_pos (tbIn q hq)
  ·by_cases hb:b∈tabs.map (·.2.2)
   ·exact .inr (.inr ⟨hb,if_pos hb⟩)
   ·by_cases hb2:b=a
    ·exact .inr (.inl ⟨_,_,(if_neg hb).trans (if_pos hb2)⟩)
    ·exact .inl ((if_neg hb).trans (if_neg hb2))
  ·by_cases hb:b∈tabs.map (·.2.2)
   ·have z':=(if_pos hb).symm.trans z
    cases z'
    exact tbOk hb
   ·have z1:=(if_neg hb).symm.trans z
    by_cases hb2:b=a
    ·have z':=(if_pos hb2).symm.trans z1
     cases z'
     subst hb2
     exact ⟨ha,by rw [List.length_map];exact hl,vs,_,rv,ha⟩
    ·have z':=(if_neg hb2).symm.trans z1
     cases z'
  ·by_cases hb:b∈tabs.map (·.2.2)
   ·exact .inr hb
   ·by_cases hb2:b=a
    ·exact .inl hb2
    ·exact absurd ((if_neg hb).trans (if_neg hb2)) z
def V8 (K:PySem.W.Frag) (tabs:Tbs):Sp:=fun vs H Q _=>∃ (a:Addr) (ns:List Int),vs=[.ref a]∧SqL K H a (ns.map V.int)∧ns.length≤63∧(∀ q∈tabs,H q.2.2=some (.tbl #[]))∧∀ H',Q (.bl true) H'
theorem YdH {l:PySem.W.OpenLaw} {q:Program} {loose:List Str} {XP:(Str→Option Value)→Heap→Prop} {YP:World→Heap→Prop} {d:DefRec} {K:Params→PySem.W.Frag} (tabs:Tbs) (k:Nat) (x:Str) (st:Stmt) (N:List Str) (hn:l.most=some 63) (hdf:d.params.defaults=[]) (hk:Room (k+1) callerA) (S:FnScope N [x] (Yn st))
  (hY:∀ (w:World) (h:Heap),YP w h→(K w.params).In h)
  (hrec:∀ p∈tabs,∃ d',(recsOf q).find? (fun e=>e.name==p.1)=some d')
  (htab:∀ (w:World),∀ p∈tabs,PySem.W.tabIn (K w.params) p.1=some p.2)
  (hno:∀ (w:World),∀ p∈tabs,(K w.params).lookup p.2.2=none)
  (F:∀ (w:World) (mg:Str→Option Value) (h:Heap),(K w.params).In h→h.Ns mainGlobals mg→YcJ (K w.params) mg st x d.name∧∀ base,Bm mg base→(∀ p∈tabs,PySem.W.CodeHd base p.2.1 p.2.2)→Q5 (Gx.mk l.prog w (K w.params) mg base) k N d.name st (V8 (K w.params) tabs)) :
  PySem.W.WalkO q loose XP YP l.row.toRowW d [] (fun f vs=>PySem.call f vs):=by
 refine Att.attach_call hn hdf fun w s₀ s₁ mg mb fa o pm cd doc a vs ns G Y ho hd hcd hmg hobj hints hlen hg=>?_
 have KX:=hY w _ Y
 obtain ⟨⟨f,fd,Fu,hb,hm⟩,B⟩:=F w mg _ KX G.T.g
 have e:=hmg.symm.trans hm
 cases e
 refine YcV (CX:=CX0) (sp:=V8 (K w.params) tabs) tabs KX G.T.g G.T.b G.T.builtins G.T.nolimit hg hobj hints (Nat.le_trans hlen (by decide)) hk (fun p hp=>?_) (hno w) G.T.bmain
  (fun base _ _ hB hC=>Fu.ok S (fun vs H Q E h=>by obtain ⟨a,ns,rfl,_⟩:=h;rfl) fun cdv A outer s H vs Q E hr h=>B base hB hC fa cdv A outer s H vs Q E hr h) hb (fun H hT hS=>⟨a,ns,rfl,hS,hlen,hT,fun _=>rfl⟩) fun H e s' z=>z
 obtain ⟨d',hd'⟩:=hrec p hp
 exact PySem.W.tab_of G.T KX hd' (htab w p hp)
def inDef (s:Stmt) (j:Nat):Stmt:=(Xa s).getD j (.Pass ⟨0,0,0,0⟩)
def Gx.RawT (g:Gx) (x qual:Str) (st:Stmt) (ps:List Str) (c:Addr):Prop:=∃ f fd,Fun g.K x qual st f fd∧XC g.K fd ps []∧g.mg x=some (.ref f)∧fd.code = .ref c
theorem Yex {K:PySem.W.Frag} {h:Heap} {mg:Str→Option Value} {f:Addr} {x:Str} {st:Stmt} {c:Addr} {oc kV dc pm cd ct:Value} {od an:Option Addr} {sl:Array (Option Value)} (X:K.In h) (G:h.Ns mainGlobals mg) (ps:List Str)
  (a:PySem.W.nsIn K mainGlobals x=some (some (.ref f))) (l:K.lookup f=some ⟨oc,od,.func (PySem.W.fnOf x x (Xv st) (Xa st) (Yn st) .none kV dc pm an cd ct),sl⟩) (cc:PySem.W.codeIn K cd x=true) (k:PySem.W.keepIn K (.ref f)=true) (e:cd = .ref c)
  (b:∀ (kV doc pm:Value) (an:Option Addr) (cdv ct:Value) (us:List Value),us.length=ps.length→bindArgs (PySem.W.fnOf x x (Xv st) (Xa st) (Yn st) .none kV doc pm an cdv ct) ⟨us,[]⟩=pure (ps.zip us)) :
  ∀ P w base,(Gx.mk P w K mg base).RawT x x st ps c:=fun P w base =>
 have F:=UI (st:=st) l cc k
 ⟨f,_,F,F.binds b,PySem.W.mg_of X G a,e⟩
end L2
namespace HT
open PySem PySem.Spec PyProof.Rows
variable {prog:Program} {w:World} {A:Around} {E:Value→Shared→Prop} {s:Shared}
end HT
namespace L2
open PySem PySem.Spec PyProof.Rows
end L2
namespace L2
open PySem PySem.Spec PyProof.Rows
section
variable {tb:TS} {D:Ends} {σ:St} {H:Hp}
theorem YbX {K:PySem.W.Frag} {ta:TA} (i j:Nat) {xs ys:List V} (Pv:Addr→Addr→Nat→St→Hp→Prop) (ha:∀ R:List V→Hp→Prop,(∀ a b H1,Pv a b 0 σ H1→R [.ref a,.ref b] H1)→ta σ H R)
  (hl:∀ a b n σ H,n≤min xs.length ys.length→Pv a b n σ H→SqT K H a xs∧SqT K H b ys)
  (hs:∀ a b (n:Nat) x y σ H T,xs[n]?=some x→ys[n]?=some y→Pv a b n σ H→H T=none→tb { D with nx:=Pv a b (n+1),ct:=Pv a b (n+1),bk:=D.nx } ((σ.set i (some x)).set j (some y)) (upd H T (.tup [x,y])))
  (hd:∀ a b σ H,Pv a b (min xs.length ys.length) σ H→D.nx σ H):X4 (QG K ta) (WI K 2 (Xm (YD i) (Xm (YD j) WH))) tb D σ H:=by
 refine ha _ fun a b H1 h0=>?_
 obtain ⟨s1,s2⟩:=hl a b 0 σ H1 (Nat.zero_le _) h0
 refine ⟨a,b,xs,ys,rfl,s1,s2,?_⟩
 refine ⟨fun n m σ H=>m=min xs.length ys.length - n∧n≤min xs.length ys.length∧Pv a b n σ H,⟨min xs.length ys.length,by simp,Nat.zero_le _,h0⟩,?_⟩
 rintro n m σ H ⟨rfl,hn,p⟩
 obtain ⟨g1,g2⟩:=hl a b n σ H hn p
 by_cases hlt:n<min xs.length ys.length
 ·have hx:xs[n]?=some (xs[n]'(by omega)):=List.getElem?_eq_getElem _
  have hy:ys[n]?=some (ys[n]'(by omega)):=List.getElem?_eq_getElem _
  refine .inr ⟨⟨xs,ys,_,_,g1,g2,hx,hy⟩,Pv a b (n+1),fun σ' H' p'=>⟨min xs.length ys.length - (n+1),by omega,rfl,hlt,p'⟩,?_⟩
  rintro v H' ⟨T,rfl,hT,heq⟩
  have e:=heq xs ys _ _ g1 g2 hx hy
  subst e
  exact ⟨T,_,rfl,SqT.of Yh,rfl,_,_,rfl,_,_,rfl,rfl,hs a b n _ _ σ H T hx hy p hT⟩
 ·have e:n=min xs.length ys.length:=by omega
  subst e
  refine .inl ⟨⟨xs,ys,g1,g2,?_⟩,hd a b σ H p⟩
  omega
theorem YcW {K:PySem.W.Frag} {ta:TA} (b:Bool) (i j:Nat) {xs ys:List V} (Pv:Addr→Addr→Nat→St→Hp→Prop) (ha:∀ R:List V→Hp→Prop,(∀ a b H1,Pv a b 0 σ H1→R [.ref a,.ref b] H1)→ta σ H R)
  (hl:∀ a c n σ H,n≤min xs.length ys.length→Pv a c n σ H→(if b=true then SqL K H a xs else SqT K H a xs)∧(if b=true then SqL K H c ys else SqT K H c ys))
  (hs:∀ a b (n:Nat) x y σ H T,xs[n]?=some x→ys[n]?=some y→Pv a b n σ H→H T=none→tb { D with nx:=Pv a b (n+1),ct:=Pv a b (n+1),bk:=D.nx } ((σ.set i (some x)).set j (some y)) (upd H T (.tup [x,y])))
  (hd:∀ a b σ H,Pv a b (min xs.length ys.length) σ H→D.nx σ H):X4 (iOr (QH K ta) (QG K ta)) (WI K 2 (Xm (YD i) (Xm (YD j) WH))) tb D σ H:=by
 cases b with
 | true=>exact .inl (YcL (K:=K) i j Pv ha (fun a c n σ H h1 h2=>by simpa using hl a c n σ H h1 h2) hs hd)
 | false=>exact .inr (YbX (K:=K) i j Pv ha (fun a c n σ H h1 h2=>by simpa using hl a c n σ H h1 h2) hs hd)
end
section
variable {src:List (Option Nat)} {te:TE} {tt:TT} {σ:St} {H:Hp} {Q:VK}
end
end L2
namespace L2
open PySem PySem.Spec PyProof.Rows
def Yey (e:Expr):Arguments:=match e with
 | .Lambda a _ _ _=>a
 | _=>{ posonlyargs:=[],args:=[],vararg:=none,kwonlyargs:=[],kw_defaults:=[],kwarg:=none,defaults:=[] }
def Yez (e:Expr):Expr:=match e with
 | .Lambda _ b _ _=>b
 | e=>e
def Yab (e:Expr):Scope:=match e with
 | .Lambda _ _ sc _=>sc
 | _=>{ kind := .function,names:=[],isGenerator:=false,isCoroutine:=false }
end L2
namespace L2
open PySem PySem.Spec PyProof.Rows
section
variable {g:Gx} {x qual:Str} {st:Stmt} {N ps:List Str} {dvs:List V} {sp:Sp} {j k:Nat}
variable {X:Cx} {p pos:Pos} {e:Expr} {es:List Expr} {t:TA}
end
section
variable {X:Cx}
end
section
variable {src:List (Option Nat)} {te:TE} {σ:St} {H:Hp} {Q:VK}
end
end L2
namespace L2
open PySem PySem.Spec PyProof.Rows
mutual
inductive RK (h:Heap):Value→PyData→Prop
 | int (i:Int) (t:Tok):RK h (.int i t) (.int i)
 | str (x:Str) (t:Tok) (hx:PyData.strOk x=true):RK h (.str x t) (.str x)
 | tup {a:Addr} {o:Obj} {vs:Array Value} {n:Nat} {ds:List PyData}:h.get? a=some o→o.cls = .type "tuple"→o.data = .seq vs n→RKs h vs.toList ds→RK h (.ref a) (.tuple ds)
inductive RKs (h:Heap):List Value→List PyData→Prop
 | nil:RKs h [] []
 | cons {v:Value} {d:PyData} {vs:List Value} {ds:List PyData}:RK h v d→RKs h vs ds→RKs h (v::vs) (d::ds)
end
mutual
inductive KO:PyData→Prop
 | int (i:Int):KO (.int i)
 | str (x:Str):KO (.str x)
 | tup {ds:List PyData}:KOs ds→KO (.tuple ds)
inductive KOs:List PyData→Prop
 | nil:KOs []
 | cons {d:PyData} {ds:List PyData}:KO d→KOs ds→KOs (d::ds)
end
mutual
theorem RK.ko {h:Heap}:∀ {v:Value} {d:PyData},RK h v d→KO d
 | _,_,.int i t => .int i
 | _,_,.str x t _ => .str x
 | _,_,.tup _ _ _ hs => .tup hs.ko
theorem RKs.ko {h:Heap}:∀ {vs:List Value} {ds:List PyData},RKs h vs ds→KOs ds
 | _,_,.nil => .nil
 | _,_,.cons a b => .cons a.ko b.ko
end
mutual
theorem RK.reads {h:Heap}:∀ {v:Value} {d:PyData},RK h v d→(∃ as,Reads h v d as)∧d.canLay0=true
 | _,_,.int i t=>⟨⟨_,.int i t⟩,rfl⟩
 | _,_,.str x t hx=>⟨⟨_,.str x t⟩,by simpa [PyData.canLay0] using hx⟩
 | _,_,.tup h1 h2 h3 hs=>by
  obtain ⟨⟨as,r⟩,l⟩:=hs.reads
  exact ⟨⟨_,.tuple h1 h2 h3 r⟩,by rw [PyData.canLay0];exact l⟩
theorem RKs.reads {h:Heap}:∀ {vs:List Value} {ds:List PyData},RKs h vs ds→(∃ as,ReadsAll h vs ds as)∧PyData.canLayAll0 ds=true
 | _,_,.nil=>⟨⟨_,.nil⟩,rfl⟩
 | _,_,.cons a b=>by
  obtain ⟨⟨as,r⟩,l⟩:=a.reads
  obtain ⟨⟨bs,r'⟩,l'⟩:=b.reads
  exact ⟨⟨_,.cons r r'⟩,by rw [PyData.canLayAll0,l,l'];rfl⟩
end
theorem RK.of {h:Heap} {d:PyData} {v:Value} {as:List Addr} (k:KO d) (r:Reads h v d as) (l:d.canLay0=true):RK h v d:=by
 induction k using KO.rec (motive_2:=fun ds _=>∀ {vs:List Value} {as:List Addr},ReadsAll h vs ds as→PyData.canLayAll0 ds=true→RKs h vs ds) generalizing v as with
 | int i=>cases r with | int _ t=>exact .int i t
 | str x=>cases r with | str _ t=>exact .str x t (by simpa [PyData.canLay0] using l)
 | tup _ ih=>cases r with | tuple h1 h2 h3 hs=>exact .tup h1 h2 h3 (ih hs (by rw [PyData.canLay0] at l;exact l))
 | nil=>rename_i r l;cases r;exact .nil
 | cons _ _ ih ihs =>
  rename_i r l
  rw [PyData.canLayAll0,Bool.and_eq_true] at l
  cases r with | cons r rs=>exact .cons (ih r l.1) (ihs rs l.2)
theorem RK.inj {h:Heap} {d:PyData} {v:Value} {e:PyData} (a:RK h v d) (b:RK h v e):d=e:=by
 obtain ⟨⟨_,r⟩,l⟩:=a.reads
 obtain ⟨⟨_,r'⟩,_⟩:=b.reads
 exact (r.unique _ _ r').1
mutual
theorem RK.keeps {h h':Heap} {x:Addr} {o:Obj} {es:Array DictEntry} {ep:Nat} (ho:h.get? x=some o) (hd:o.data = .dict es ep) (hs:Heap.SameBut x h h'):∀ {v:Value} {d:PyData},RK h v d→RK h' v d
 | _,_,.int i t => .int i t
 | _,_,.str y t hy => .str y t hy
 | _,_,.tup (a:=a) h1 h2 h3 ks=>by
  have hne:a≠x:=by
   rintro rfl
   rw [ho] at h1
   cases h1
   rw [hd] at h3
   exact nomatch h3
  exact .tup ((hs.2 a hne).trans h1) h2 h3 (RKs.keeps ho hd hs ks)
theorem RKs.keeps {h h':Heap} {x:Addr} {o:Obj} {es:Array DictEntry} {ep:Nat} (ho:h.get? x=some o) (hd:o.data = .dict es ep) (hs:Heap.SameBut x h h'):∀ {vs:List Value} {ds:List PyData},RKs h vs ds→RKs h' vs ds
 | _,_,.nil => .nil
 | _,_,.cons a b => .cons (RK.keeps ho hd hs a) (RKs.keeps ho hd hs b)
end
noncomputable instance decPy:DecidableEq PyData:=fun a b=>Classical.propDecidable (a=b)
mutual
theorem KO.eqv:∀ {d e:PyData},KO d→KO e→d.eqv e=decide (d=e)
 | .int a,.int b,_,_=>by
  by_cases h:a=b
  ·subst h;simp [PyData.eqv]
  ·simp [PyData.eqv,h]
 | .str a,.str b,_,_=>by
  by_cases h:a=b
  ·subst h;simp [PyData.eqv]
  ·simp [PyData.eqv,h]
 | .int a,.str b,_,_=>by simp [PyData.eqv]
 | .str a,.int b,_,_=>by simp [PyData.eqv]
 | .int a,.tuple b,_,_=>by simp [PyData.eqv]
 | .str a,.tuple b,_,_=>by simp [PyData.eqv]
 | .tuple a,.int b,_,_=>by simp [PyData.eqv]
 | .tuple a,.str b,_,_=>by simp [PyData.eqv]
 | .tuple a,.tuple b,.tup x,.tup y=>by
  rw [PyData.eqv,KOs.eqv x y]
  by_cases h:a=b
  ·subst h;simp
  ·simp [h]
theorem KOs.eqv:∀ {ds es:List PyData},KOs ds→KOs es→PyData.eqvAll ds es=decide (ds=es)
 | [],[],_,_=>by simp [PyData.eqvAll]
 | [],_::_,_,_=>by simp [PyData.eqvAll]
 | _::_,[],_,_=>by simp [PyData.eqvAll]
 | d::ds,e::es,.cons x xs,.cons y ys=>by
  rw [PyData.eqvAll,KO.eqv x y,KOs.eqv xs ys]
  by_cases h:d=e
  ·subst h
   by_cases h2:ds=es
   ·subst h2;simp
   ·simp [h2]
  ·simp [h]
end
section
variable {P:Program} {w:World}
mutual
def kh (P:Program) (w:World):PyData→Int
 | .int i=>(XU P w).hash (.inl i)
 | .str x=>(XU P w).hash (.inr x)
 | .tuple ds=>reduceHash (Builtin.Tuple.tupleHashOf (khs P w ds))
 | _=>0
def khs (P:Program) (w:World):List PyData→List Int
 | []=>[]
 | d::ds=>kh P w d::khs P w ds
end
mutual
def kdr:PyData→Nat
 | .int _=>1
 | .str _=>1
 | .tuple ds=>Wm ds+1
 | _=>0
def Wm:List PyData→Nat
 | []=>0
 | d::ds=>kdr d+Wm ds
end
theorem YeA (a b:List PyData):khs P w (a++b)=khs P w a++khs P w b:=by
 induction a with
 | nil=>simp [khs]
 | cons x a ih=>simp [khs,ih]
theorem YdI (a b:List PyData):Wm (a++b)=Wm a+Wm b:=by
 induction a with
 | nil=>simp [Wm]
 | cons x a ih=>simp [Wm,ih,Nat.add_assoc]
theorem YdJ (a b:List PyData):PyData.depthAll (a++b)=max (PyData.depthAll a) (PyData.depthAll b):=by
 induction a with
 | nil=>simp [PyData.depthAll]
 | cons x a ih=>simp [PyData.depthAll,ih,Nat.max_assoc]
theorem UT {s:Shared} {a:Addr} {o:Obj} (h1:s.heap.get? a=some o) (h2:o.cls = .type "tuple"):s.TypeIs (.ref a) "tuple":=⟨o,h1,h2⟩
theorem Ybj:∀ (n:Nat) {A:Around} {E:Value→Shared→Prop} {s:Shared} {v:Value} {d:PyData} {Q:Int→Shared→Prop},RK s.heap v d→d.depth≤n→A.units+n<cLine→Q (kh P w d) { s with toks:=s.toks+kdr d }→wpAny (model P w) A (pyHash v) Q E s
 | n,A,E,s,_,_,Q,.int i t,_,_,h=>(XU P w).pyHash (Yd8 (k := .inl i) (show YC (.int i) (.int i t) from ⟨t,rfl⟩)) (by simpa [kh,kdr] using h)
 | n,A,E,s,_,_,Q,.str x t _,_,_,h=>(XU P w).pyHash (Yd8 (k := .inr x) (show YC (.str x) (.str x t) from ⟨t,rfl⟩)) (by simpa [kh,kdr] using h)
 | 0,A,E,s,_,_,Q,.tup _ _ _ _,hd,_,h=>by simp [PyData.depth] at hd
 | n+1,A,E,s,_,_,Q,.tup (a:=a) (ds:=ds) h1 h2 h3 ks,hd,hu,h=>by
  have hT:=UT h1 h2
  unfold pyHash
  first | unfold pyHashByItsType | skip
  first | refine wpAny_bind (wpAny_cRoomFor_or (.inr (by omega)) ?_) | skip
  refine wpAny_bind (wpAny_specialOf hT F.slot_tuple_hash.lookup ?_)
  show wpAny _ _ (if (some (Value.builtin "tuple.__hash__")==some Value.none)=true then _ else _) Q E s
  rw [if_neg (by rw [beq_builtin_none];exact Bool.false_ne_true)]
  refine wpAny_bind (wpAny_specialOf hT F.slot_tuple_hash.lookup ?_)
  refine wpAny_bind (wpAny_callSpecialIfBoundUnlessNone?_slot hT F.slot_tuple_hash (wpAny_call_entry F.slot_tuple_hash hT F.entry_tuple_hash ?_ (F.args_tuple_hash_1 _)))
  show wpAny _ _ (Builtin.Tuple.tupleItemsOf (.ref a) >>= _) _ _ s
  refine wpAny_bind (wpAny_tupleItemsOf h1 h3 ?_)
  refine wpAny_bind ?_
  rw [← Array.forIn_toList]
  have hdd:PyData.depthAll ds≤n:=by simp only [PyData.depth] at hd;omega
  refine wpAny_forIn_list _ (fun Y8 (b:Array Int) s'=>∃ done left,ds=done++left∧RKs s.heap Y8 left∧b.toList=khs P w done∧s'={ s with toks:=s.toks+Wm done }) _ ?_ ?_ _ _ ⟨[],ds,rfl,ks,by simp [khs],by simp [Wm]⟩
  ·rintro x Y8 b s' ⟨done,left,e,hl,hb,rfl⟩
   cases hl with
   | @cons _ d _ ds' hk hl' =>
    have hdk:d.depth≤n:=by
     rw [e,YdJ] at hdd
     simp only [PyData.depthAll] at hdd
     omega
    have hin:A.in1.units+n<cLine:=by
     have:A.in1.units=A.units+1:=rfl
     omega
    refine wpAny_bind (Ybj n (s:={ s with toks:=s.toks+Wm done }) hk hdk hin ?_)
    have fin:∃ done' left',ds=done'++left'∧RKs s.heap Y8 left'∧(b.push (kh P w d)).toList=khs P w done'∧({ s with toks:=s.toks+Wm done+kdr d }:Shared)={ s with toks:=s.toks+Wm done' } :=
     ⟨done++[d],ds',by rw [e];simp,hl',by rw [YeA,Array.toList_push,hb];simp [khs],by rw [YdI];simp [Wm,Nat.add_assoc]⟩
    first
     | exact wpAny_pure fin
     | exact wpAny_bind (wpAny_pure (wpAny_pure fin))
  ·rintro b s' ⟨done,left,e,hl,hb,rfl⟩
   cases hl
   rw [List.append_nil] at e
   subst e
   show wpAny _ _ (retInt (Builtin.Tuple.tupleHashOf b.toList)) _ _ _
   rw [hb]
   refine wpAny_ret_mkInt ?_
   simp only [kh,kdr] at h
   unfold reduceHash at h
   show wpAny _ _ (if (decide (-(2:Int)^63≤Builtin.Tuple.tupleHashOf (khs P w ds))&&decide (Builtin.Tuple.tupleHashOf (khs P w ds)<2^63))=true then _ else _) Q E _
   by_cases hr:(decide (-(2:Int)^63≤Builtin.Tuple.tupleHashOf (khs P w ds))&&decide (Builtin.Tuple.tupleHashOf (khs P w ds)<2^63))=true
   ·rw [if_pos hr]
    rw [if_pos hr] at h
    exact wpAny_pure (by simpa [Nat.add_assoc] using h)
   ·rw [if_neg hr]
    rw [if_neg hr] at h
    exact wpAny_bind (wpAny_rule (wpAny_pure (by simpa [Nat.add_assoc] using h)))
theorem Yac:∀ (n:Nat) {A:Around} {E:Value→Shared→Prop} {s:Shared} {v:Value} {d:PyData} {Q:Bool→Shared→Prop},RK s.heap v d→d.depth≤n→Q true s→wpAny (model P w) A (eqIsQuiet n v) Q E s
 | n,A,E,s,_,_,Q,.int i t,_,h=>by rw [eqIsQuiet_byValue _ (by rfl)];exact wpAny_pure h
 | n,A,E,s,_,_,Q,.str x t _,_,h=>by rw [eqIsQuiet_byValue _ (by rfl)];exact wpAny_pure h
 | 0,A,E,s,_,_,Q,.tup _ _ _ _,hd,h=>by simp [PyData.depth] at hd
 | n+1,A,E,s,_,_,Q,.tup (a:=a) (ds:=ds) h1 h2 h3 ks,hd,h=>by
  have hT:=UT h1 h2
  have hdd:PyData.depthAll ds≤n:=by simp only [PyData.depth] at hd;omega
  unfold eqIsQuiet
  refine wpAny_bind (wpAny_specialOf hT F.slot_tuple_eq.lookup ?_)
  refine wpAny_bind (wpAny_isInstance hT isSubtype_tuple_tuple ?_)
  simp only [Bool.not_true,Bool.false_eq_true,if_false]
  refine wpAny_bind (wpAny_seqItems h1 h3 ?_)
  refine wpAny_bind ?_
  rw [Option.getD_some,← Array.forIn_toList]
  refine wpAny_forIn_list _ (fun Y8 r s'=>r.1=none∧s'=s∧∃ left,RKs s.heap Y8 left∧PyData.depthAll left≤n) _ ?_ ?_ _ _ ⟨rfl,rfl,ds,ks,hdd⟩
  ·rintro v Y8 r s' ⟨hr,rfl,left,hl,hdl⟩
   cases hl with
   | @cons _ d _ ds' hk hl' =>
    simp only [PyData.depthAll] at hdl
    refine wpAny_bind (Yac n hk (by omega) ?_)
    simp only [Bool.not_true,Bool.false_eq_true,if_false]
    exact wpAny_pure ⟨rfl,rfl,ds',hl',by omega⟩
  ·rintro ⟨r1,r2⟩ s' ⟨hr,rfl,_⟩
   simp only at hr
   subst hr
   exact wpAny_pure h
noncomputable def deepKind (P:Program) (w:World):HeapKind P w PyData where
 is:=fun h d a=>RK h (.ref a) d∧d.depth≤8
 hash:=kh P w
 draws:=kdr
 room:=fun A=>A.units+8<cLine
 inj:=fun hx hy=>hx.1.inj hy.1
 keeps:=fun x ho hd hs=>⟨x.1.keeps ho hd hs,x.2⟩
 pyHash:=fun hu hk h=>Ybj 8 hk.1 hk.2 hu h
 eqBool:=fun {A E s x y a b Q} hu hx hy h=>by
  obtain ⟨⟨as,r1⟩,l1⟩:=hx.1.reads
  obtain ⟨⟨bs,r2⟩,l2⟩:=hy.1.reads
  have hm:min x.depth y.depth≤8:=Nat.le_trans (Nat.min_le_left _ _) hx.2
  exact SeqAt.eqAt_reads x y A s _ _ _ _ r1 r2 l1 l2 (by omega) P w E Q (by rw [KO.eqv hx.1.ko hy.1.ko];exact h)
 quiet:=fun hk h=>Yac 8 hk.1 hk.2 h
end
abbrev Dx:=List (PyData×Addr×Addr)
def dconv (x:PyData×Addr×Addr):PyData×Addr×Value:=(x.1,x.2.1,.ref x.2.2)
noncomputable def DDi (P:Program) (w:World) (a:Addr) (xs:Dx):HO := .ext fun h=>(a==sysModules)=false∧∃ o es ep,h.get? a=some o∧o.ExactDict∧o.data = .dict es ep∧es.toList=(xs.map dconv).map (entryOfKey (deepKind P w))
structure DK (K:PySem.W.Frag) (H:Hp) (b:Addr) (d:PyData):Prop where
 den:Den K H (.ref b) d
 ko:KO d
 dp:d.depth≤8
theorem DK.keep {K:PySem.W.Frag} {H H':Hp} {b:Addr} {d:PyData} (h:DK K H b d) (s:Yf H H'):DK K H' b d:=⟨h.den.keep s,h.ko,h.dp⟩
noncomputable def lookD (xs:Dx) (d:PyData):Option Addr:=(xs.find? fun x=>decide (x.1=d)).map (·.2.2)
structure DictD (P:Program) (w:World) (K:PySem.W.Frag) (H:Hp) (a:Addr) (xs:Dx):Prop where
 at_:H a=some (DDi P w a xs)
 nd:(xs.map (·.1)).Nodup
 len:xs.length≤1000
 keys:∀ x∈xs,DK K H x.2.1 x.1
section
variable {X:Cx} {pins:List (Addr×Obj)} {σ:St} {H:Hp} {s:Shared} {a b:Addr} {d:PyData} {xs:Dx} {u r:Value} {A:Around} {E:Value→Shared→Prop}
end
section
variable {X:Cx} {o i e value:Expr} {pos pos' tpos:Pos} {td ty tv:TE} {k:Nat}
end
def Vx (H H':Hp):Prop:=∀ b xs,Rd H b (.tup xs)→Rd H' b (.tup xs)
theorem Vx.sq {K:PySem.W.Frag} {H H':Hp} (t:Vx H H') {b:Addr} {xs:List V} (h:SqT K H b xs):SqT K H' b xs:=by
 rcases h with h | h
 ·exact .inl (t _ _ h)
 ·exact .inr h
theorem Vx.trans {H H1 H2:Hp} (a:Vx H H1) (b:Vx H1 H2):Vx H H2:=fun c xs e=>b c xs (a c xs e)
theorem YdK {K:PySem.W.Frag} {H H':Hp} (t:Vx H H') {d:PyData} {v:V} (k:KO d) (r:Den K H v d):Den K H' v d:=by
 induction k using KO.rec (motive_2:=fun ds _=>∀ {vs:List V},Dens K H vs ds→Dens K H' vs ds) generalizing v with
 | int i=>cases r with | int _=>exact .int i
 | str x=>cases r with | str _ h=>exact .str x h
 | tup _ ih=>cases r with | tup h hs=>exact .tup (t.sq h) (ih hs)
 | nil=>rename_i r;cases r;exact .nil
 | cons _ _ ih ihs=>rename_i r;cases r with | cons a b=>exact .cons (ih a) (ihs b)
theorem DK.tupk {K:PySem.W.Frag} {H H':Hp} {b:Addr} {d:PyData} (h:DK K H b d) (t:Vx H H'):DK K H' b d:=⟨YdK t h.ko h.den,h.ko,h.dp⟩
theorem DictD.keep {P:Program} {w:World} {K:PySem.W.Frag} {H H':Hp} {a:Addr} {xs:Dx} (h:DictD P w K H a xs) (t:Vx H H') (e:H' a=some (DDi P w a xs)):DictD P w K H' a xs:=⟨e,h.nd,h.len,fun x hx=>(h.keys x hx).tupk t⟩
section
variable {X:Cx} {k:Nat}
end
section
variable {X:Cx} {e:Expr} {f:Str} {pos:Pos} {ta:TE}
end
end L2
namespace L2
open PySem PySem.Spec PyProof.Rows
end L2
namespace L2
open PySem PySem.Spec PyProof.Rows
end L2
namespace L2
open PySem PySem.Spec PyProof.Rows
section
variable {M:Model} {A:Around} {E:Value→Shared→Prop} {s:Shared}
end
section
variable {X:Cx}
end
section
variable {X:Cx}
end
end L2
namespace L2
open PySem PySem.Spec PyProof.Rows
section
variable {M:Model} {A:Around} {E:Value→Shared→Prop} {s:Shared} {B:Heap} {env:Env} {outer l:List Env} {e L:Addr} {cls a0:Value} {Q:Unit→Shared→Prop}
end
section
variable {X:Cx} {pins:List (Addr×Obj)} {σ:St} {H H':Hp} {s s1 s':Shared} {B:Heap} {e C:Addr} {cls a0:Value} {M:Model} {A:Around} {Q:Unit→Shared→Prop} {EE:Value→Shared→Prop}
end
section
variable {prog:Program} {w:World} {A:Around} {R:Result→Shared→Prop} {s:Shared}
end
section
variable {X:Cx}
end
end L2
namespace L2
open PySem PySem.Spec PyProof.Rows
section
variable {prog:Program} {w:World} {A:Around} {E:Value→Shared→Prop} {s:Shared}
end
section
variable {X:Cx}
end
end L2
namespace L2
open PySem PySem.Spec PyProof.Rows
open Sem (wp)
section
variable {prog:Program} {w:World} {A:Around} {R:Result→Shared→Prop} {I:Addr} {fp wr:List Addr} {n:Nat} {P:Nat→Value→Prop} {St:Nat→Heap→Prop}
end
section
variable {prog:Program} {w:World} {A:Around} {E:Value→Shared→Prop} {s:Shared} {l:Addr} {xs:Array (Int×Tok)}
end
section
variable {X:Cx}
end
section
variable {X:Cx}
end
end L2
namespace L2
open PySem PySem.Spec PyProof.Rows PySem.Builtin.Str
section
variable {X:Cx}
end
end L2
namespace L2
open PySem PySem.Spec PyProof.Rows
section
variable {X:Cx}
end
end L2
namespace PySem.W
open PySem PyProof.Rows
open Builtin Builtin.ObjectAttr
section
variable {prog:Program} {w:World} {A:Around} {E:Value→Shared→Prop} {hh:Heap} {g:Array GenState} {d:Drawn} {t:Nat} {os:OsState} {K:Frag} {x C D:Addr} {ox:Obj} {mA:Str→Option Value} {f:Str} {v:Value}
theorem YaU {tk:Tok} {Q:Fin→Shared→Prop} (In:K.In hh) (hd:hasDictIn K C=true) (hx:hh.get? x=some ox) (hc:ox.cls = .ref C) (hnc:∀ c,ox.data ≠ .cls c) (hdc:ox.dict=some D) (hns:hh.Ns D mA) (hv:mA f=some v) (ha:findIn K (.ref C) f=some none)
  (hq:Q (.done (.ret v)) ⟨hh,g,d,t,os⟩):wpAny (model prog w) A (Builtin.«object.__getattribute__» ⟨[.ref x,.str f tk],[]⟩) Q E ⟨hh,g,d,t,os⟩:=by
 have L3:=looks_findIn (M:=model prog w) In ha
 unfold Builtin.«object.__getattribute__»
 repeat (any_goals (first | assumption | (with_reducible refine wpAny_loadPart_at hx ?_;rw [hc]) | with_reducible refine L3.at ?_ | wp_step))
 obtain ⟨cd,e,hcd⟩:=any_some hd
 have L4:=looks_clsIn (M:=model prog w) In e
 split
 ·rename_i c hcd2
  exact absurd hcd2 (hnc c)
 unfold instanceDict
 repeat (any_goals (first | assumption | (with_reducible refine wpAny_loadPart_at hx ?_;simp only [hc]) | with_reducible refine L4.at ?_ | wp_step))
 rw [hdc]
 repeat (any_goals (first | assumption | (with_reducible refine wpAny_nsGet hns ?_;rw [hv]) | wp_step))
theorem YbY {tk:Tok} {R:Result→Shared→Prop} (In:K.In hh) (hd:hasDictIn K C=true) (hx:hh.get? x=some ox) (hc:ox.cls = .ref C) (hnc:∀ c,ox.data ≠ .cls c) (hdc:ox.dict=some D) (hns:hh.Ns D mA) (hv:mA f=some v) (hb:mroIn K C (.type "BaseException")=some true) (ha:findIn K (.ref C) f=some none)
  (hq:R (.ok (.ret v)) ⟨hh,g,d,t,os⟩):codeAny (model prog w) A (.call (.builtin "BaseException.__getattribute__") ⟨[.ref x,.str f tk],[]⟩) R ⟨hh,g,d,t,os⟩ :=
 codeAny_call_builtin (by decide +kernel) F.entry_bexc_ga (Ui In hx hc hb (YaU In hd hx hc hnc hdc hns hv ha hq))
theorem exatt_attr {b:Bool} {Q:Value→Shared→Prop} (In:K.In hh) (hd:hasDictIn K C=true) (hx:hh.get? x=some ox) (hc:ox.cls = .ref C) (hnc:∀ c,ox.data ≠ .cls c) (hdc:ox.dict=some D) (hns:hh.Ns D mA) (hv:mA f=some v) (hh':handedOut v=pure v) (hb:mroIn K C (.type "BaseException")=some true) (ha:findIn K (.ref C) f=some none)
  (hga:findIn K (.ref C) "__getattribute__"=some (some (.builtin "BaseException.__getattribute__"))) (hgt:findIn K (.ref C) "__getattr__"=some none) (hq:Q v ⟨hh,g,d,t+1,os⟩) :
  wpAny (model prog w) A (getAttr (.ref x) f b) Q E ⟨hh,g,d,t,os⟩:=by
 have hbd:=Qp (.ref x)
 have e2:(Value.builtin "BaseException.__getattribute__"==Value.builtin "object.__getattribute__")=false:=by decide +kernel
 have e1:(onTheHeap (Value.ref C)&&Value.builtin "BaseException.__getattribute__"==Value.builtin "object.__getattribute__")=false:=by rw [e2];rfl
 have L1:=looks_findIn (M:=model prog w) In hga
 have L2:=looks_findIn (M:=model prog w) In hgt
 unfold getAttr getAttrBy
 repeat (any_goals (first | assumption | (with_reducible refine wpAny_loadPart_at hx ?_;rw [hc]) | with_reducible refine L1.at ?_ | with_reducible refine L2.at ?_ | wp_step))
 have e0:(b&&onTheHeap (Value.builtin "BaseException.__getattribute__"))=false:=by cases b<;>rfl
 rw [if_neg (by rw [e0];decide)]
 unfold boundAndCalled
 repeat (any_goals (first | assumption | wp_step))
 refine YbY In hd hx hc hnc hdc hns hv hb ha ?_
 repeat (any_goals (first | assumption | wp_step))
end
section
variable {prog:Program} {w:World} {A:Around} {E:Value→Shared→Prop} {s:Shared} {K:Frag} {x C C' D:Addr} {ox:Obj} {od:Option Obj} {mA:Str→Option Value} {name:Str} {v:Value} {R:Result→Shared→Prop}
def excLine (K:Frag) (C C':Addr):Bool:=(clsIn K C).any fun cd=>cd.mro==[.ref C,.ref C',.type "ValueError",.type "Exception",.type "BaseException",.type "object"]
theorem UU {tk:Tok} (X:K.In s.heap) (I:InstAt s.heap x ox C od) (hm:excLine K C C'=true) (ha:findIn K (.ref C) name=some none)
  (h:wpAny (model prog w) A.in1 (storeInOwnDict (.ref x) (.ref C) (.str name tk) name v false)
   (fun fin s'=>match fin with | .done f=>R (.ok f) s' | .again c'=>c'.quiet=true∧codeAny (model prog w) A c' R s') (fun e s'=>R (.error e) s') s) :
  codeAny (model prog w) A (.call (.builtin "object.__setattr__") ⟨[.ref x,.str name tk,v],[]⟩) R s:=by
 have SF:=PySem.F.store_object
 obtain ⟨cd,hc,ho⟩:=any_some hm
 have ho:=eq_of_beq ho
 have sub:Looks (model prog w) s.heap (isInstance (.ref x) (.type "object")) true:=I.type.andThen (looks_mroIn X (by unfold mroIn;rw [hc,Option.bind_some,ho];rfl))
 refine codeAny_call_builtin SF.slot.plain SF.entry (@check_slot (model prog w) _ _ s "object.__setattr__" "object" "__setattr__" (.ref x) [.str name tk,v] [] _ SF.kind SF.split sub (SF.args (.ref x) (.str name tk) v) ?_)
 have hmro:Looks (model prog w) s.heap (mroOf (.ref C)) cd.mro:=(looks_clsIn X hc).andThen .now
 rw [osa_eq,refuse_eq]
 refine wpAny_bind (wpAny_bind (I.type.here (wpAny_bind (hmro.here ?_))))
 rw [ho,refuseLoop_ref,refuseLoop_ref,PySem.F.store_ValueError.passes]
 refine wpAny_pure (wpAny_bind (I.type.here (wpAny_bind ((looks_findIn X ha).here (wpAny_bind (wpAny_pure ?_))))))
 exact h
end
section
variable {prog:Program} {w:World} {A:Around} {E:Value→Shared→Prop} {s:Shared} {K:Frag} {x C C' D:Addr} {ox:Obj} {od:Option Obj} {mA:Str→Option Value} {name:Str} {v:Value} {vs:Array Value} {Q:Unit→Shared→Prop}
theorem Yad (hf:ox.data = .fields vs):notCls ox=true:=by unfold notCls;rw [hf]
theorem exset_more {ns:List Str} (X:K.In s.heap) (hx:s.heap.get? x=some ox) (hc:ox.cls = .ref C) (hf:ox.data = .fields vs) (hdc:ox.dict=some D) (hn:s.heap.Ns1 D mA) (hne:D≠x) (hd:hasDictIn K C=true) (hm:excLine K C C'=true) (ha:findIn K (.ref C) name=some none)
  (hs:findIn K (.ref C) "__setattr__"=some (some (.builtin "object.__setattr__"))) (hw:PySem.Within mA ns) (hsz:ns.length≤sizeLine)
  (h:∀ h',h'.Ns1 D (fun y=>if y=name then some v else mA y)→Heap.SameBut D s.heap h'→Q () { s with heap:=h',toks:=s.toks+2 }):wpAny (model prog w) A (setAttr (.ref x) name v) Q E s:=by
 obtain ⟨oD,_,_,hoD0,_⟩:=id hn
 have J:InstAt s.heap x ox C (some oD):=⟨hx,hc,Yad hf,by rw [hdc];exact hoD0⟩
 refine set_plain X J hs (UU (s:={ s with toks:=s.toks+1 }) (C':=C') X J hm ha ?_)
 obtain ⟨cd,hcd,hd'⟩:=any_some hd
 refine wpAny_bind (wpAny_pure (wpAny_bind (wpAny_bind (wpAny_loadPart hx ?_))))
 simp only [hc]
 refine wpAny_bind (Looks.here (s:={ s with toks:=s.toks+1 }) (looks_clsIn X hcd) ?_)
 rw [hd',hdc]
 refine wpAny_pure (a:=some D) (wpAny_bind (wpAny_pure (wpAny_bind ?_)))
 refine wpAny_nsSet1 (s:={ s with toks:=s.toks+1 }) hn fun h' hn2 hs2=>?_
 obtain ⟨oD,esD,epD,hoD,hdD,hcD⟩:=hn2.count (PySem.Within.cons name v hw)
 refine wpAny_bind (wpAny_lookBehind hoD (by rw [hdD];exact pastItsLine_dict (Nat.le_trans hcD (by rw [List.length_cons];omega))) ?_)
 exact wpAny_pure (h _ hn2 hs2)
theorem exset_new (X:K.In s.heap) (hx:s.heap.get? x=some ox) (hc:ox.cls = .ref C) (hf:ox.data = .fields vs) (hdc:ox.dict=none) (hd:hasDictIn K C=true) (hm:excLine K C C'=true) (ha:findIn K (.ref C) name=some none)
  (hs:findIn K (.ref C) "__setattr__"=some (some (.builtin "object.__setattr__")))
  (h:∀ h',h'.Ns1 s.heap.objs.size (fun y=>if y=name then some v else none)→h'.get? x=some { ox with dict:=some s.heap.objs.size }→(∀ b o,b≠x→s.heap.get? b=some o→h'.get? b=some o)→Q () { s with heap:=h',toks:=s.toks+2 }):wpAny (model prog w) A (setAttr (.ref x) name v) Q E s:=by
 have J:InstAt s.heap x ox C none:=⟨hx,hc,Yad hf,by rw [hdc];exact True.intro⟩
 refine set_plain X J hs (UU (s:={ s with toks:=s.toks+1 }) (C':=C') X J hm ha ?_)
 obtain ⟨cd,hcd,hd'⟩:=any_some hd
 refine wpAny_bind (wpAny_pure (wpAny_bind (wpAny_bind (wpAny_loadPart hx ?_))))
 simp only [hc]
 refine wpAny_bind (Looks.here (s:={ s with toks:=s.toks+1 }) (looks_clsIn X hcd) ?_)
 rw [hd',hdc,hf]
 rw [if_neg (by decide)]
 dsimp only
 rw [if_neg (by simp [typeHasDict])]
 have hx₁:(s.heap.push { cls := .type "dict",data := .dict #[] }).get? x=some ox:=Heap.get?_push_of_some _ hx
 have hxs:x≠s.heap.objs.size:=Nat.ne_of_lt (Heap.lt_size hx)
 refine wpAny_bind (wpAny_alloc' (wpAny_bind (wpAny_update' hx₁ (wpAny_pure ?_))))
 generalize hH:(s.heap.push { cls := .type "dict",data := .dict #[] }).update x (fun o=>{ cls:=o.cls,dict:=some s.heap.objs.size,data:=o.data,slots:=o.slots })=H2
 have hgd:H2.get? s.heap.objs.size=some { cls := .type "dict",data := .dict #[] }:=by
  rw [← hH]
  exact (Heap.get?_update_ne _ _ _ _ hxs.symm).trans (Heap.get?_push_at rfl rfl)
 have hx2:H2.get? x=some { cls:=ox.cls,dict:=some s.heap.objs.size,data:=ox.data,slots:=ox.slots }:=by
  rw [← hH]
  refine Heap.get?_update_self _ hx₁ ?_
  have hfr:=(Heap.get?_some_iff.mp hx).2
  obtain ⟨oc,od,odt,osl⟩:=ox
  cases odt<;>first | rfl | exact hfr
 have hko:∀ b o,b≠x→s.heap.get? b=some o→H2.get? b=some o:=fun b o hb e=>by
  rw [← hH]
  exact (Heap.get?_update_ne _ _ _ _ hb).trans (Heap.get?_push_of_some _ e)
 have hnd:H2.Ns s.heap.objs.size (fun _=>none):=⟨_,#[],_,hgd,rfl,fun e he=>absurd he (by simp),fun _=>rfl⟩
 refine wpAny_bind (wpAny_pure (wpAny_bind ?_))
 refine wpAny_nsSet1 (s:={ s with heap:=H2,toks:=s.toks+1 }) (Heap.Ns1.of_empty hnd) fun h' hn2 hs2=>?_
 obtain ⟨oD,esD,epD,hoD,hdD,hcD⟩:=hn2.count (PySem.Within.cons name v PySem.Within.nil)
 refine wpAny_bind (wpAny_lookBehind hoD (by rw [hdD];exact pastItsLine_dict (Nat.le_trans hcD (by rw [List.length_cons,List.length_nil,sizeLine_eq];omega))) ?_)
 exact wpAny_pure (h _ hn2 ((hs2.2 x hxs).trans hx2) fun b o hb e=>(hs2.2 b (Nat.ne_of_lt (Heap.lt_size e))).trans (hko b o hb e))
end
end PySem.W
namespace PySem.W
open PySem PyProof.Rows
theorem YbZ {K:Frag} {h:Heap} {N:Addr} {mg:Str→Option Value} {n:Str} {v:Value} (X:K.In h) (G:h.Ns N mg) (e:nsIn K N n=some (some v)):mg n=some v:=by
 obtain ⟨o,es,ep,ho,hd,_,hf⟩:=G
 unfold nsIn at e
 split at e
 ·rename_i c d es' n' sl q
  have:=X _ _ q
  rw [ho] at this
  cases this
  cases hd
  split at e
  ·rename_i he
   rw [← hf]
   unfold nsFind findBy
   rw [← Array.find?_toList,he]
   cases e
   rfl
  ·split at e<;>cases e
 ·cases e
def excOwn (K:Frag) (C:Addr) (tl:List Value) (nw:String) (f:Addr):Bool:=match K.lookup C with
 | some ⟨.type "type",_,.cls cd,sl⟩=>(match cd.mro,sl.toList with
  | .ref c::bm,[_,_,_,_,some (.builtin n),_]=>(c==C&&n==nw)&&((!cd.hasDel&&tailIn K tl bm)&&(nsOkIn K cd.ns&&nsIn K cd.ns "__init__"==some (some (.ref f))))
  | _,_=>false)
 | _=>false
theorem excOwn_obj {K:Frag} {h:Heap} {C f:Addr} {tl:List Value} {nw:String} (In:K.In h) (q:excOwn K C tl nw f=true) :
  ∃ (bm:List Value) (ns:Addr) (nm qn:Str) (bs:List Value) (hd:Bool) (sn:List Str) (sub:List Value) (ab:Bool) (col:Option Bool) (dd:Option Addr) (k0 k1 k2 k3 k5:Option Value) (mN:Str→Option Value),
   h.get? C=some (excClassObj nm qn C ns bs bm hd sn sub ab col dd k0 k1 k2 k3 k5 nw)∧h.Ns ns mN∧mN "__init__"=some (.ref f)∧OwnTail h tl bm:=by
 unfold excOwn at q
 split at q
 case h_2=>exact absurd q (by decide)
 case h_1 dd cd sl lk =>
  split at q
  case h_2=>exact absurd q (by decide)
  case h_1 c2 bm k0 k1 k2 k3 n k5 em es =>
   simp only [beq_iff_eq,Bool.and_eq_true,Bool.not_eq_true'] at q
   obtain ⟨⟨q1,q2⟩,⟨q3,q4⟩,q5,q6⟩:=q
   obtain ⟨nm,bs,mro,ns,qn,hd,sn,sub,ab,col,del⟩:=cd
   obtain ⟨lst⟩:=sl
   dsimp only at em q3 q5 q6 es
   subst q1 q2 em q3 es
   have hN:h.Ns ns _ := .of_isNs (isNs_of_in In q5)
   exact ⟨bm,ns,nm,qn,bs,hd,sn,sub,ab,col,dd,k0,k1,k2,k3,k5,_,In _ _ lk,hN,YbZ In hN q6,tail_of_in In q4⟩
abbrev W1 (a0:Value):Array Value:=#[a0,.none,.none,.none,.bool false,.none]
section
variable {prog:Program} {w:World} {A:Around} {E:Value→Shared→Prop} {h:Heap} {g:Array GenState} {d:Drawn} {t:Nat} {os:OsState}
variable {nm q:Str} {C N:Addr} {bs bm bmB:List Value} {hdct:Bool} {sn:List Str} {sub:List Value} {ab:Bool} {col:Option Bool} {dd:Option Addr} {k0 k1 k2 k3 k5:Option Value} {B newId initId:String}
theorem QC (F:ExcBaseFacts B newId initId bmB) (T:OwnTail h bmB bm) {mN:Str→Option Value} {Y8:List Value} {fI:Addr} {oI:Obj} {Q:Fin→Shared→Prop}
  (hC:h.get? C=some (excClassObj nm q C N bs bm hdct sn sub ab col dd k0 k1 k2 k3 k5 newId)) (hn:h.Ns N mN) (hi:mN "__init__"=some (.ref fI))
  (hfI:h.get? fI=some oI) (hfc:oI.cls = .type "function")
  (hq:∀ h' e,Heap.MadeExcOf h h' e (.ref C) Y8→e=h.objs.size+1 →
   wpAny (model prog w) A (call (.ref fI) (.ref e::Y8)) (fun r s'=>r = .none∧Q (.done (.ret (.ref e))) s') E ⟨h',g,d,t,os⟩) (hrest:Y8.length≤sizeLine) :
  wpAny (model prog w) A (Builtin.«type.__call__» ⟨.ref C::Y8,[]⟩) Q E ⟨h,g,d,t,os⟩:=by
 repeat (first | with_reducible refine wpAny_loadPart_at hC ?_ | with_reducible refine wpAny_madeBy_exc hC ?_ | wp_step)
 refine codeAny_call_builtin_code (Code.quiet_builtin _ F.quiet) (wpAny_check_new_subT F T hC ?_)
 refine codeAny_exc_new_subT F T hC ?_ hrest
 show wpAny _ _ _ _ _ _
 have keep:∀ b o,h.get? b=some o→((h.push { cls := .type "tuple",data := .seq Y8.toArray }).push { cls := .ref C,data := .fields #[.ref h.objs.size,.none,.none,.none,.bool false,.none] }).get? b=some o :=
  fun b o e=>Heap.get?_push_of_some _ (Heap.get?_push_of_some _ e)
 have hget:((h.push { cls := .type "tuple",data := .seq Y8.toArray }).push
   { cls := .ref C,data := .fields #[.ref h.objs.size,.none,.none,.none,.bool false,.none] }).get? (h.objs.size+1)=some
   { cls := .ref C,data := .fields #[.ref h.objs.size,.none,.none,.none,.bool false,.none] }:=by heap_get
 have hC₁:=keep _ _ hC
 have hn₁:=hn.keeps keep
 have hcC:(Value.ref C::bm).contains (.ref C)=true:=by simp
 have T₁:=T.keeps keep
 unfold isInstance
 repeat (first | with_reducible refine wpAny_loadPart_at hget ?_ | (with_reducible refine wpAny_isSubtype_exc hC₁ ?_;rw [hcC]) | wp_step)
 show wpAny _ _ (typeLookup (.ref C) _) _ _ _
 refine wpAny_typeLookup_tail hC₁ hn₁ T₁ F.mroIs F.init.lookup ?_
 rw [hi]
 refine wpAny_holding (wpAny_bind ?_)
 unfold bindSpecial
 refine wpAny_bind (wpAny_typeOf (T:="function") ⟨_,keep _ _ hfI,hfc⟩ ?_)
 rw [if_pos (by decide)]
 refine wpAny_pure (wpAny_bind (wpAny_mono (hq _ (h.objs.size+1) ⟨keep,Heap.get?_none_of_le (Nat.le_succ _),h.objs.size,hget,Heap.get?_none_of_le (Nat.le_refl _),?_⟩ rfl) (fun r s' hr=>?_) fun _ _ x=>x))
 ·exact Heap.get?_push_of_some _ (Heap.get?_push_at rfl rfl)
 ·obtain ⟨rfl,hQ⟩:=hr
  wp_walk
  exact hQ
theorem exc_make_call (F:ExcBaseFacts B newId initId bmB) (T:OwnTail h bmB bm) {mN:Str→Option Value} {Y8:List Value} {fI:Addr} {oI:Obj} {Q:Value→Shared→Prop}
  (hC:h.get? C=some (excClassObj nm q C N bs bm hdct sn sub ab col dd k0 k1 k2 k3 k5 newId)) (hn:h.Ns N mN) (hi:mN "__init__"=some (.ref fI))
  (hfI:h.get? fI=some oI) (hfc:oI.cls = .type "function")
  (hq:∀ h' e,Heap.MadeExcOf h h' e (.ref C) Y8→e=h.objs.size+1 →
   wpAny (model prog w) (A.under (.builtin "type.__call__" ⟨.ref C::Y8,[]⟩)) (call (.ref fI) (.ref e::Y8)) (fun r s'=>r = .none∧Q (.ref e) s') E ⟨h',g,d,t,os⟩) (hrest:Y8.length≤sizeLine) :
  wpAny (model prog w) A (call (.ref C) Y8) Q E ⟨h,g,d,t,os⟩:=by
 have f1:=tc_lookup
 have f2:=tc_bind (.ref C)
 have hT:(⟨h,g,d,t,os⟩:Shared).TypeIs (.ref C) "type":=⟨_,hC,rfl⟩
 refine wpAny_call (codeAny_of_tree ?_)
 show wpAny _ _ (callAny (.ref C) _) _ _ _
 repeat (any_goals (first | assumption | with_reducible refine wpAny_loadPart_at hC ?_ | wp_step))
 refine ⟨rfl,?_⟩
 exact codeAny_call_builtin_at (Code.quiet_builtin _ (by decide +kernel)) entry_typeCall (wpAny_check_type_call_sub hC (QC F T hC hn hi hfI hfc (fun h' e hm he=>hq h' e hm he) hrest))
theorem exc_base_init (F:ExcBaseFacts B newId initId bmB) (T:OwnTail h bmB bm) {e:Addr} {dc:Option Addr} {sl:Array (Option Value)} {t0:Addr} {m:Value} {Q:Value→Shared→Prop}
  (hC:h.get? C=some (excClassObj nm q C N bs bm hdct sn sub ab col dd k0 k1 k2 k3 k5 newId)) (he:h.get? e=some ⟨.ref C,dc,.fields (W1 (.ref t0)),sl⟩)
  (hq:∀ h' T,h'.get? e=some ⟨.ref C,dc,.fields (W1 (.ref T)),sl⟩→(∀ b o,b≠e→h.get? b=some o→h'.get? b=some o)→Q .none ⟨h',g,d,t,os⟩) :
  wpAny (model prog w) A (call (.builtin initId) [.ref e,m]) Q E ⟨h,g,d,t,os⟩:=by
 refine wpAny_call (codeAny_call_builtin F.init.plain F.initEntry (wpAny_check_init_subT F T hC he rfl ?_))
 have he1:(h.push { cls := .type "tuple",data := .seq [m].toArray }).get? e=some ⟨.ref C,dc,.fields (W1 (.ref t0)),sl⟩:=Heap.get?_push_of_some _ he
 wp_walk
 refine hq _ h.objs.size ((Heap.get?_update_self _ he1 rfl).trans rfl) fun b o hb eb=>?_
 exact (Heap.get?_update_other _ _ (Ne.symm hb)).trans (Heap.get?_push_of_some _ eb)
end
section
variable {M:Model} {A:Around} {E:Value→Shared→Prop} {env:Env}
variable {nm q:Str} {C N:Addr} {bs bm bmB:List Value} {hdct:Bool} {sn:List Str} {sub:List Value} {ab:Bool} {col:Option Bool} {dd:Option Addr} {k0 k1 k2 k3 k5:Option Value} {B newId initId:String}
theorem Vi {s:Shared} {x:Sem Value} {Q:Flow→Shared→Prop} (hbase:bm.contains (.type "BaseException")=true) (hh:A.handled=none)
  (h:wpAny M A x (fun v s₁=>∃ e dc t0 sl,v = .ref e∧s₁.heap.get? C=some (excClassObj nm q C N bs bm hdct sn sub ab col dd k0 k1 k2 k3 k5 newId)∧s₁.heap.get? e=some ⟨.ref C,dc,.fields (W1 (.ref t0)),sl⟩∧E (.ref e) s₁) E s) :
  wpAny M A (raiseStmt env (some x) none) Q E s:=by
 have hcB:(Value.ref C::bm).contains (.type "BaseException")=true:=by rw [List.contains_cons,hbase,Bool.or_true]
 unfold raiseStmt
 refine wpAny_bind (wpAny_mono h (fun v s₁ h₁=>?_) fun _ _ x=>x)
 obtain ⟨e,dc,t0,sl,rfl,hC,he,hE⟩:=h₁
 obtain ⟨hp,g,d,tk,os⟩:=s₁
 repeat (first | with_reducible refine wpAny_loadPart_at he ?_ | with_reducible refine wpAny_loadPart_at hC ?_ | (with_reducible refine wpAny_isSubtype_exc hC ?_;rw [hcB]) | wp_step)
 exact wpAny_raiseNew_none hh hE
end
section
variable {prog:Program} {w:World} {A:Around} {E:Value→Shared→Prop} {s:Shared} {env:Env}
variable {nm q:Str} {C N:Addr} {bs bm bmB:List Value} {hdct:Bool} {sn:List Str} {sub:List Value} {ab:Bool} {col:Option Bool} {dd:Option Addr} {k0 k1 k2 k3 k5:Option Value} {B newId initId:String}
theorem exc_raise_call {x:Str} {np cpos pos:Pos} {args:List Expr} {Q:Flow→Shared→Prop}
  (hbase:bm.contains (.type "BaseException")=true) (hh:A.handled=none) (hplain:(backTo cpos (starEach args env)).any (·.1)=false)
  (h:wpAny (model prog w) A (eval (.Name x np) env) (fun f s₁=>f = .ref C∧wpAny (model prog w) A (evalArgs (.ref C) true (backTo cpos (starEach args env)) [])
   (fun a s₂=>a.kw=[]∧s₂.heap.get? C=some (excClassObj nm q C N bs bm hdct sn sub ab col dd k0 k1 k2 k3 k5 newId) ∧
    wpAny (model prog w) A (call (.ref C) a.pos) (fun v s₃=>∃ e dc t0 sl,v = .ref e∧s₃.heap.get? C=some (excClassObj nm q C N bs bm hdct sn sub ab col dd k0 k1 k2 k3 k5 newId)∧s₃.heap.get? e=some ⟨.ref C,dc,.fields (W1 (.ref t0)),sl⟩∧E (.ref e) s₃) E s₂) E s₁) E s) :
  wpAny (model prog w) A (exec (.Raise (some (.Call (.Name x np) args [] cpos)) none pos) env) Q E s:=by
 rw [arm_exec_Raise]
 first
  | refine wpAny_bind (wpAny_standAt (Vi (C:=C) (nm:=nm) (q:=q) (N:=N) (bs:=bs) (bm:=bm) (hdct:=hdct) (sn:=sn) (sub:=sub) (ab:=ab) (col:=col) (dd:=dd) (k0:=k0) (k1:=k1) (k2:=k2) (k3:=k3) (k5:=k5) (newId:=newId) hbase hh (wpAny_bind (wpAny_mono (wpAny_Call_ofName (wpAny_mono h (fun f s₁ h₁=>?_) fun _ _ x=>x)) (fun v s₃ h₃=>wpAny_bind (wpAny_standAt (wpAny_pure h₃))) fun _ _ x=>x))))
  | (refine wpAny_bind (wpAny_standAt (Vi (C:=C) (nm:=nm) (q:=q) (N:=N) (bs:=bs) (bm:=bm) (hdct:=hdct) (sn:=sn) (sub:=sub) (ab:=ab) (col:=col) (dd:=dd) (k0:=k0) (k1:=k1) (k2:=k2) (k3:=k3) (k5:=k5) (newId:=newId) hbase hh ?_));refine wpAny_bind (wpAny_mono (wpAny_Call_ofName (wpAny_mono h (fun f s₁ h₁=>?_) fun _ _ x=>x)) (fun v s₃ h₃=>wpAny_bind (wpAny_standAt (wpAny_pure h₃))) fun _ _ x=>x))
 obtain ⟨rfl,h₁⟩:=h₁
 unfold callWith
 refine wpAny_bind (wpAny_holding (wpAny_mono h₁ (fun a s₂ h₂=>wpAny_bind (wpAny_standAt ?_)) fun _ _ x=>x))
 obtain ⟨apos,akw⟩:=a
 obtain ⟨hkw,hC,h₂⟩:=h₂
 obtain rfl:akw=[]:=hkw
 obtain ⟨hp,g,d,tk,os⟩:=s₂
 simp only [hplain]
 refine wpAny_bind (wpAny_keeperOf_exc hC ?_)
 exact wpAny_bind (wpAny_mono h₂ (fun v s₃ h₃=>wpAny_bind (wpAny_holding (wpAny_point (wpAny_pure h₃)))) fun _ _ x=>x)
end
end PySem.W
namespace L2
open PySem PySem.Spec PyProof.Rows
open PySem.W (W1)
def XO (a:Addr) (cls:Value) (dc:Option Addr):HO := .ext fun h=>∃ t0 sl,h.get? a=some ⟨cls,dc,.fields (W1 (.ref t0)),sl⟩
def del (H:Hp) (a:Addr):Hp:=fun b=>if b=a then none else H b
theorem YdL {H:Hp} {a:Addr}:del H a a=none:=by unfold del;rw [if_pos rfl]
theorem WO {H:Hp} {a b:Addr} (h:b≠a):del H a b=H b:=by unfold del;rw [if_neg h]
theorem Yfh {H:Hp} {a b:Addr} {o:HO} (h:del H a b=some o):b≠a∧H b=some o:=by
 unfold del at h
 split at h
 ·cases h
 ·exact ⟨‹_›,h⟩
section
variable {P:Program} {w:World} {H:Hp} {h:Heap} {a t0:Addr} {cls:Value} {dc:Option Addr} {sl:Array (Option Value)}
theorem U8 (q:h.get? a=some ⟨cls,dc,.fields (W1 (.ref t0)),sl⟩):YM P w H h a (XO a cls dc):=⟨⟨t0,sl,q⟩,⟨_,q⟩,fun h1 h2 ⟨t,sl,p⟩ k=>⟨t,sl,k _ p⟩⟩
end
section
variable {X:Cx} {pins:List (Addr×Obj)} {σ:St} {H:Hp} {s:Shared} {e:Addr} {cls:Value} {M:Model} {A:Around} {Q:Unit→Shared→Prop} {EE:Value→Shared→Prop} {dc:Option Addr}
theorem Inv.leave_excN (I:Inv X pins σ H s) (hs:X.stack=X.env::X.outer) (hf:X.env.frame=some X.env.locals) (hex:X.ex=[]) (hA:A.frames=some (X.env::X.outer)) (he:H e=some (XO e cls dc)) (hnew:X.s₀.heap.get? e=none)
  (hQ:∀ h'' B,Fly X.prog X.w X.outer X.H₀ X.s₀.heap e cls (del H e) h'' B→XJ h'' e dc→Q () { s with heap:=h'' }):wpAny M A (leaving X.env (.ref e)) Q EE s:=by
 have nx:∀ b:Addr,b∉X.ex:=by
  rw [hex]
  intro b z
  cases z
 have st:=I.stack
 have sf:=I.stkFree
 rw [hs] at st sf
 obtain ⟨⟨t0,sl,q0⟩,_,_⟩:=I.hok e _ he
 have hne:∀ b o,X.s₀.heap.get? b=some o→b≠e:=fun b o q z=>by rw [z,hnew] at q;cases q
 have hd0:XJ s.heap e dc:=⟨_,q0,rfl⟩
 have hstays:(PySem.W.hideAll s.heap (e::frs (X.env::X.outer))).StaysIn s.heap:=fun b o q=>PySem.W.of_hideAll _ q
 refine wpAny_mono (WM (VV _ _) hd0 (wpAny_leaving_firstW (Q:=fun _ s'=>∃ h'',s'={ s with heap:=h'' }∧Fly X.prog X.w X.outer X.H₀ X.s₀.heap e cls (del H e) h'' (PySem.W.hideAll s.heap (e::frs (X.env::X.outer)))) (a0 := .ref t0) (base:=PySem.W.hideAll s.heap (e::frs (X.env::X.outer))) hA (PySem.W.funFrames_hide st fun env he a ha=>List.mem_cons_of_mem _ (List.mem_filterMap.mpr ⟨env,he,ha⟩)) hf q0 hstays (PySem.W.hideAll_none _ (List.mem_cons_self ..)) rfl rfl rfl fun h'' hL=>⟨h'',rfl,?_⟩)) (fun _ s' z=>by
  obtain ⟨⟨h'',rfl,F⟩,d⟩:=z
  exact hQ h'' _ F d) fun _ _ z=>z.1
 obtain ⟨k1,⟨_,_,k2⟩,k3,k4⟩:=hL
 have notIn:∀ b o,X.s₀.heap.get? b=some o→b∉frs X.outer→b∉e::frs (X.env::X.outer):=fun b o q nb z=>by
  rcases List.mem_cons.mp z with z | z
  ·exact hne b o q z
  ·exact I.notStk hf q nb z
 refine ⟨⟨_,k1,PySem.W.hideAll_none _ (List.mem_cons_self ..),k2,k3⟩,fun b u q=>?_,fun b o q n nb=>PySem.W.hideAll_get _ (I.base.keep b o q n nb (nx b)) (notIn b o q nb),fun b o q n hb=>?_,fun b o q nb=>?_,fun b o q n=>?_,fun b xs q=>?_,fun b o u q=>?_,fun b ps q=>?_⟩
 ·obtain ⟨nb,q⟩:=Yfh q
  refine (I.hok b u q).stay (fun c v hc r=>PySem.W.hideAll_get _ r fun z=>?_) (fun c r=>?_) fun c xs r=>?_
  ·rcases List.mem_cons.mp z with z | z
   ·subst z
    rcases hc with hc | hc
    ·exact nb hc.symm
    ·rw [he] at hc;cases hc
   ·have n:=sf c z
    rcases hc with rfl | hc
    ·rw [n] at q;cases q
    ·rw [n] at hc;cases hc
  ·rw [WO fun z=>by rw [z,he] at r;cases r];exact r
  ·rw [WO fun z=>by rw [z,he] at r;cases r];exact r
 ·obtain ⟨sl,e1⟩:=I.base.slot b o q n hb (nx b)
  obtain ⟨_,o',e',d⟩:=I.ok.funs.mem hb
  rw [q] at e'
  cases e'
  obtain ⟨sl',e2⟩:=k4 b _ e1 d
  exact ⟨sl',e2⟩
 ·obtain ⟨o',e1⟩:=I.base.there b o q (nx b)
  exact ⟨o',PySem.W.hideAll_get _ e1 (notIn b o q nb)⟩
 ·rw [WO (hne b o q)];exact I.base.free b o q n (nx b)
 ·have z:=I.base.tups b xs q
  rw [WO fun y=>by rw [y,he] at z;cases z];exact z
 ·have z:=I.base.frzs b o u q
  rw [WO fun y=>by rw [y,he] at z;cases z];exact z
 ·obtain ⟨m,z⟩:=I.base.tbls b ps q
  exact ⟨m,by rw [WO fun y=>by rw [y,he] at z;cases z];exact z⟩
end
def Ybk (X:Cx) (E:XK):Prop:=∀ (pins:List (Addr×Obj)) (σ:St) (H:Hp) (s:Shared) (e:Addr) (cls:Value) (dc:Option Addr),Inv X pins σ H s→H e=some (XO e cls dc)→(∀ o,X.s₀.heap.get? e=some o→e∈X.ex)→E cls dc (del H e)→X.xe (.ref e) s
section
variable {g:Gx} {N:List Str} {qual:Str} {st:Stmt} {f:Addr} {cdv:Value} {A:Around} {outer:List Env} {s:Shared} {H:Hp} {E:XK}
theorem Yfi:Ybk (g.cxX N qual st f cdv A outer s H E) E:=by
 intro pins σ H1 s1 e cls dc I he hn q
 exact I.leave_excN rfl rfl rfl I.ok.frames he (by
  cases hq:s.heap.get? e with
  | none=>exact hq
  | some o=>exact absurd (hn o hq) (by simp [W4])) fun h'' B F hd=>⟨e,cls,del H1 e,B,dc,rfl,I.os,I.bare,F,hd,q⟩
end
def X6 (a:Addr) (fs:List (Str×V)):HO := .ext fun h=>∃ mA,h.Ns1 a mA∧(∀ f,Vp (fs.lookup f) (mA f))∧PySem.Within mA (fs.map (·.1))
structure MkX (K:PySem.W.Frag) (C f:Addr):Prop where
 own:PySem.W.excOwn K C UQ "ValueError.__new__" f=true
 fn:PySem.W.isFn K (.ref f)=true
section
variable {X:Cx} {pins:List (Addr×Obj)} {σ:St} {H:Hp} {s:Shared} {C f:Addr} {k:Nat} {fd:FuncData} {ps:List Str} {sp:Sp} {ds:List Value} {dvs:List V} {E:XK} {CX:CXT}
theorem YdM {Q:VK} {us:List Value} {vs:List V} (M:MkX X.K C f) (F:FnOk X.prog X.w X.K X.mg X.base CX k f fd ps sp) (hr:Room (k+1) X.A) (hb:XC X.K fd ps ds) (hd:Yu dvs ds)
  (hx:Vb CX X E) (I:Inv X pins σ H s) (r:Yu vs us) (hz:us.length≤sizeLine)
  (h:∀ x,H x=none→s.heap.get? x=none→sp (.ref x::(vs++dvs)) (upd H x (XO x (.ref C) none)) (fun v H2=>v = .non∧Q (.ref x) H2) E) :
  wpAny (model X.prog X.w) X.A (call (.ref C) us) (EP X pins σ Q) X.xe s:=by
 obtain ⟨bm,ns,nm,qn,bs,hdd,sn,sub,ab,col,dd,k0,k1,k2,k3,k5,mN,hO,hN,hi,T⟩:=PySem.W.excOwn_obj I.kIn M.own
 obtain ⟨oI,ho,hoc⟩:=Option.map_eq_some_iff.mp (beq_iff_eq.mp M.fn)
 obtain ⟨hh,gg,dr,tk,os⟩:=s
 refine PySem.W.exc_make_call PySem.F.excBase_ValueError T hO hN hi (I.kIn _ _ ho) hoc (fun h' x hm ex=>?_) hz
 obtain ⟨t0,he,_,_⟩:=hm.there
 have hq:=h x (I.hok.fresh (by rw [ex];exact Nat.le_succ _)) hm.new
 have I2:Inv X pins σ (upd H x (XO x (.ref C) none)) ⟨h',gg,dr,tk,os⟩:=I.laid (t':=tk) (a:=x) (o:=XO x (.ref C) none) (fun b u q=>hm.keeps b u q) (by rw [ex];exact Nat.le_succ _) (U8 he)
 have r2:Yu (V.ref x::(vs++dvs)) (Value.ref x::(us++ds)) := .cons rfl (r.append hd)
 have hl:(Value.ref x::us++ds).length=ps.length:=by
  have e:=r2.length
  rw [F.len _ _ _ _ hq] at e
  exact e.symm
 refine wpAny_call (codeAny_mono (F.run _ X.stack _ _ ⟨Value.ref x::us,[]⟩ (Value.ref x::(us++ds)) _ _ E (hr.make C us []) (I2.env0.make C us []) (hb _ (Value.ref x::us) I2.kIn hl) r2 hq) fun r s' hq'=>?_)
 cases r with
 | error e=>exact hx pins σ _ _ e s' I2 hq'
 | ok fl =>
  cases fl with
  | ret u =>
   obtain ⟨v,H',I3,rv,ev,q3⟩:=I2.after hq'
   subst ev
   exact ⟨rv,⟨V.ref x,H',I3,rfl,q3⟩⟩
  | next=>exact False.elim hq'
  | brk=>exact False.elim hq'
  | cont=>exact False.elim hq'
end
structure ExFl (K:PySem.W.Frag) (C C':Addr):Prop where
 hd:PySem.W.hasDictIn K C=true
 ln:PySem.W.excLine K C C'=true
 sa:PySem.W.findIn K (.ref C) "__setattr__"=some (some (.builtin "object.__setattr__"))
section
variable {P:Program} {w:World} {H:Hp} {h:Heap} {a:Addr} {fs:List (Str×V)} {mA:Str→Option Value}
theorem Ybl (n:h.Ns1 a mA) (r:∀ f,Vp (fs.lookup f) (mA f)) (wi:PySem.Within mA (fs.map (·.1))):YM P w H h a (X6 a fs):=by
 obtain ⟨od,es,ep,e,c⟩:=id n
 exact ⟨⟨mA,n,r,wi⟩,⟨od,e⟩,fun h1 h2 ⟨mB,⟨od,es,ep,e,c⟩,r,wi⟩ k=>⟨mB,⟨od,es,ep,k _ e,c⟩,r,wi⟩⟩
end
section
variable {X:Cx} {pins:List (Addr×Obj)} {σ:St} {H:Hp} {s:Shared} {C C' a d:Addr} {f:Str} {y:V} {u:Value} {Q:Unit→Shared→Prop} {A:Around} {E:Value→Shared→Prop} {fs:List (Str×V)}
theorem YdN (I:Inv X pins σ H s) (c:ExFl X.K C C') (na:PySem.W.findIn X.K (.ref C) f=some none) (e:H a=some (XO a (.ref C) none)) (ry:YC y u)
  (h:∀ d s',H d=none→d≠a→Inv X pins σ (upd (upd H d (X6 d [(f,y)])) a (XO a (.ref C) (some d))) s'→Q () s'):wpAny (model X.prog X.w) A (setAttr (.ref a) f u) Q E s:=by
 obtain ⟨⟨t0,sl,q0⟩,_,_⟩:=I.hok a _ e
 refine PySem.W.exset_new I.kIn q0 rfl rfl rfl c.hd c.ln na c.sa fun h' n1 ha hk=>?_
 have hfr:H s.heap.objs.size=none:=I.hok.fresh (Nat.le_refl _)
 have hne:s.heap.objs.size≠a:=fun z=>by rw [z,e] at hfr;cases hfr
 have ned:∀ b o,s.heap.get? b=some o→b≠s.heap.objs.size:=fun b o q=>Nat.ne_of_lt (Heap.lt_size q)
 have nea:∀ b,H b=none→b≠a:=fun b q z=>by rw [z,e] at q;cases q
 have oth:∀ b o,H b=some o→b≠a→(upd (upd H s.heap.objs.size (X6 s.heap.objs.size [(f,y)])) a (XO a (.ref C) (some s.heap.objs.size))) b=some o:=fun b o q n=>by
  rw [Ym n,Ym (YK q hfr)];exact q
 refine h _ _ hfr hne (I.un (t':=s.toks+2) ⟨fun b o q n _ _=>hk b o (nea b n) q,fun b o q n _ _=>⟨o.slots,hk b o (nea b n) q⟩,fun b o q n _=>?_,fun b o q _=>?_,fun b xs q=>?_,fun b o u q=>?_,fun b ps q=>?_⟩ fun b o q=>?_)
 ·rw [Ym (nea b n),Ym (ned b o q)];exact n
 ·by_cases z:b=a
  ·subst z;exact ⟨_,ha⟩
  ·exact ⟨o,hk b o z q⟩
 ·exact oth b _ q fun z=>by rw [z,e] at q;cases q
 ·exact oth b _ q fun z=>by rw [z,e] at q;cases q
 ·exact ⟨#[],by rw [Array.append_empty];exact oth b _ q fun z=>by rw [z,e] at q;cases q⟩
 ·by_cases z:b=a
  ·subst z
   rw [Yh] at q
   cases q
   exact U8 ha
  ·rw [Ym z] at q
   by_cases z2:b=s.heap.objs.size
   ·subst z2
    rw [Yh] at q
    cases q
    refine Ybl n1 (fun g=>?_) fun g hg=>?_
    ·by_cases eg:g=f
     ·subst eg
      rw [if_pos rfl]
      show Vp (List.lookup g [(g,y)]) _
      simp only [List.lookup,beq_self_eq_true]
      exact ry
     ·rw [if_neg eg]
      have:(g==f)=false:=by simp [eg]
      simp only [List.lookup,this]
      exact True.intro
    ·by_cases eg:g=f
     ·subst eg;simp
     ·rw [if_neg eg] at hg;exact absurd rfl hg
   ·rw [Ym z2] at q
    refine (I.hok b o q).stay (fun c v hc r=>hk c v (fun zc=>?_) r) (fun c r=>?_) fun c xs r=>?_
    ·subst zc
     rcases hc with hc | hc
     ·exact z hc.symm
     ·rw [e] at hc;cases hc
    ·exact oth c _ r fun zc=>by rw [zc,e] at r;cases r
    ·exact oth c _ r fun zc=>by rw [zc,e] at r;cases r
theorem YcX (I:Inv X pins σ H s) (c:ExFl X.K C C') (na:PySem.W.findIn X.K (.ref C) f=some none) (e:H a=some (XO a (.ref C) (some d))) (ed:H d=some (X6 d fs)) (hl:fs.length<1000) (hne:d≠a) (ry:YC y u)
  (h:∀ s',Inv X pins σ (upd H d (X6 d (Ww f y fs))) s'→Q () s'):wpAny (model X.prog X.w) A (setAttr (.ref a) f u) Q E s:=by
 obtain ⟨⟨t0,sl,q0⟩,_,_⟩:=I.hok a _ e
 obtain ⟨⟨mA,n1,r,wi⟩,_,_⟩:=I.hok d _ ed
 have hz:(fs.map (·.1)).length≤sizeLine:=by rw [List.length_map,sizeLine_eq];omega
 refine PySem.W.exset_more I.kIn q0 rfl rfl rfl n1 hne c.hd c.ln na c.sa wi hz fun h' n2 sb=>?_
 obtain ⟨od,es,ep,eo,co⟩:=id n2
 refine h _ (I.write (t':=s.toks+2) (x:=d) (e:=d) (by rw [ed];exact True.intro) (.inl rfl) (fun b q hb z=>(sb.2 b hb).trans z) ⟨od,eo⟩ (Ybl n2 (fun g=>?_) fun g hg=>?_))
 ·rw [Uh]
  by_cases q:g=f
  ·rw [if_pos q,if_pos q];exact ry
  ·rw [if_neg q,if_neg q];exact r g
 ·by_cases q:g=f
  ·rw [q];exact (VO f y fs).1
  ·refine (VO f y fs).2 g (wi g fun z=>hg ?_)
   show (if g=f then some u else mA g)=none
   rw [if_neg q];exact z
end
structure BInit (g:Gx) (x:Str) (B:Addr):Prop where
 bound:g.mg x=some (.ref B)
 ga:PySem.W.specialIn g.K (.ref B) "__getattribute__"=some (some (.builtin "type.__getattribute__"))
 rd:PySem.W.readsIn g.K B (.type "type")=true
 at_:PySem.W.findCls g.K (.ref B) (.type "type") "__init__"=some (.val (.builtin "ValueError.__init__"))
def tBI (C:Addr) (t:TA):TE:=fun σ H Q=>t σ H fun vs H1=>∃ a m dc,vs=[.ref a,m]∧H1 a=some (XO a (.ref C) dc)∧Q .non H1
def sFx (C:Addr) (ta tv:TE) (f:Str):TS:=fun D σ H=>tv σ H fun y H1=>ta σ H1 fun x H2=>∃ a,x = .ref a∧((H2 a=some (XO a (.ref C) none)∧∀ d,H2 d=none→d≠a→D.nx σ (upd (upd H2 d (X6 d [(f,y)])) a (XO a (.ref C) (some d)))) ∨
 ∃ d fs,H2 a=some (XO a (.ref C) (some d))∧H2 d=some (X6 d fs)∧fs.length<1000∧d≠a∧D.nx σ (upd H2 d (X6 d (Ww f y fs))))
def tFx (C:Addr) (ta:TE) (f:Str):TE:=fun σ H Q=>ta σ H fun x H1=>∃ a d fs v,x = .ref a∧H1 a=some (W6 a (.ref C) (some d))∧H1 d=some (X6 d fs)∧fs.lookup f=some v∧Q v H1
def spI (C:Addr) (fs:List Str):Sp:=fun vs H Q _=>∃ e us,vs = .ref e::us∧us.length=fs.length∧H e=some (XO e (.ref C) none)∧∀ d,H d=none→d≠e→Q .non (upd (upd H d (X6 d (fs.zip us))) e (XO e (.ref C) (some d)))
def Gx.RawX (g:Gx) (x:Str) (C:Addr) (qual:Str) (st:Stmt) (ps:List Str):Prop:=∃ f fd,Fun g.K "__init__" qual st f fd∧XC g.K fd ps []∧MkX g.K C f∧g.mg x=some (.ref C)
def Gx.MaX (g:Gx) (x:Str) (C:Addr) (ps fs:List Str):Prop:=∃ f fd,FnOk g.P g.w g.K g.mg g.base CX0 1 f fd ps (spI C fs)∧XC g.K fd ps []∧MkX g.K C f∧g.mg x=some (.ref C)
theorem Gx.RawX.maX {g:Gx} {x qual:Str} {C:Addr} {st:Stmt} {N ps fs:List Str} (R:g.RawX x C qual st ps) (S:FnScope N ps (Yn st)) (len:∀ vs H Q E,spI C fs vs H Q E→vs.length=ps.length) (b:Q5 g 0 N qual st (spI C fs)):g.MaX x C ps fs:=by
 obtain ⟨f,fd,F,bd,hm,hg⟩:=R
 exact ⟨f,fd,F.ok S len fun cdv A outer s H vs Q E hr h=>b f cdv A outer s H vs Q E hr h,bd,hm,hg⟩
theorem YeB {K:PySem.W.Frag} {h:Heap} {mg:Str→Option Value} {f C:Addr} {x qual:Str} {st:Stmt} {oc kV dc pm cd ct:Value} {od an:Option Addr} {sl:Array (Option Value)} (X:K.In h) (G:h.Ns mainGlobals mg) (ps:List Str) (aC:PySem.W.nsIn K mainGlobals x=some (some (.ref C)))
  (a:PySem.W.findIn K (.ref C) "__init__"=some (some (.ref f))) (o:PySem.W.excOwn K C UQ "ValueError.__new__" f=true) (i:PySem.W.isFn K (.ref f)=true) (l:K.lookup f=some ⟨oc,od,.func (PySem.W.fnOf "__init__" qual (Xv st) (Xa st) (Yn st) .none kV dc pm an cd ct),sl⟩) (c:PySem.W.codeIn K cd qual=true) (k:PySem.W.keepIn K (.ref f)=true)
  (b:∀ (kV doc pm:Value) (an:Option Addr) (cdv ct:Value) (us:List Value),us.length=ps.length→bindArgs (PySem.W.fnOf "__init__" qual (Xv st) (Xa st) (Yn st) .none kV doc pm an cdv ct) ⟨us,[]⟩=pure (ps.zip us)) :
  ∀ P w base,(Gx.mk P w K mg base).RawX x C qual st ps:=fun P w base =>
 have F:=UI (st:=st) l c k
 ⟨f,_,F,F.binds b,⟨o,i⟩,PySem.W.mg_of X G aC⟩
theorem Gx.RawX.own {g:Gx} {x qual:Str} {C:Addr} {st:Stmt} {ps:List Str} (R:g.RawX x C qual st ps):∃ f,PySem.W.excOwn g.K C UQ "ValueError.__new__" f=true:=by
 obtain ⟨f,_,_,_,M,_⟩:=R
 exact ⟨f,M.own⟩
section
variable {g:Gx} {X:Cx} {k j:Nat} {x m f:Str} {ps:List Str} {sp:Sp} {e o value:Expr} {es:List Expr} {t:TA} {ta tv:TE} {p pos apos pos' np cpos:Pos} {C C' B:Addr} {E:XK} {fs:List Str}
theorem YdO {pl:Sem Bool} (b:BInit g x B) (M:∃ fI,PySem.W.excOwn g.K C UQ "ValueError.__new__" fI=true) (ha:PA X (e::es) t) (hX:X.gx=g:=by rfl) (hg:Gl X x:=by rfl) (hdb:(x==("__debug__":Str))=false:=by decide)
  (hst:starEach (e::es) X.env=(false,eval e X.env)::starEach es X.env:=by rfl) (hpl:(backTo pos (starEach es X.env)).any (·.1)=false:=by rfl)
  (ht:eval (.Call (.Attribute (.Name x p) "__init__" apos) (e::es) [] pos) X.env=(do
   let ov ← eval (.Name x p) X.env
   standAt apos.atName
   let (f,first) ← holding [ov] (getMethod ov "__init__" pl)
   callWith pos f first (backTo pos (starEach (e::es) X.env)) (backToKw pos (keywordEach [] X.env))):=by rfl):PE X (.Call (.Attribute (.Name x p) "__init__" apos) (e::es) [] pos) (tBI C t):=by
 subst hX
 obtain ⟨fI,M⟩:=M
 intro pins s σ H Q I h
 refine PySem.W.methodCall_KW (pl:=pl) (thn (YcP (g:=X.gx) (pos:=p) b.bound rfl hg hdb pins s σ H (fun v H1=>v = .ref B∧H1=H) I ⟨rfl,rfl⟩) fun u s1 ⟨v,H1,I1,rv,e1,e2⟩=>?_) ht
 subst e1 e2
 obtain rfl:u=Value.ref B:=rv
 refine PySem.W.method_cls I1.kIn b.ga (PySem.W.cls_value I1.kIn b.rd b.at_ rfl ?_)
 have I2:=I1.tok (s1.toks+1)
 refine PyProof.Rows.callWith_builtin1 (thn (ha pos pins _ σ H1 _ I2 h) fun us s2 ⟨vs,H2,I3,r,a,mm,dc,ev,he,q⟩=>?_) hst hpl
 subst ev
 obtain ⟨u1,u2,rfl,r1,r2⟩:=YbI r
 obtain rfl:u1=Value.ref a:=r1
 obtain ⟨bm,ns,nm,qn,bs,hdd,sn,sub,ab,col,dd,k0,k1,k2,k3,k5,mN,hO,hN,hi,T⟩:=PySem.W.excOwn_obj I3.kIn M
 obtain ⟨⟨t0,sl,q0⟩,_,_⟩:=I3.hok a _ he
 obtain ⟨hh,gg,dr,tk,os⟩:=s2
 refine PySem.W.exc_base_init PySem.F.excBase_ValueError T hO q0 fun h' T' e1 hk=>⟨.non,H2,?_,rfl,q⟩
 have I4:=I3.write (t':=tk) (h':=h') (x:=a) (e:=a) (o:=XO a (.ref C) dc) (by rw [he];exact True.intro) (.inl rfl) (fun b u hb z=>hk b u hb z) ⟨_,e1⟩ (U8 e1)
 rw [Ye7 he] at I4
 exact I4
theorem YeC (c:ExFl g.K C C') (na:PySem.W.findIn g.K (.ref C) f=some none) (ha:PE X o ta) (hv:PE X value tv) (hX:X.gx=g:=by rfl) (hs:swapsWith value (some (.Attribute o f pos')) pos.line X.env=pure false:=by rfl):PS X (.Assign [.Attribute o f pos'] value pos) (sFx C ta tv f):=by
 subst hX
 intro pins s σ H D I h
 refine plainObj_wpAny_Assign_Attribute (thn (hv pins s σ H _ I h) fun u s1 ⟨y,H1,I1,ry,q⟩=>thn (ha pins s1 σ H1 _ I1 q) fun ov s2 ⟨x,H2,I2,rx,a,ex,q2⟩=>?_) hs
 subst ex
 obtain rfl:ov=Value.ref a:=rx
 rcases q2 with ⟨e0,q2⟩ | ⟨d,fs,e0,e1,l,ne,q2⟩
 ·exact YdN I2 c na e0 ry fun d s3 n1 n2 I3=>⟨σ,_,I3,q2 d n1 n2⟩
 ·exact YcX I2 c na e0 e1 l ne ry fun s3 I3=>⟨σ,_,I3,q2⟩
theorem pe_fx (T:ExcT g.K C) (na:PySem.W.findIn g.K (.ref C) f=some none) (he:PE X e ta) (hX:X.gx=g) (hb:attributeBase e f X.env (eval e X.env)=eval e X.env):PE X (.Attribute e f pos) (tFx C ta f):=by
 subst hX
 intro pins s σ H Q I h
 refine Yeh hb (thn (he pins s σ H _ I h) fun u s1 ⟨x,H1,I1,rx,a,d,fs,v,ex,ea,ed,l,q⟩=>?_)
 subst ex
 obtain rfl:u=Value.ref a:=rx
 obtain ⟨⟨o,vs,h1,h2,h3,h4⟩,_⟩:=(show YM X.prog X.w H1 s1.heap a (W6 a (.ref C) (some d)) from I1.hok a _ ea)
 obtain ⟨⟨mA,n1,r,wi⟩,_⟩:=(show YM X.prog X.w H1 s1.heap d (X6 d fs) from I1.hok d _ ed)
 obtain ⟨u,hu,ru⟩:=Vp.some_of (v:=v) (o:=mA f) (by rw [← l];exact r f)
 obtain ⟨hh,gg,dr,tk,os⟩:=s1
 exact PySem.W.exatt_attr I1.kIn T.hd h1 h2 (fun c z=>by rw [h3] at z;cases z) h4 n1.ns hu (PySem.W.handedOut_of (Ycw ru)) T.hb na T.hga T.hgt ⟨v,H1,I1.tok _,ru,q⟩
theorem VI {K:PySem.W.Frag} (T:ExcT K C) (h:X.K=K:=by rfl):Xk X (.builtin "isinstance") (fun xs H Q=>∃ a c cv b dc,xs=[.ref a,c]∧Vt c=some cv∧H a=some (W6 a (.ref C) dc)∧PySem.W.kitOne K (.ref C) cv=some b∧Q (.bl b) H):=by
 subst h
 intro pins s σ H xs us Q I r h
 obtain ⟨a,c,cv,b,dc,rfl,ec,ha,e,q⟩:=h
 obtain ⟨u,w',rfl,ru,rw'⟩:=YbI r
 have ew:w'=cv:=by
  cases c with
  | ty n=>cases (show w'=Value.type n from rw');simpa [Vt] using ec
  | ref a=>cases (show w'=Value.ref a from rw');simpa [Vt] using ec
  | _=>simp [Vt] at ec
 subst ew
 cases (show u=Value.ref a from ru)
 obtain ⟨⟨o,vs,h1,h2,_⟩,_⟩:=(show YM X.prog X.w H s.heap a (W6 a (.ref C) dc) from I.hok a _ ha)
 exact PySem.W.kia_one (PySem.W.kitx_exc T.hd T.hm T.hb T.ha T.hga T.hgt) I.kIn ⟨o,h1,h2⟩ e (fun z=>nomatch z) fun tk=>⟨.bl b,H,I.tok tk,rfl,q⟩
def U9 (C:Addr) (fs:List Str) (E:XK) (t:TA):TS:=fun _ σ H=>t σ H fun vs H1=>vs.length=fs.length∧vs.length≤1000∧∀ d,H1 d=none→E (.ref C) (some d) (upd H1 d (X6 d (fs.zip vs)))
theorem YcY (F:g.MaX x C ps fs) (hr:Room k X.A) (hR:Ybk X E) (ha:PA X (e::es) t) (hj:2≤k) (hc:X.calm=true) (hX:X.gx=g) (hg:Gl X x) (hdb:(x==("__debug__":Str))=false)
  (he:starEach (e::es) X.env=(false,eval e X.env)::starEach es X.env) (hpl:(backTo cpos (starEach es X.env)).any (·.1)=false) :
  PS X (.Raise (some (.Call (.Name x np) (e::es) [] cpos)) none pos) (U9 C fs E t):=by
 subst hX
 obtain ⟨f,fd,F,bd,M,hm⟩:=F
 intro pins s σ H D I h
 obtain ⟨bm,ns,nm,qn,bs,hd,sn,sub,ab,col,dd,k0,k1,k2,k3,k5,mN,hO,hN,hi,T⟩:=PySem.W.excOwn_obj I.mod.kin M.own
 refine PySem.W.exc_raise_call (C:=C) (nm:=nm) (q:=qn) (N:=ns) (bs:=bs) (bm:=bm) (hdct:=hd) (sn:=sn) (sub:=sub) (ab:=ab) (col:=col) (dd:=dd) (k0:=k0) (k1:=k1) (k2:=k2) (k3:=k3) (k5:=k5) (newId:="ValueError.__new__")
  (T.hasType PySem.F.excBase_ValueError.hasBase) (I.ok.hd hc) ?_ (WE I hg hm ⟨rfl,?_⟩ hdb)
 ·rw [he]
  show (false||(backTo cpos (starEach es X.env)).any (·.1))=false
  rw [hpl];rfl
 ·have a1:=ha cpos pins s σ H _ I h
  rw [he] at a1 ⊢
  refine Calls.evalArgs_plain (wpAny_mono a1 (fun us s2 hz=>?_) fun _ _ y=>y)
  obtain ⟨vs,H2,I2,r,q0,q1,q2⟩:=hz
  refine ⟨rfl,I2.bk _ _ hO,wpAny_mono (YdM (Q:=fun v H3=>∃ e dc,v = .ref e∧(∀ o,X.s₀.heap.get? e=some o→e∈X.ex)∧H3 e=some (XO e (.ref C) dc)∧E (.ref C) dc (del H3 e)) (dvs:=[]) M F (hr.mono hj) bd .nil QF I2 r (by rw [← r.length,sizeLine_eq];omega) fun e n1 n2=>?_) (fun v s3 z=>?_) fun _ _ y=>y⟩
  ·have hs0:∀ o,X.s₀.heap.get? e=some o→e∈X.ex:=fun o hq=>Classical.byContradiction fun z=>by
    obtain ⟨o',z⟩:=I2.base.there e o hq z
    rw [n2] at z
    cases z
   refine ⟨e,vs,by rw [List.append_nil],q0,Yh,fun d m1 m2=>⟨rfl,e,some d,rfl,hs0,Yh,?_⟩⟩
   rw [Ym m2] at m1
   have:=q2 d m1
   refine Eq.mp (congrArg (E (.ref C) (some d)) (funext fun b=>?_)) this
   by_cases hb:b=e
   ·subst hb
    rw [YdL,Ym (Ne.symm m2)]
    exact n1
   ·rw [WO hb,Ym hb]
    by_cases hbd:b=d
    ·subst hbd;rw [Yh,Yh]
    ·rw [Ym hbd,Ym hbd,Ym hb]
  ·obtain ⟨v',H3,I3,rv,e,dc,ev,hs0,he3,q3⟩:=z
   subst ev
   obtain rfl:v=Value.ref e:=rv
   obtain ⟨⟨t0,sl,q5⟩,_,_⟩:=I3.hok e _ he3
   exact ⟨e,dc,t0,sl,rfl,I3.bk _ _ hO,q5,hR pins σ H3 s3 e _ dc I3 he3 hs0 q3⟩
end
theorem YeD {C:Addr} {fs ps:List Str} {vs:List V} {H:Hp} {Q:VK} {E:XK} (h:spI C fs vs H Q E) (hp:ps.length=fs.length+1:=by rfl):vs.length=ps.length:=by
 obtain ⟨e,us,rfl,l,_⟩:=h
 rw [hp,List.length_cons,l]
theorem spI_1 {C:Addr} {f n0 n1 m:Str} {vs:List V} {H:Hp} {Q:VK} {E:XK} (h:spI C [f] vs H Q E) :
  Wv (QD (tBI C (WV (Wd 0) (WV (tC (.str m)) Uo)))) (sFx C (Wd 0) (Wd 1) f) { nx:=fun _ H'=>Q .non H',rt:=Q } (start [n0,n1] vs) H:=by
 obtain ⟨e,us,rfl,l,he,q⟩:=h
 obtain ⟨u,rfl⟩:∃ u,us=[u]:=by
  match us,l with
  | [u],_=>exact ⟨u,rfl⟩
 refine ⟨_,rfl,e,_,_,rfl,he,?_⟩
 refine ⟨_,rfl,_,rfl,e,rfl,.inl ⟨he,fun d m1 m2=>q d m1 m2⟩⟩
end L2
namespace L2
open PySem PySem.Spec PyProof.Rows
mutual
theorem Den.noDict {K:PySem.W.Frag} {H:Hp}:∀ {v:V} {d:PyData},Den K H v d→d.hasDict=false
 | _,_,.non=>rfl
 | _,_,.bl _=>rfl
 | _,_,.int _=>rfl
 | _,_,.str _ _=>rfl
 | _,_,.lst _ hs=>hs.noDict
 | _,_,.tup _ hs=>hs.noDict
theorem Dens.noDict {K:PySem.W.Frag} {H:Hp}:∀ {vs:List V} {ds:List PyData},Dens K H vs ds→PyData.hasDictAll ds=false
 | _,_,.nil=>rfl
 | _,_,.cons h hs=>by
  show (_||_)=false
  rw [h.noDict,hs.noDict]
  rfl
end
section
variable {X:Cx} {k:Nat}
theorem YcZ (hr:Room k X.A):Xk X (.builtin "repr") (fun xs H Q=>∃ a d,xs=[.ref a]∧Den X.K H (.ref a) d∧d.showable=true∧d.depth≤100∧d.shown.length≤sizeLine∧Q (.str d.shown) H):=by
 intro pins s σ H xs us Q I r h
 obtain ⟨a,d,rfl,hd,hs,dp,hz,q⟩:=h
 obtain ⟨u,rfl,ru⟩:=Wg r
 cases (show u=Value.ref a from ru)
 obtain ⟨as,ra⟩:=hd.reads I ru
 have hn:=hd.noDict
 have hun:=hr.un
 exact repr_of_reads' ra hs (fun z=>by rw [hn] at z;cases z) hr.gd (by omega) (fun _ _ e=>e) (fun h' u tk hk=>⟨.str d.shown,H,I.kept hk,⟨_,rfl⟩,q⟩) hz
end
theorem YdP {K:PySem.W.Frag} {h:Heap} {mg:Str→Option Value} {x:Str} {B:Addr} (X:K.In h) (G:h.Ns mainGlobals mg) (a:PySem.W.nsIn K mainGlobals x=some (some (.ref B))) (ga:PySem.W.specialIn K (.ref B) "__getattribute__"=some (some (.builtin "type.__getattribute__"))) (rd:PySem.W.readsIn K B (.type "type")=true) (at_:PySem.W.findCls K (.ref B) (.type "type") "__init__"=some (.val (.builtin "ValueError.__init__"))) :
  ∀ P w base,BInit (Gx.mk P w K mg base) x B:=fun _ _ _=>⟨PySem.W.mg_of X G a,ga,rd,at_⟩
end L2
namespace L2
open PySem PySem.Spec PyProof.Rows
structure Lent (H Hz:Hp) (h:Heap) (cs:List Addr):Prop where
 one:∀ b∈cs,∃ o u,Hz b=some (.frz o u)∧h.get? b=some o∧H b=none
 oth:∀ b,b∉cs→Hz b=H b
section
variable {P:Program} {w:World} {H Hz H':Hp} {h h' B:Heap} {cs fs:List Addr}
theorem Lent.out (L:Lent H Hz h cs) {b:Addr} {o:HO} (e:H b=some o):b∉cs:=fun z=>by
 obtain ⟨_,_,_,_,n⟩:=L.one b z
 rw [n] at e
 cases e
theorem Lent.get (L:Lent H Hz h cs) {b:Addr} {o:HO} (e:H b=some o):Hz b=some o:=by rw [L.oth b (L.out e)];exact e
theorem Ut (x:HOk P w H' h') (z:∀ b∈cs,∃ o u,H' b=some (.frz o u)):HOk P w (off H' cs) h':=fun b o e=>by
 obtain ⟨e1,e2⟩:=YcS e
 refine (x b o e1).stay (fun _ _ _ q=>q) (fun c q=>?_) fun c xs q=>?_
 ·rw [YS fun hc=>by obtain ⟨_,_,y⟩:=z c hc;rw [y] at q;cases q]
  exact q
 ·rw [YS fun hc=>by obtain ⟨_,_,y⟩:=z c hc;rw [y] at q;cases q]
  exact q
theorem Lent.un (L:Lent H Hz h cs) (u:Un fs [] Hz H' h h') (hok:HOk P w H' h') (nf:∀ b∈cs,b∉fs):Un fs [] H (off H' cs) h h':=by
 have z:∀ {b:Addr} {o:HO},H b=some o→b∉cs:=fun e=>L.out e
 refine ⟨fun b o e n hf hx=>?_,fun b o e n hf hx=>?_,fun b o e n hx=>?_,u.there,fun b xs e=>?_,fun b o x e=>?_,fun b ps e=>?_⟩
 ·by_cases hb:b∈cs
  ·obtain ⟨o1,u1,y1,y2,_⟩:=L.one b hb
   rw [e] at y2
   cases y2
   exact (hok b _ (u.frzs b _ _ y1)).1
  ·exact u.keep b o e ((L.oth b hb).trans n) hf hx
 ·exact u.slot b o e ((L.oth b fun hb=>nf b hb hf).trans n) hf hx
 ·by_cases hb:b∈cs
  ·exact Wt hb
  ·rw [YS hb]
   exact u.free b o e ((L.oth b hb).trans n) hx
 ·rw [YS (z e)]
  exact u.tups b xs (L.get e)
 ·rw [YS (z e)]
  exact u.frzs b o x (L.get e)
 ·rw [YS (z e)]
  exact u.tbls b ps (L.get e)
theorem Lent.behind (L:Lent H Hz h cs) (u:Un fs [] Hz H' h h'):∀ b∈cs,∃ o v,H' b=some (.frz o v):=fun b hb=>by
 obtain ⟨o1,u1,y1,_⟩:=L.one b hb
 exact ⟨o1,u1,u.frzs b _ _ y1⟩
theorem Lent.fly {l:List Env} {e:Addr} {cls:Value} (L:Lent H Hz h cs) (F:Fly P w l Hz h e cls H' h' B) (nf:∀ b∈cs,b∉frs l):Fly P w l H h e cls (off H' cs) h' B:=by
 have z:∀ {b:Addr} {o:HO},H b=some o→b∉cs:=fun e=>L.out e
 have bh:∀ b∈cs,∃ o v,H' b=some (.frz o v):=fun b hb=>by
  obtain ⟨o1,u1,y1,_⟩:=L.one b hb
  exact ⟨o1,u1,F.frzs b _ _ y1⟩
 refine ⟨F.fl,Ut F.hok bh,fun b o q n hf=>?_,fun b o q n hf=>F.slot b o q ((L.oth b fun hb=>nf b hb hf).trans n) hf,F.al,fun b o q n=>?_,fun b xs q=>?_,fun b o x q=>?_,fun b ps q=>?_⟩
 ·by_cases hb:b∈cs
  ·obtain ⟨o1,u1,y1,y2,_⟩:=L.one b hb
   rw [q] at y2
   cases y2
   exact (F.hok b _ (F.frzs b _ _ y1)).1
  ·exact F.keep b o q ((L.oth b hb).trans n) hf
 ·by_cases hb:b∈cs
  ·exact Wt hb
  ·rw [YS hb]
   exact F.free b o q ((L.oth b hb).trans n)
 ·rw [YS (z q)]
  exact F.tups b xs (L.get q)
 ·rw [YS (z q)]
  exact F.frzs b o x (L.get q)
 ·rw [YS (z q)]
  exact F.tbls b ps (L.get q)
end
def W2 (H Hz:Hp) (l:YE):Prop:=(∀ p∈l,∃ o,Hz p.2.1=some (.frz o (Vw p.2.1 p.2.2))∧H p.2.1=none)∧∀ b,b∉l.as→Hz b=H b
def Wn (H:Hp) (h:Heap):YE→Hp
 | []=>H
 | p::l=>match h.get? p.2.1 with
  | some o=>upd (Wn H h l) p.2.1 (.frz o (Vw p.2.1 p.2.2))
  | none=>Wn H h l
section
variable {X:Cx} {pins:List (Addr×Obj)} {σ:St} {H:Hp} {s:Shared}
theorem WP {h:Heap} {b:Addr}:∀ {l:YE},b∉l.as→Wn H h l b=H b
 | [],_=>rfl
 | p::l,hb=>by
  have h1:b≠p.2.1:=fun z=>hb (by rw [z];exact .head _)
  have h2:b∉YE.as l:=fun z=>hb (.tail _ z)
  cases e:h.get? p.2.1 with
  | some o =>
   have hz:Wn H h (p::l)=upd (Wn H h l) p.2.1 (.frz o (Vw p.2.1 p.2.2)):=by
    show (match h.get? p.2.1 with | some o=>_ | none=>_)=_
    rw [e]
   rw [hz,Ym h1]
   exact WP h2
  | none =>
   have hz:Wn H h (p::l)=Wn H h l:=by
    show (match h.get? p.2.1 with | some o=>_ | none=>_)=_
    rw [e]
   rw [hz]
   exact WP h2
theorem Ybm (I:Inv X pins σ H s) {l:YE} (hc:Wl X σ l) {p:Str×Addr×V} (hp:p∈l):H p.2.1=none∧∃ o u,s.heap.get? p.2.1=some o∧YC p.2.2 u∧s.heap.IsCell p.2.1 (some u):=by
 obtain ⟨i,h1,h2,h3,h4⟩:=hc.2 p hp
 obtain ⟨m,hn,hl⟩:=I.loc
 obtain ⟨u,r,lk⟩:=hl i p.1 p.2.2 h1 h2 (.inr (.inl h3))
 rcases lk with ⟨k,_⟩ | ⟨_,c,hc,hcell⟩
 ·rw [h3] at k;cases k
 ·rw [h4] at hc
  cases hc
  obtain ⟨o,e1,e2⟩:=id hcell
  exact ⟨I.freeC p.1 p.2.1 h4,o,u,e1,r,hcell⟩
theorem Ybn (I:Inv X pins σ H s):∀ {l:YE},Wl X σ l→W2 H (Wn H s.heap l) l∧Lent H (Wn H s.heap l) s.heap l.as∧HOk X.prog X.w (Wn H s.heap l) s.heap
 | [],_=>⟨⟨(fun p hp=>nomatch hp),fun _ _=>rfl⟩,⟨(fun b hb=>nomatch hb),fun _ _=>rfl⟩,I.hok⟩
 | p::l,h=>by
  have nd':=List.nodup_cons.mp h.1
  obtain ⟨⟨a1,a2⟩,⟨b1,b2⟩,ok⟩:=Ybn I (l:=l) ⟨nd'.2,fun q hq=>h.2 q (.tail _ hq)⟩
  obtain ⟨n,o,u,e,r,hcell⟩:=Ybm I h (.head _)
  have hz:Wn H s.heap (p::l)=upd (Wn H s.heap l) p.2.1 (.frz o (Vw p.2.1 p.2.2)):=by
   show (match s.heap.get? p.2.1 with | some o=>_ | none=>_)=_
   rw [e]
  have hne:∀ q∈l,q.2.1≠p.2.1:=fun q hq z=>nd'.1 (by
   have:q.2.1∈YE.as l:=List.mem_map_of_mem (f:=fun p:Str×Addr×V=>p.2.1) hq
   rw [z] at this
   exact this)
  rw [hz]
  refine ⟨⟨fun q hq=>?_,fun b hb=>?_⟩,⟨fun b hb=>?_,fun b hb=>?_⟩,ok.track ((WP nd'.1).trans n) ⟨e,YdF r hcell⟩⟩
  ·rcases List.mem_cons.mp hq with rfl | hq
   ·exact ⟨o,Yh,n⟩
   ·obtain ⟨o',y1,y2⟩:=a1 q hq
    exact ⟨o',by rw [Ym (hne q hq)];exact y1,y2⟩
  ·rw [Ym fun z=>hb (by rw [z];exact .head _)]
   exact a2 b fun z=>hb (.tail _ z)
  ·by_cases z:b=p.2.1
   ·subst z
    exact ⟨o,_,Yh,e,n⟩
   ·rw [Ym z]
    have:b∈YE.as l:=by
     rcases List.mem_cons.mp (show b∈p.2.1::YE.as l from hb) with y | y
     ·exact absurd y z
     ·exact y
    exact b1 b this
  ·rw [Ym fun z=>hb (by rw [z];exact .head _)]
   exact b2 b fun z=>hb (.tail _ z)
theorem Yae (I:Inv X pins σ H s) {l:YE} (hc:Wl X σ l) (hfn:∀ x,X.fn x=true) {b:Addr} (hb:b∈l.as):X.s₀.heap.objs.size≤b∧b≠X.env.locals:=by
 obtain ⟨p,hp,rfl⟩:=XL hb
 obtain ⟨i,h1,h2,h3,h4⟩:=hc.2 p hp
 exact ⟨I.ok.cab _ _ (hfn _) h4,I.cne _ _ h4⟩
theorem YeE (I:Inv X pins σ H s) (hs:X.stack=X.env::X.outer) (hf:X.env.frame=some X.env.locals) {l:YE} (hc:Wl X σ l) (hfn:∀ x,X.fn x=true):∀ b∈l.as,b∉frs X.stack:=fun b hb z=>by
 obtain ⟨n1,n2⟩:=Yae I hc hfn hb
 rw [hs] at z
 unfold frs at z
 rw [List.filterMap_cons,hf] at z
 rcases List.mem_cons.mp z with z | z
 ·exact n2 z
 ·obtain ⟨_,o,e,_⟩:=I.ok.funs.mem z
  exact absurd (Nat.lt_of_lt_of_le (Heap.lt_size e) n1) (Nat.lt_irrefl _)
end
section
variable {X:Cx} {CX:CXT} {k:Nat} {f:Addr} {fd:FuncData} {ps:List Str} {sp:Sp} {E:XK} {pins:List (Addr×Obj)} {σ:St} {H:Hp} {s:Shared} {Q:VK} {us:List Value} {vs:List V} {l:YE}
theorem YdQ (F:FnOk X.prog X.w X.K X.mg X.base CX k f fd ps sp) (hr:Room k X.A) (hb:XC X.K fd ps []) (hs:X.stack=X.env::X.outer) (hf:X.env.frame=some X.env.locals) (hfn:∀ x,X.fn x=true)
  (hx:∀ Hz e s',Lent H Hz s.heap l.as→(∀ b∈l.as,b∉frs X.stack)→CX X.stack Hz s (fun c d H'=>E c d (off H' l.as)) e s'→X.xe e s')
  (I:Inv X pins σ H s) (hc:Wl X σ l) (r:Yu vs us) (h:∀ Hz,W2 H Hz l→sp vs Hz (fun v H'=>Q v (off H' l.as)) fun c d H'=>E c d (off H' l.as)):wpAny (model X.prog X.w) X.A (call (.ref f) us) (EP X pins σ Q) X.xe s:=by
 obtain ⟨L1,L2,ok⟩:=Ybn I hc
 have nf:=YeE I hs hf hc hfn
 have hsp:=h _ L1
 have hl:us.length=ps.length:=by rw [← r.length];exact F.len _ _ _ _ hsp
 have e0:Env0 X.prog X.w X.K X.mg X.base X.A X.stack s (Wn H s.heap l):=by
  have e:=I.env0
  refine ⟨e.frames,e.mod,fun b o q=>⟨(e.bs b o q).1,?_⟩,e.bsz,e.funs,fun b q=>?_,ok,e.bare⟩
  ·rw [WP fun z=>?_]
   ·exact (e.bs b o q).2
   ·have n1:=(Yae I hc hfn z).1
    have:=I.ok.bsz
    exact absurd (Nat.lt_of_lt_of_le (Heap.lt_size q) (Nat.le_trans this n1)) (Nat.lt_irrefl _)
  ·rw [WP fun z=>nf b z q]
   exact e.frf b q
 refine wpAny_call (codeAny_mono (F.run X.A X.stack s _ ⟨us,[]⟩ us vs _ _ hr e0 (by have:=hb s us I.kIn (by rw [List.append_nil];exact hl);rwa [List.append_nil] at this) r hsp) fun r s' hq=>?_)
 cases r with
 | error e=>exact hx _ e s' L2 nf hq
 | ok fl =>
  cases fl with
  | ret u =>
   obtain ⟨v,H',os,bare,un,hok,rv,q⟩:=hq
   exact I.after ⟨v,off H' l.as,os,bare,L2.un un hok nf,Ut hok (L2.behind un),rv,q⟩
  | next=>exact False.elim hq
  | brk=>exact False.elim hq
  | cont=>exact False.elim hq
end
theorem Yb0 {g:Gx} {N:List Str} {qual:Str} {st:Stmt} {f:Addr} {cdv:Value} {A:Around} {outer:List Env} {s0:Shared} {H0:Hp} {E:XK} {pins:List (Addr×Obj)} {σ:St} {H:Hp} {s:Shared} {cs:List Addr}
  (I:Inv (g.cxX N qual st f cdv A outer s0 H0 E) pins σ H s):∀ Hz e s',Lent H Hz s.heap cs→(∀ b∈cs,b∉frs (g.cxX N qual st f cdv A outer s0 H0 E).stack)→CXF g.P g.w (g.cxX N qual st f cdv A outer s0 H0 E).stack Hz s (fun c d H'=>E c d (off H' cs)) e s'→(g.cxX N qual st f cdv A outer s0 H0 E).xe e s':=by
 rintro Hz e s' L nf ⟨a,cls,H',B,dc,rfl,os,bare,F,hd,q⟩
 exact Y3 pins σ H s _ s' I ⟨a,cls,off H' cs,B,dc,rfl,os,bare,L.fly F nf,hd,q⟩
def YE.Z (l:YE) (H:Hp):Prop:=∀ p∈l,∃ o,H p.2.1=some (.frz o (Vw p.2.1 p.2.2))
theorem W2.z {H Hz:Hp} {l:YE} (h:W2 H Hz l):l.Z Hz:=fun p hp=>by
 obtain ⟨o,z,_⟩:=h.1 p hp
 exact ⟨o,z⟩
theorem YE.Z.keep {l:YE} {H H':Hp} (h:l.Z H) (s:Yf H H'):l.Z H':=fun p hp=>by
 obtain ⟨o,z⟩:=h p hp
 exact ⟨o,s _ _ z⟩
def ClZ (H:Hp) (f c:Addr) (fd:FuncData) (qual:Str) (l:YE):Prop:=H f=some (FnO f fd)∧H c=some (CdO c qual)∧l.Z H
theorem ClZ.keep {H H':Hp} {f c:Addr} {fd:FuncData} {qual:Str} {l:YE} (h:ClZ H f c fd qual l) (s:Yf H H'):ClZ H' f c fd qual l:=⟨s _ _ h.1,s _ _ h.2.1,h.2.2.keep s⟩
section
variable {P:Program} {w:World} {K:PySem.W.Frag} {mg:Str→Option Value} {base:Heap} {N ps:List Str} {qual:Str} {scope:Scope} {f c:Addr} {A:Around} {outer:List Env} {s:Shared} {H:Hp} {l:YE} {cd:Value}
theorem Yfj {Q:VK} {v:V} {u:Value} {σ':St} {H':Hp} {s':Shared} (e0:Env0 P w K mg base A outer s H) (hin:l.Z H) (J:Inv (YbV P w K mg base N qual scope f cd l.cl A outer s (off H l.as)) [] σ' H' s') (hlk:∀ p∈l,l.cl.lookup p.1=some p.2.1) (rv:YC v u) (q:(∀ c∈l.as,H' c=none)→Q v (on H' H l.as)) :
  CE outer P w H s Q u s':=by
 have un:=J.base
 have zc:∀ {b:Addr},b∈l.as→∃ o u,H b=some (.frz o u):=fun hm=>by
  obtain ⟨p,hp,rfl⟩:=XL hm
  obtain ⟨o,z⟩:=hin p hp
  exact ⟨o,_,z⟩
 have nin:∀ {b:Addr},H b=none→b∉l.as:=fun hb hm=>by
  obtain ⟨o,u,z⟩:=zc hm
  rw [z] at hb;cases hb
 have out:∀ {b:Addr} {o:HO},H b=some o→(∀ x u,o ≠ .frz x u)→b∉l.as:=fun hb no hm=>by
  obtain ⟨o,u,z⟩:=zc hm
  rw [z] at hb
  exact no _ _ (Option.some.inj hb).symm
 have freeC:∀ c∈l.as,H' c=none:=fun c hc=>by
  obtain ⟨p,hp,rfl⟩:=XL hc
  exact J.freeC p.1 p.2.1 (hlk p hp)
 refine ⟨v,on H' H l.as,J.os,J.bare,⟨fun b o e n hb hx=>un.keep b o e (X5 n) hb hx,fun b o e n hb hx=>un.slot b o e (X5 n) hb hx,fun b o e n hx=>?_,fun b o e hx=>un.there b o e hx,fun b xs e=>?_,fun b o u e=>?_,fun b ps e=>?_⟩,fun b o e=>?_,rv,q freeC⟩
 ·rw [Wu (nin n)]
  exact un.free b o e (X5 n) hx
 ·have h1:=out e fun _ _ z=>by cases z
  rw [Wu h1]
  exact un.tups b xs ((YS h1).trans e)
 ·by_cases hb:b∈l.as
  ·rw [YbU hb];exact e
  ·rw [Wu hb]
   exact un.frzs b o u ((YS hb).trans e)
 ·have h1:=out e fun _ _ z=>by cases z
  rw [Wu h1]
  exact un.tbls b ps ((YS h1).trans e)
 ·by_cases hb:b∈l.as
  ·rw [YbU hb] at e
   obtain ⟨p,hp,rfl⟩:=XL hb
   obtain ⟨ob,z⟩:=hin p hp
   rw [z] at e
   cases e
   obtain ⟨ho,y1,y2,y3⟩:=e0.hok _ _ z
   have hk:=un.keep _ _ ho (Wt hb) (fun hf=>by have:=e0.frf _ hf;rw [z] at this;cases this) (by intro z;exact absurd (show p.2.1∈([]:List Addr) from z) (by simp))
   exact ⟨hk,y3 _ _ y1 fun o q=>by rw [ho] at q;cases q;exact hk,⟨ob,hk⟩,y3⟩
  ·rw [Wu hb] at e
   refine (J.hok b o e).stay (fun _ _ _ q=>q) (fun c q=>?_) fun c xs q=>?_
   ·rw [Wu fun hc=>?_]
    ·exact q
    ·rw [freeC c hc] at q;cases q
   ·rw [Wu fun hc=>?_]
    ·exact q
    ·rw [freeC c hc] at q;cases q
end
theorem YeF {P:Program} {w:World} {K:PySem.W.Frag} {mg:Str→Option Value} {base:Heap} {k:Nat} {f c:Addr} {qual:Str} {params:Arguments} {body:Expr} {scope:Scope} {pm ctv:Value} {N ps:List Str} {l:YE} {sp:List V→Hp→VK→Prop}
  (S:ClScope N ps (l.map (·.1)) scope) (hnd:l.as.Nodup) (len:∀ vs H Q,sp vs H Q→vs.length=ps.length)
  (hbody:∀ (A:Around) (outer:List Env) (s:Shared) (H:Hp) (vs:List V) (Q:VK),Room k (A.deeper (PySem.W.envX qual scope s.heap.objs.size f (.ref c) l.cl))→sp vs H Q →
   ∃ t,PE (YbV P w K mg base N qual scope f (.ref c) l.cl A outer s H) body t∧t (US N vs l.vs) H Q) :
  FnOk P w K mg base CX0 (k+1) f (PySem.W.kla_fn "<lambda>" qual params body scope l.cl pm (.ref c) ctv) ps
   (fun vs H Q _=>ClZ H f c (PySem.W.kla_fn "<lambda>" qual params body scope l.cl pm (.ref c) ctv) qual l∧sp vs (off H l.as) fun v H'=>(∀ c∈l.as,H' c=none)→Q v (on H' H l.as)):=by
 refine ⟨fun vs H Q E h=>len _ _ _ h.2,fun A outer s H args us vs Q E hr e0 hb r hsp=>?_⟩
 obtain ⟨⟨hf,hc,hin⟩,hsp⟩:=hsp
 have hl:=len _ _ _ hsp
 have lim:s.heap.NoLimit:=e0.mod.nolimit.keeps fun b o e=>(e0.bs b o e).1
 have hfo:=(e0.hok _ _ hf).1
 have hco:s.heap.CodeRec (.ref c) qual:=(e0.hok _ _ hc).1
 refine PySem.W.kla_callFunE hr.depth hfo rfl S.co S.gen rfl hco (hb _ _ _ _ ?_)
 refine wpAny_newFunctionEnv S.nocell (fun y hy=>S.par y.1 (List.of_mem_zip hy).1) (fun h₁ hns hsb=>?_) S.kind
 have hk₁:∀ b o,s.heap.get? b=some o→h₁.get? b=some o:=fun b o e=>hsb.extBut b o (Nat.ne_of_lt (Heap.lt_size e)) (Heap.get?_push_of_some _ e)
 refine ⟨lim.keeps hk₁,PySem.W.kla_codeExpr ?_⟩
 obtain ⟨t,ht,hq⟩:=hbody A outer s (off H l.as) vs _ (hr.deeper _) hsp
 have zc:∀ b∈l.as,∃ o u,H b=some (.frz o u):=fun b hm=>by
  obtain ⟨p,hp,rfl⟩:=XL hm
  obtain ⟨o,z⟩:=hin p hp
  exact ⟨o,_,z⟩
 have I:=YbW (cd := .ref c) (qual:=qual) (f:=f) (tk:=s.toks+(ps.zip us).length) S hnd hr.hd e0 hl r (fun p hp=>by
  obtain ⟨o,z⟩:=hin p hp
  exact (e0.hok _ _ z).2.1) (Ut e0.hok zc) hns hk₁
 have lk:=Yaa (l:=l) (by rw [← S.suf];exact S.nd.sublist (List.drop_sublist _ _))
 refine wpAny_mono (ht [] _ _ _ _ I hq) (fun u s' hs=>?_) fun e s' hs=>hs.elim
 obtain ⟨v,H',J,rv,q⟩:=hs
 exact Yfj e0 hin J lk rv q
def Yb1 (X:Cx) (sp:Sp) (E:XK) (t:TA):TE:=fun σ H Q=>t σ H fun vs H1=>∃ l,Wl X σ l∧((∀ c∈l.as,H1 c=none)→∀ Hz,W2 H1 Hz l→sp vs Hz (fun v H'=>Q v (off H' l.as)) fun c d H'=>E c d (off H' l.as))
theorem Yaf {g:Gx} {N:List Str} {qual:Str} {st:Stmt} {f:Addr} {cdv:Value} {A:Around} {outer:List Env} {s0:Shared} {H0:Hp} {E:XK} {j k:Nat} {x:Str} {ps:List Str} {sp:Sp} {e:Expr} {es:List Expr} {t:TA} {p pos:Pos} (F:g.FnX j x ps sp) (hr:Room k (g.cxX N qual st f cdv A outer s0 H0 E).A) (ha:PA (g.cxX N qual st f cdv A outer s0 H0 E) (e::es) t) (hj:j≤k) (hg:Gl (g.cxX N qual st f cdv A outer s0 H0 E) x) (hdb:(x==("__debug__":Str))=false)
  (he:starEach (e::es) (g.cxX N qual st f cdv A outer s0 H0 E).env=(false,eval e (g.cxX N qual st f cdv A outer s0 H0 E).env)::starEach es (g.cxX N qual st f cdv A outer s0 H0 E).env) (hpl:(backTo pos (starEach es (g.cxX N qual st f cdv A outer s0 H0 E).env)).any (·.1)=false) :
  PE (g.cxX N qual st f cdv A outer s0 H0 E) (.Call (.Name x p) (e::es) [] pos) (Yb1 (g.cxX N qual st f cdv A outer s0 H0 E) sp E t):=by
 obtain ⟨f',fd,F,b,kp,hm⟩:=F
 intro pins s σ H Q I h
 refine wpAny_Call_Name_kw (WE I hg hm ?_ hdb)
 refine PySem.W.callWith_K (h₀:=(g.cxX N qual st f cdv A outer s0 H0 E).base) I.ok.mod.kin kp (thn (ha pos pins s σ H _ I h) fun us s1 ⟨vs,H1,I1,r,l,hc,q⟩=>⟨I1.kIn,?_⟩) he hpl
 exact YdQ F (hr.mono hj) b rfl rfl (fun _=>rfl) (Yb0 I1) I1 hc r (q fun c hcc=>by
  obtain ⟨p,hp,rfl⟩:=XL hcc
  exact (Ybm I1 hc hp).1)
theorem Gx.RawT.fnX {g:Gx} {k:Nat} {x qual:Str} {st:Stmt} {N ps:List Str} {c:Addr} {sp:Sp} (R:g.RawT x qual st ps c) (S:FnScope N ps (Yn st)) (len:∀ vs H Q E,sp vs H Q E→vs.length=ps.length)
  (b:∀ (f:Addr) (A:Around) (outer:List Env) (s:Shared) (H:Hp) (vs:List V) (Q:VK) (E:XK),Room k (g.cxX N qual st f (.ref c) A outer s H E).A→sp vs H Q E →
   ∃ t,PSs (g.cxX N qual st f (.ref c) A outer s H E) (Xa st) t∧t { nx:=fun _ H'=>Q .non H',rt:=Q } (start N vs) H):g.FnX (k+1) x ps sp:=by
 obtain ⟨f,fd,F,bd,hm,hc⟩:=R
 refine ⟨f,fd,?_,bd,F.kp,hm⟩
 obtain ⟨oc,od,kV,doc,pm,an,cdv,ct,osl,rfl,lk,hcd⟩:=F.ex
 have hc':cdv = .ref c:=hc
 subst hc'
 exact YbL lk hcd S len fun A outer s H vs Q E hr h=>b f A outer s H vs Q E hr h
def lendE (s:Stmt):Expr:=match s with
 | .Return (some (.Subscript (.Call _ as _ _) _ _)) _=>as.getLastD (.Constant .none 0 ⟨0,0,0,0⟩)
 | _ => .Constant .none 0 ⟨0,0,0,0⟩
end L2
namespace L2
open PySem
mutual
inductive DL (H:Hp):V→PyData→List Addr→Prop
 | non:DL H .non .none []
 | bl (b:Bool):DL H (.bl b) (.bool b) []
 | int (i:Int):DL H (.int i) (.int i) []
 | str (x:Str) (h:PyData.strOk x=true):DL H (.str x) (.str x) []
 | lst {a:Addr} {vs:List V} {ds:List PyData} {L:List Addr}:H a=some (.lst vs)→vs.length≤10000→DLs H vs ds L→DL H (.ref a) (.list ds) (a::L)
 | tup {a:Addr} {vs:List V} {ds:List PyData} {L:List Addr}:H a=some (.tup vs)→vs.length≤10000→DLs H vs ds L→DL H (.ref a) (.tuple ds) L
inductive DLs (H:Hp):List V→List PyData→List Addr→Prop
 | nil:DLs H [] [] []
 | cons {v:V} {d:PyData} {L:List Addr} {vs:List V} {ds:List PyData} {L':List Addr}:DL H v d L→DLs H vs ds L'→DLs H (v::vs) (d::ds) (L++L')
end
mutual
theorem DL.keepL {H H':Hp} (t:Tps H H'):∀ {v:V} {d:PyData} {L:List Addr},DL H v d L→(∀ a∈L,∀ vs,H a=some (.lst vs)→H' a=some (.lst vs))→DL H' v d L
 | _,_,_,.non,_ => .non
 | _,_,_,.bl b,_ => .bl b
 | _,_,_,.int i,_ => .int i
 | _,_,_,.str x h,_ => .str x h
 | _,_,_,.lst h hn hs,e => .lst (e _ (.head _) _ h) hn (hs.keepL t fun a ha=>e a (.tail _ ha))
 | _,_,_,.tup h hn hs,e => .tup (t _ _ h) hn (hs.keepL t e)
theorem DLs.keepL {H H':Hp} (t:Tps H H'):∀ {vs:List V} {ds:List PyData} {L:List Addr},DLs H vs ds L→(∀ a∈L,∀ vs,H a=some (.lst vs)→H' a=some (.lst vs))→DLs H' vs ds L
 | _,_,_,.nil,_ => .nil
 | _,_,_,.cons h hs,e => .cons (h.keepL t fun a ha=>e a (List.mem_append_left _ ha)) (hs.keepL t fun a ha=>e a (List.mem_append_right _ ha))
end
theorem DL.keep {H H':Hp} {v:V} {d:PyData} {L:List Addr} (h:DL H v d L) (s:Yf H H'):DL H' v d L:=h.keepL s.tps fun a _ vs e=>s _ _ e
theorem DLs.keep {H H':Hp} {vs:List V} {ds:List PyData} {L:List Addr} (h:DLs H vs ds L) (s:Yf H H'):DLs H' vs ds L:=h.keepL s.tps fun a _ vs e=>s _ _ e
mutual
theorem DL.mem {H:Hp}:∀ {v:V} {d:PyData} {L:List Addr},DL H v d L→∀ a∈L,∃ vs,H a=some (.lst vs)∧vs.length≤10000
 | _,_,_,.lst (a:=b) h hn hs,a,ha=>by
  rcases List.mem_cons.mp ha with e | ha
  ·subst e;exact ⟨_,h,hn⟩
  ·exact hs.mem a ha
 | _,_,_,.tup h hn hs,a,ha=>hs.mem a ha
theorem DLs.mem {H:Hp}:∀ {vs:List V} {ds:List PyData} {L:List Addr},DLs H vs ds L→∀ a∈L,∃ vs,H a=some (.lst vs)∧vs.length≤10000
 | _,_,_,.cons h hs,a,ha=>by
  rcases List.mem_append.mp ha with ha | ha
  ·exact h.mem a ha
  ·exact hs.mem a ha
end
mutual
theorem DL.den {K:PySem.W.Frag} {H:Hp}:∀ {v:V} {d:PyData} {L:List Addr},DL H v d L→Den K H v d
 | _,_,_,.non => .non
 | _,_,_,.bl b => .bl b
 | _,_,_,.int i => .int i
 | _,_,_,.str x h => .str x h
 | _,_,_,.lst h _ hs => .lst (SqL.of h) hs.den
 | _,_,_,.tup h _ hs => .tup (SqT.of h) hs.den
theorem DLs.den {K:PySem.W.Frag} {H:Hp}:∀ {vs:List V} {ds:List PyData} {L:List Addr},DLs H vs ds L→Dens K H vs ds
 | _,_,_,.nil => .nil
 | _,_,_,.cons h hs => .cons h.den hs.den
end
theorem DLs.length {H:Hp}:∀ {vs:List V} {ds:List PyData} {L:List Addr},DLs H vs ds L→vs.length=ds.length
 | _,_,_,.nil=>rfl
 | _,_,_,.cons _ hs=>congrArg (·+1) hs.length
theorem DLs.at {H:Hp}:∀ {vs:List V} {ds:List PyData} {L:List Addr} {i:Nat} {v:V},DLs H vs ds L→vs[i]?=some v→∃ d L',ds[i]?=some d∧DL H v d L'
 | _,_,_,0,v,.cons a _,h=>by
  have:_=v:=Option.some.inj h
  subst this
  exact ⟨_,_,rfl,a⟩
 | _,_,_,i+1,v,.cons _ b,h=>b.at (i:=i) h
theorem DLs.append {H:Hp} {vs':List V} {ds':List PyData} {L':List Addr}:∀ {vs:List V} {ds:List PyData} {L:List Addr},DLs H vs ds L→DLs H vs' ds' L'→DLs H (vs++vs') (ds++ds') (L++L')
 | _,_,_,.nil,h=>h
 | _,_,_,.cons a b,h=>by rw [List.append_assoc];exact .cons a (b.append h)
theorem DL.one {H:Hp} {v:V} {d:PyData} {L:List Addr} (h:DL H v d L):DLs H [v] [d] L:=by
 have:=DLs.cons h .nil
 rwa [List.append_nil] at this
structure OwD (H0 H:Hp) (v:V) (d:PyData) (L:List Addr):Prop where
 vl:DL H v d L
 nd:L.Nodup
 new:∀ a∈L,H0 a=none
structure OwDs (H0 H:Hp) (vs:List V) (ds:List PyData) (L:List Addr):Prop where
 vl:DLs H vs ds L
 nd:L.Nodup
 new:∀ a∈L,H0 a=none
theorem OwDs.put {H0 H1 H2:Hp} {vs:List V} {ds:List PyData} {L L':List Addr} {y:V} {d:PyData} {D:Addr} {zs zs':List V} (h:OwDs H0 H1 vs ds L) (hD:∀ a∈L,a≠D) (s0:Yf H0 H1) (s:Yf H1 H2) (o:OwD H1 H2 y d L') (h1:H1 D=some (.lst zs)):OwDs H0 (upd H2 D (.lst zs')) (vs++[y]) (ds++[d]) (L++L')∧∀ a∈L++L',a≠D:=by
 have hD':∀ a∈L',a≠D:=fun a ha e=>by have:=o.new a ha;rw [e,h1] at this;cases this
 have t:Tps H2 (upd H2 D (.lst zs')) := .upd_lst (s _ _ h1)
 refine ⟨⟨((h.vl.keep s).keepL t fun a ha vs e=>by rw [Ym (hD a ha)];exact e).append ((o.vl.keepL t fun a ha vs e=>by rw [Ym (hD' a ha)];exact e).one),?_,fun a ha=>?_⟩,fun a ha=>?_⟩
 ·refine List.nodup_append.mpr ⟨h.nd,o.nd,fun a ha b hb e=>?_⟩
  subst e
  obtain ⟨vs,e1,_⟩:=h.vl.mem a ha
  rw [o.new a hb] at e1
  cases e1
 ·rcases List.mem_append.mp ha with ha | ha
  ·exact h.new a ha
  ·exact s0.free (o.new a ha)
 ·rcases List.mem_append.mp ha with ha | ha
  ·exact hD a ha
  ·exact hD' a ha
theorem OwDs.ext {H0 H1 H2:Hp} {vs:List V} {ds:List PyData} {L L':List Addr} {ys:List V} {es:List PyData} {D:Addr} {zs zs':List V} (h:OwDs H0 H1 vs ds L) (hD:∀ a∈L,a≠D) (s0:Yf H0 H1) (s:Yf H1 H2) (o:OwDs H1 H2 ys es L') (h1:H1 D=some (.lst zs)):OwDs H0 (upd H2 D (.lst zs')) (vs++ys) (ds++es) (L++L')∧∀ a∈L++L',a≠D:=by
 have hD':∀ a∈L',a≠D:=fun a ha e=>by have:=o.new a ha;rw [e,h1] at this;cases this
 have t:Tps H2 (upd H2 D (.lst zs')) := .upd_lst (s _ _ h1)
 refine ⟨⟨((h.vl.keep s).keepL t fun a ha vs e=>by rw [Ym (hD a ha)];exact e).append (o.vl.keepL t fun a ha vs e=>by rw [Ym (hD' a ha)];exact e),?_,fun a ha=>?_⟩,fun a ha=>?_⟩
 ·refine List.nodup_append.mpr ⟨h.nd,o.nd,fun a ha b hb e=>?_⟩
  subst e
  obtain ⟨vs,e1,_⟩:=h.vl.mem a ha
  rw [o.new a hb] at e1
  cases e1
 ·rcases List.mem_append.mp ha with ha | ha
  ·exact h.new a ha
  ·exact s0.free (o.new a ha)
 ·rcases List.mem_append.mp ha with ha | ha
  ·exact hD a ha
  ·exact hD' a ha
theorem OwD.inv {H0 H:Hp} {D:Addr} {ds:List PyData} {L:List Addr} (h:OwD H0 H (.ref D) (.list ds) L):∃ ys L1,L=D::L1∧H D=some (.lst ys)∧ys.length≤10000∧OwDs H0 H ys ds L1∧D∉L1∧H0 D=none:=by
 obtain ⟨vl,nd,new⟩:=h
 cases vl with
 | lst h1 h2 h3 =>
  have:=List.nodup_cons.mp nd
  exact ⟨_,_,rfl,h1,h2,⟨h3,this.2,fun a ha=>new a (.tail _ ha)⟩,this.1,new _ (.head _)⟩
section
variable {src:List (Option Nat)} {te:TE} {σ:St} {H:Hp} {Q:VK}
theorem Yc0 {J:It} {P:Hp→Prop} {xs:List V} (hJ:Wq J P xs) {H1:Hp} {D:Addr} (ds:List PyData) (hP:∀ H',Yf H1 H'→P H') (hD:H1 D=none) (hl:ds.length=xs.length) (hlen:xs.length≤10000)
  (step:∀ (i:Nat) x d H',xs[i]?=some x→ds[i]?=some d→Yf H1 H'→∀ R:VK,(∀ y H'' L,Yf H' H''→OwD H' H'' y d L→R y H'')→te (some x::YN src σ) H' R)
  (fin:∀ (ys:List V) H' L,Yf H1 H'→OwD H1 H' (.ref D) (.list ds) L→Q (.ref D) H'):LC (none::src) J (YD 0) XN te σ H1 Q D:=by
 have h6:100000<sizeLine:=by decide
 refine QI hJ (fun i zs σ' H'=>zs.length=i∧(∃ o,σ'=o::YN src σ)∧Yf H1 H'∧H' D=some (.lst zs)∧∃ L,OwDs H1 H' zs (ds.take i) L∧∀ a∈L,a≠D)
  ⟨rfl,⟨none,rfl⟩,.upd_new hD _,Yh,[],⟨by simp;exact .nil,.nil,fun a h=>by cases h⟩,fun a h=>by cases h⟩ (fun i zs σ' H' ⟨_,_,p1,p2,_⟩=>⟨hP _ p1,p2⟩) (WB 0) ?_ ?_
 ·rintro i zs σ' H' x hx ⟨hi',⟨o,rfl⟩,sm,hd,L,hL,hLD⟩
  have hi:=(List.getElem?_eq_some_iff.mp hx).1
  have hdi:ds[i]?=some (ds[i]'(by omega)):=List.getElem?_eq_getElem _
  show te (some x::YN src σ) H' _
  refine step i x _ H' hx hdi sm _ fun y H'' L' s2 hy=>⟨s2 _ _ hd,by omega,by simp [hi'],⟨_,rfl⟩,.upd_over hD (sm.trans s2) _,Yh,L++L',?_⟩
  rw [X9 hdi]
  exact hL.put hLD sm s2 hy hd
 ·rintro zs σ' H' ⟨hn,_,sm,hd,L,hL,hLD⟩
  rw [← hl,List.take_length] at hL
  refine fin zs H' (D::L) sm ⟨.lst hd (by omega) hL.vl,List.nodup_cons.mpr ⟨fun h=>hLD _ h rfl,hL.nd⟩,fun a ha=>?_⟩
  rcases List.mem_cons.mp ha with e | ha
  ·subst e;exact hD
  ·exact hL.new a ha
theorem YeG {K:PySem.W.Frag} {tl:TE} {xs:List V} {b:Addr} (ds:List PyData) (ha:∀ R:V→Hp→Prop,R (.ref b) H→tl σ H R) (hS:SqL K H b xs) (hl:ds.length=xs.length) (hlen:xs.length≤10000)
  (step:∀ (i:Nat) x d H',xs[i]?=some x→ds[i]?=some d→Yf H H'→∀ R:VK,(∀ y H'' L,Yf H' H''→OwD H' H'' y d L→R y H'')→te (some x::YN src σ) H' R)
  (fin:∀ D H' L,Yf H H'→OwD H H' (.ref D) (.list ds) L→Q (.ref D) H'):tLC (none::src) (WU K tl) (YD 0) XN te σ H Q :=
 ha _ ⟨b,rfl,⟨xs,hS⟩,fun D hD=>Yc0 (Vs.imp fun H' (e:Yf H H')=>e.seq hS) ds (fun _ e=>e) hD hl hlen step fun _ H' L sm=>fin D H' L sm⟩
theorem YdR {K:PySem.W.Frag} {tl:TE} {xs:List V} {b:Addr} (ds:List PyData) (ha:∀ R:V→Hp→Prop,R (.ref b) H→tl σ H R) (hS:SqT K H b xs) (hl:ds.length=xs.length) (hlen:xs.length≤10000)
  (step:∀ (i:Nat) x d H',xs[i]?=some x→ds[i]?=some d→Yf H H'→∀ R:VK,(∀ y H'' L,Yf H' H''→OwD H' H'' y d L→R y H'')→te (some x::YN src σ) H' R)
  (fin:∀ D H' L,Yf H H'→OwD H H' (.ref D) (.list ds) L→Q (.ref D) H'):tLC (none::src) (QU K tl) (YD 0) XN te σ H Q :=
 ha _ ⟨b,rfl,⟨xs,hS⟩,fun D hD=>Yc0 (Qn.imp fun H' (e:Yf H H')=>e.tup hS) ds (fun _ e=>e) hD hl hlen step fun _ H' L sm=>fin D H' L sm⟩
end
def tn8:PyData→String
 | .none=>"NoneType"
 | .bool _=>"bool"
 | .int _=>"int"
 | .str _=>"str"
 | .list _=>"list"
 | .tuple _=>"tuple"
 | .dict _=>"dict"
theorem QL {K:PySem.W.Frag} {H:Hp} {v:V} {d:PyData} {L:List Addr} (h:DL H v d L):TyOf K H v (.type (tn8 d)):=by
 cases h with
 | non=>exact .non
 | bl b=>exact .bl b
 | int i=>exact .int i
 | str x h=>exact .str _
 | lst h=>exact .lst h
 | tup h=>exact .tup h
theorem Vy {H:Hp} {v:V} {d:PyData} (h:DL H v d []):OwD H H v d []:=⟨h,.nil,fun a h=>by cases h⟩
theorem YeH {H H':Hp} {ys:List V} {ds:List PyData} {L:List Addr} {p:Addr} (h:OwDs H H' ys ds L) (hl:ys.length≤10000) (hp:H' p=none):OwD H (upd H' p (.tup ys)) (.ref p) (.tuple ds) L:=⟨.tup Yh hl (h.vl.keep (.upd_new hp _)),h.nd,h.new⟩
def Kt (H H':Hp):Prop:=∀ a o,(∀ ps,o ≠ .tbl ps)→H a=some o→H' a=some o
theorem Kt.refl (H:Hp):Kt H H:=fun _ _ _ e=>e
theorem Kt.trans {H H1 H2:Hp} (a:Kt H H1) (b:Kt H1 H2):Kt H H2:=fun c o n e=>b c o n (a c o n e)
theorem Y5 {H H':Hp} (s:Yf H H'):Kt H H':=fun c o _ e=>s _ _ e
theorem Kt.lst {H H':Hp} (h:Kt H H') {a:Addr} {xs:List V} (e:H a=some (.lst xs)):H' a=some (.lst xs):=h a _ (by intro ps z;cases z) e
theorem Kt.tup {H H':Hp} (h:Kt H H') {a:Addr} {xs:List V} (e:H a=some (.tup xs)):H' a=some (.tup xs):=h a _ (by intro ps z;cases z) e
theorem DL.kt {H H':Hp} {v:V} {d:PyData} {L:List Addr} (h:DL H v d L) (s:Kt H H'):DL H' v d L:=h.keepL (fun a vs e=>s.tup e) fun a _ vs e=>s.lst e
theorem DLs.kt {H H':Hp} {v:List V} {d:List PyData} {L:List Addr} (h:DLs H v d L) (s:Kt H H'):DLs H' v d L:=h.keepL (fun a vs e=>s.tup e) fun a _ vs e=>s.lst e
def DV (H:Hp) (v:V) (d:PyData):Prop:=∃ L,DL H v d L
def DVs (H:Hp) (vs:List V) (ds:List PyData):Prop:=∃ L,DLs H vs ds L
theorem DV.kt {H H':Hp} {v:V} {d:PyData} (h:DV H v d) (s:Kt H H'):DV H' v d:=by obtain ⟨L,h⟩:=h;exact ⟨L,h.kt s⟩
theorem DV.keep {H H':Hp} {v:V} {d:PyData} (h:DV H v d) (s:Yf H H'):DV H' v d:=h.kt (Y5 s)
theorem DVs.kt {H H':Hp} {v:List V} {d:List PyData} (h:DVs H v d) (s:Kt H H'):DVs H' v d:=by obtain ⟨L,h⟩:=h;exact ⟨L,h.kt s⟩
theorem DVs.keep {H H':Hp} {v:List V} {d:List PyData} (h:DVs H v d) (s:Yf H H'):DVs H' v d:=h.kt (Y5 s)
theorem DVs.nil {H:Hp}:DVs H [] []:=⟨[],.nil⟩
theorem DVs.cons {H:Hp} {v:V} {d:PyData} {vs:List V} {ds:List PyData} (h:DV H v d) (hs:DVs H vs ds):DVs H (v::vs) (d::ds):=by
 obtain ⟨L,h⟩:=h;obtain ⟨L',hs⟩:=hs;exact ⟨_,.cons h hs⟩
theorem DVs.inv {H:Hp} {v:V} {d:PyData} {vs:List V} {ds:List PyData} (h:DVs H (v::vs) (d::ds)):DV H v d∧DVs H vs ds:=by
 obtain ⟨L,h⟩:=h
 cases h with
 | cons a b=>exact ⟨⟨_,a⟩,⟨_,b⟩⟩
theorem DVs.length {H:Hp} {vs:List V} {ds:List PyData} (h:DVs H vs ds):vs.length=ds.length:=by obtain ⟨L,h⟩:=h;exact h.length
theorem DVs.at {H:Hp} {vs:List V} {ds:List PyData} {i:Nat} {v:V} (h:DVs H vs ds) (e:vs[i]?=some v):∃ d,ds[i]?=some d∧DV H v d:=by
 obtain ⟨L,h⟩:=h
 obtain ⟨d,L',e1,e2⟩:=h.at e
 exact ⟨d,e1,_,e2⟩
theorem DVs.append {H:Hp} {vs vs':List V} {ds ds':List PyData} (h:DVs H vs ds) (h':DVs H vs' ds'):DVs H (vs++vs') (ds++ds'):=by
 obtain ⟨L,h⟩:=h;obtain ⟨L',h'⟩:=h';exact ⟨_,h.append h'⟩
theorem DVs.reverse {H:Hp}:∀ {vs:List V} {ds:List PyData},DVs H vs ds→DVs H vs.reverse ds.reverse
 | [],[],_ => .nil
 | [],_::_,h=>absurd h.length (by simp)
 | _::_,[],h=>absurd h.length (by simp)
 | v::vs,d::ds,h=>by
  rw [List.reverse_cons,List.reverse_cons]
  exact h.inv.2.reverse.append (.cons h.inv.1 .nil)
theorem DV.lst {H:Hp} {a:Addr} {vs:List V} {ds:List PyData} (h:H a=some (.lst vs)) (hn:vs.length≤10000) (hs:DVs H vs ds):DV H (.ref a) (.list ds):=by obtain ⟨L,hs⟩:=hs;exact ⟨_,.lst h hn hs⟩
theorem DV.tup {H:Hp} {a:Addr} {vs:List V} {ds:List PyData} (h:H a=some (.tup vs)) (hn:vs.length≤10000) (hs:DVs H vs ds):DV H (.ref a) (.tuple ds):=by obtain ⟨L,hs⟩:=hs;exact ⟨_,.tup h hn hs⟩
theorem DV.ilst {H:Hp} {v:V} {ds:List PyData} (h:DV H v (.list ds)):∃ a vs,v = .ref a∧H a=some (.lst vs)∧vs.length≤10000∧DVs H vs ds:=by
 obtain ⟨L,h⟩:=h
 cases h with
 | lst a b c=>exact ⟨_,_,rfl,a,b,_,c⟩
theorem DV.itup {H:Hp} {v:V} {ds:List PyData} (h:DV H v (.tuple ds)):∃ a vs,v = .ref a∧H a=some (.tup vs)∧vs.length≤10000∧DVs H vs ds:=by
 obtain ⟨L,h⟩:=h
 cases h with
 | tup a b c=>exact ⟨_,_,rfl,a,b,_,c⟩
theorem DV.iint {H:Hp} {v:V} {i:Int} (h:DV H v (.int i)):v = .int i:=by obtain ⟨L,h⟩:=h;cases h;rfl
theorem DV.ibl {H:Hp} {v:V} {b:Bool} (h:DV H v (.bool b)):v = .bl b:=by obtain ⟨L,h⟩:=h;cases h;rfl
theorem DV.istr {H:Hp} {v:V} {x:Str} (h:DV H v (.str x)):v = .str x∧PyData.strOk x=true:=by obtain ⟨L,h⟩:=h;cases h;exact ⟨rfl,‹_›⟩
theorem DV.ty {K:PySem.W.Frag} {H:Hp} {v:V} {d:PyData} (h:DV H v d):TyOf K H v (.type (tn8 d)):=by obtain ⟨L,h⟩:=h;exact QL h
theorem DV.den {K:PySem.W.Frag} {H:Hp} {v:V} {d:PyData} (h:DV H v d):Den K H v d:=by obtain ⟨L,h⟩:=h;exact h.den
end L2
namespace PySem
section
variable {prog:Program} {w:World} {A:Around} {E:Value→Shared→Prop} {s:Shared} {l:Addr} {xs:Array (Int×Tok)}
theorem YaV {Q:Value→Shared→Prop} (hh:A.handled=none) (ht:s.heap.IsTuple l (intItems xs))
  (h:∀ h' tk t',(∀ b o,s.heap.get? b=some o→h'.get? b=some o)→Q (.int (preSum (numAt xs) xs.size) t') { s with heap:=h',toks:=tk }) :
  wpAny (model prog w) A (call (.builtin "sum") [.ref l]) Q E s:=by
 have hlt:l<s.heap.objs.size:=by obtain ⟨_,e,_⟩:=ht;exact Heap.lt_size e
 refine call_sum_walkG (wpAny_pyIter_tuple ht ?_)
 refine ⟨_,[_,l],[_],_,_,_,numAt xs,rfl,Walks.tuple (A:=A.in1) hh _ l (Nat.ne_of_lt hlt) (intItems xs),⟨⟨_,Heap.get?_push_size _ rfl,rfl,rfl⟩,ht.push _⟩,fun c hc=>?_,(fun _ _=>intItems_at),fun h' tk t' hk=>?_⟩
 ·show c<(s.heap.push _).objs.size
  rw [Heap.size_push]
  rcases List.mem_cons.mp hc with rfl | hc
  ·exact Nat.lt_succ_self _
  ·rcases List.mem_cons.mp hc with rfl | hc
   ·exact Nat.lt_succ_of_lt hlt
   ·cases hc
 ·have hold:∀ c o,s.heap.get? c=some o→h'.get? c=some o:=fun c o e=>by
   refine hk c o (fun hm=>?_) (Heap.get?_push_of_some _ e)
   rcases List.mem_cons.mp hm with e1 | hm
   ·have:=Heap.lt_size e;rw [e1] at this;exact Nat.lt_irrefl _ this
   ·cases hm
  have:=h h' tk t' hold
  simpa [intItems] using this
end
end PySem
namespace HT
open PySem PySem.Spec PyProof.Rows
variable {prog:Program} {w:World} {A:Around} {E:Value→Shared→Prop} {s:Shared}
theorem YdS (items:Array Value):((List.range items.size).filterMap fun (m:Nat)=>items[(((items.size:Int) - 1)+(m:Int)*(-1)).toNat]?).toArray=items.toList.reverse.toArray:=by
 have key:∀ (n:Nat),n≤items.size→((List.range n).filterMap fun (m:Nat)=>items[(((items.size:Int) - 1)+(m:Int)*(-1)).toNat]?)=items.toList.reverse.take n:=by
  intro n
  induction n with
  | zero=>intro _;simp
  | succ n ih =>
   intro hn
   rw [List.range_succ,List.filterMap_append,ih (by omega)]
   have e:(((items.size:Int) - 1)+(n:Int)*(-1)).toNat=items.size - 1 - n:=by omega
   have hx:items.toList.reverse[n]?=some (items[items.size - 1 - n]'(by omega)):=by
    rw [List.getElem?_reverse (by simp;omega)]
    simp
   rw [L2.X9 hx,List.filterMap_cons,e]
   have hlt:items.size - 1 - n<items.size:=by omega
   simp [hlt]
 rw [key items.size (Nat.le_refl _),List.take_of_length_le (by simp)]
theorem getItem_tuple_rev {t sl:Addr} {items:Array Value} {tk:Tok} {Q:Value→Shared→Prop} (ht:IsTup s.heap t items) (hs:s.heap.IsSliceOf sl .none .none (.int (-1) tk))
  (h:Q (.ref s.heap.objs.size) { s with heap:=s.heap.push { cls := .type "tuple",data := .seq items.toList.reverse.toArray } })
  (hsz:items.size≤sizeLine):wpAny (model prog w) A (getItem (.ref t) (.ref sl)) Q E s:=by
 have htake:sizeOk (.seq items.toList.reverse.toArray):=by
  show items.toList.reverse.toArray.size≤sizeLine
  rw [List.size_toArray,List.length_reverse,Array.length_toList]
  exact hsz
 obtain ⟨os,hos,hcs,hds⟩:=id hs
 have hTs:s.TypeIs (.ref sl) "slice":=⟨os,hos,hcs⟩
 unfold getItem
 try with_reducible refine wpAny_holding ?_
 first | refine wpAny_bind (wpAny_pure ?_) | skip
 refine wpAny_bind (wpAny_sequenceKey ht.typeIs (by decide) ?_)
 refine wpAny_bind (wpAny_callSpecial?_slot (name:=Str.ofString "__getitem__") ht.typeIs PyProof.Rows.slot_tuple_getitem
  (wpAny_call_entry PyProof.Rows.slot_tuple_getitem ht.typeIs entry_tuple_getitem ?_ (args_tuple_getitem _ _)))
 show wpAny _ _ (Builtin.Tuple.tupleItemsOf (.ref t) >>= _) _ _ s
 refine wpAny_bind (tupleItemsOf_ ht ?_)
 refine wpAny_bind (wpAny_typeOf hTs ?_)
 rw [if_pos (by decide)]
 have ap:∀ {A:Around} {E:Value→Shared→Prop} {Q:Int×Int×Nat→Shared→Prop},Q ((items.size:Int) - 1,-1,items.size) s→wpAny (model prog w) A (Builtin.Slice.sliceApplied (.ref sl) (pure (items.size:Int))) Q E s:=by
  intro A E Q h
  unfold Builtin.Slice.sliceApplied Builtin.Slice.sliceFields
  refine wpAny_bind (wpAny_bind (wpAny_field hos hds (x := .none) rfl (wpAny_bind (wpAny_field hos hds (x := .none) rfl (wpAny_bind (wpAny_field hos hds (x := .int (-1) tk) rfl (wpAny_pure ?_)))))))
  refine wpAny_bind (slicePart_int ?_)
  show wpAny _ _ (if ((-1:Int)==0)=true then _ else _) _ _ s
  rw [if_neg (by decide)]
  refine wpAny_bind (slicePart_none (wpAny_bind (slicePart_none (wpAny_bind (wpAny_pure ?_)))))
  show wpAny _ _ (match Builtin.Slice.sliceAdjust none none (-1) (items.size:Int) with | (lo,hi)=>pure (lo,(-1:Int),Builtin.Slice.slicePlaces lo hi (-1))) _ _ s
  have e1:Builtin.Slice.sliceAdjust none none (-1) (items.size:Int)=((items.size:Int) - 1,-1):=by simp [Builtin.Slice.sliceAdjust]
  rw [e1]
  have e2:Builtin.Slice.slicePlaces ((items.size:Int) - 1) (-1) (-1)=items.size:=by
   unfold Builtin.Slice.slicePlaces
   simp only [show ¬ ((-1:Int)>0) by decide,if_false]
   split
   ·have:((items.size:Int) - 1 - -1 - 1)=(items.size:Int) - 1:=by omega
    rw [this,show (- -1:Int)=1 from rfl,Int.ediv_one];omega
   ·omega
  show wpAny _ _ (pure ((items.size:Int) - 1,(-1:Int),Builtin.Slice.slicePlaces ((items.size:Int) - 1) (-1) (-1))) _ _ s
  rw [e2]
  exact wpAny_pure h
 refine wpAny_bind (ap ?_)
 show wpAny _ _ (if (((items.size:Int) - 1)==0&&(-1:Int)==1&&items.size==items.size)=true then _ else _) _ _ s
 rw [if_neg (by simp),YdS]
 first
  | exact wpAny_bind (m:=Builtin.Tuple.tupleExact _) (wpAny_newObj_type (wpAny_pure ⟨_,rfl,wpAny_pure h⟩) htake)
  | exact wpAny_bind (m:=Builtin.Tuple.tupleExact _) (wpAny_newObj_type (wpAny_bind (wpAny_pure (wpAny_pure ⟨_,rfl,wpAny_pure h⟩))) htake)
  | exact wpAny_bind (wpAny_bind (m:=Builtin.Tuple.tupleExact _) (wpAny_newObj_type (wpAny_pure (wpAny_pure ⟨_,rfl,wpAny_pure h⟩)) htake))
  | exact wpAny_bind (wpAny_bind (m:=Builtin.Tuple.tupleExact _) (wpAny_newObj_type (wpAny_pure ⟨_,rfl,wpAny_pure h⟩) htake))
end HT
namespace L2
open PySem PySem.Spec PyProof.Rows
def Vz (z:Str):Str:=⟨z.cps.toList.reverse.toArray⟩
theorem Yc1 (n:Nat):Builtin.Str.strSliceIndices none none (-1) n=(List.range n).map fun (k:Nat)=>n - 1 - k:=by
 unfold Builtin.Str.strSliceIndices
 simp
 unfold sliceRange
 simp only [show ¬ ((-1:Int)>0) by decide,if_false]
 have hc:(if (n:Int) - 1 > -1 then ((n:Int) - 1 - -1 - -1 - 1) / - -1 else 0).toNat=n:=by
  split
  ·have:((n:Int) - 1 - -1 - -1 - 1)=n:=by omega
   rw [this,show (- -1:Int)=1 from rfl,Int.ediv_one];omega
  ·omega
 rw [hc]
 apply List.map_congr_left
 intro k hk
 have:k<n:=List.mem_range.mp hk
 omega
theorem Yc2 (z:Str):(⟨(((List.range z.length).map fun (k:Nat)=>z.length - 1 - k).filterMap (z.cps[·]?)).toArray⟩:Str)=Vz z:=by
 have hl:z.length=z.cps.size:=rfl
 rw [List.filterMap_map]
 have key:∀ (n:Nat),n≤z.cps.size→(List.filterMap ((fun x=>z.cps[x]?) ∘ fun k=>z.length - 1 - k) (List.range n))=z.cps.toList.reverse.take n:=by
  intro n
  induction n with
  | zero=>intro _;simp
  | succ n ih =>
   intro hn
   rw [List.range_succ,List.filterMap_append,ih (by omega)]
   have hx:z.cps.toList.reverse[n]?=some (z.cps[z.cps.size - 1 - n]'(by omega)):=by
    rw [List.getElem?_reverse (by simp;omega)]
    simp
   rw [X9 hx]
   have hlt:z.cps.size - 1 - n<z.cps.size:=by omega
   simp [hl,hlt]
 rw [hl] at key ⊢
 rw [key z.cps.size (Nat.le_refl _),List.take_of_length_le (by simp)]
 rfl
theorem Uj (z:Str):(Vz z).length=z.length:=by simp [Vz,Str.length]
section
variable {X:Cx} {e st:Expr} {te ts:TE} {pos p2:Pos} {K:PySem.W.Frag}
def Yb2 (K:PySem.W.Frag) (te ts:TE):TE:=fun σ H Q=>te σ H fun x H1=>ts σ H1 fun y H2=>y = .int (-1)∧((∃ a xs,x = .ref a∧SqL K H2 a xs∧∀ p,H2 p=none→Q (.ref p) (upd H2 p (.lst xs.reverse))) ∨
 (∃ a xs,x = .ref a∧SqT K H2 a xs∧∀ p,H2 p=none→Q (.ref p) (upd H2 p (.tup xs.reverse)))∨∃ z,x = .str z∧z.length≤sizeLine∧Q (.str (Vz z)) H2)
theorem Ybo (he:PE X e te) (hs:PE X st ts) (hK:X.K=K):PE X (.Subscript e (.Slice none none (some st) p2) pos) (Yb2 K te ts):=by
 subst hK
 intro pins s σ H Q I h
 refine Subscript_ (thn (he pins s σ H _ I h) fun v s1 ⟨x,H1,I1,r1,q1⟩=>?_)
 refine wpAny_Slice ?_
 rw [evalPart_none]
 refine wpAny_pure (wpAny_pure ?_)
 rw [evalPart_some]
 refine thn (hs pins s1 σ H1 _ I1 q1) fun u s2 ⟨y,H2,I2,r2,q2⟩=>?_
 obtain ⟨rfl,q2⟩:=q2
 obtain ⟨t,rfl⟩:=r2
 have I4:Inv X pins σ H2 { s2 with heap:=s2.heap.push { cls := .type "slice",data := .fields #[.none,.none,.int (-1) t] } }:=I2.kept (t':=s2.toks) fun b ob q=>Heap.get?_push_of_some _ q
 rcases q2 with ⟨a,xs,rfl,hx,q⟩ | ⟨a,xs,rfl,hx,q⟩ | ⟨z,rfl,hz,q⟩
 ·cases r1
  obtain ⟨its,r,ht,hz⟩:=I4.list hx
  have hlen:=r.length
  have hg:=wpAny_getItem_list_slice (prog:=X.prog) (w:=X.w) (A:=X.A) (E:=X.xe) (Q:=EP X pins σ Q) ht.isList (Heap.IsSliceOf.new ..) .none .none (.int (-1) t) (by decide) (by
   rw [Qz]
   refine ⟨.ref _,_,I4.laid (t':=_) (o := .lst xs.reverse) (fun b ob q=>Heap.get?_push_of_some _ q) (Nat.le_refl _) ?_,rfl,q _ (I4.hok.fresh (Nat.le_refl _))⟩
   exact ⟨by rw [List.length_reverse];exact hz,_,0,r.reverse,Heap.get?_push_size _ rfl⟩) (by rw [List.size_toArray]<;>omega)
  exact tail_any (ops:=[.ref a,.ref s2.heap.objs.size]) ht.isList.typeIs slot_list_getitem.lookup hg (by with_unfolding_all rfl)
 ·cases r1
  obtain ⟨its,r,ht,hz⟩:=I4.tuple hx
  have hlen:=r.length
  have hg:=HT.getItem_tuple_rev (prog:=X.prog) (w:=X.w) (A:=X.A) (E:=X.xe) (Q:=EP X pins σ Q) ht (Heap.IsSliceOf.new ..) (by
   refine ⟨.ref _,_,I4.laid (t':=_) (o := .tup xs.reverse) (fun b ob q=>Heap.get?_push_of_some _ q) (Nat.le_refl _) ?_,rfl,q _ (I4.hok.fresh (Nat.le_refl _))⟩
   exact ⟨by rw [List.length_reverse];exact hz,_,r.reverse,IsTup.new _ _⟩) (by rw [List.size_toArray];omega)
  exact tail_any (ops:=[.ref a,.ref s2.heap.objs.size]) ht.typeIs PyProof.Rows.slot_tuple_getitem.lookup hg (by with_unfolding_all rfl)
 ·obtain ⟨tz,rfl⟩:=r1
  have hg:wpAny (model X.prog X.w) X.A (getItem (.str z tz) (.ref s2.heap.objs.size)) (EP X pins σ Q) X.xe { s2 with heap:=s2.heap.push { cls := .type "slice",data := .fields #[.none,.none,.int (-1) t] } }:=by
   refine wpAny_getItem_str_slice (l:=none) (u:=none) (st:=some (-1,t)) ⟨_,Heap.get?_push_size _ rfl,rfl,rfl⟩ rfl ?_
   have e:(if (((some ((-1:Int),t)).map (·.1)).getD 1==1&&(slicePicked z none none (some (-1,t))).length==z.length)=true then z else ⟨((slicePicked z none none (some (-1,t))).filterMap (z.cps[·]?)).toArray⟩)=Vz z:=by
    rw [if_neg (by simp)]
    show (⟨((Builtin.Str.strSliceIndices none none (-1) z.length).filterMap (z.cps[·]?)).toArray⟩:Str)=_
    rw [Yc1]
    exact Yc2 z
   refine post_val_or_str ⟨by rw [e,Uj];exact hz,fun t' k=>?_⟩
   rw [e]
   exact ⟨.str (Vz z),H2,I4.tok k,⟨t',rfl⟩,q⟩
  exact tail_any (ops:=[.str z tz,.ref s2.heap.objs.size]) (typeIs_str _ _ _) F.slot_str_getitem.lookup hg (by with_unfolding_all rfl)
theorem VX (hc:X.calm=true:=by rfl):Xk X (.builtin "sum") (fun xs H Q=>∃ (p:Addr) (ns:List Int),xs=[.ref p]∧SqT X.K H p (ns.map V.int)∧Q (.int ns.sum) H):=by
 intro pins s σ H xs us Q I r h
 obtain ⟨p,ns,rfl,hq,q⟩:=h
 obtain ⟨u,rfl,rx⟩:=Wg r
 cases rx
 obtain ⟨its,r',pl,hz⟩:=I.tuple hq
 have hi:=UF r'
 have hl:s.heap.IsTuple p its.toArray:=pl
 obtain ⟨xs,ex⟩:=hi.allInts.items
 rw [ex] at hl
 have e:preSum (numAt xs) xs.size=ns.sum:=by
  have h1:=nums_intItems (xs:=xs)
  rw [← ex] at h1
  have h2:=hi.numsOf
  rw [preSum_eq,List.take_of_length_le (by simp)]
  rw [← h1]
  exact congrArg List.sum h2
 refine YaV (I.ok.hd hc) hl fun h' tk t' hk=>?_
 rw [e]
 exact ⟨.int _,H,I.kept (t':=tk) hk,⟨t',rfl⟩,q⟩
theorem Yag {f:Value→Value→Sem Value} {r1 r2:R2} (h1:OpR X f r1) (h2:OpR X f r2):OpR X f (fun x y H Q=>r1 x y H Q∨r2 x y H Q):=fun pins s σ H x y v u Q I rx ry h =>
 h.elim (h1 pins s σ H x y v u Q I rx ry) (h2 pins s σ H x y v u Q I rx ry)
end
end L2
namespace L2
open PySem
theorem YaW (x y:Str):(x++y).length=x.length+y.length:=by
 show (x.cps++y.cps).size=_
 rw [Array.size_append];rfl
def isB:PyData→Bool
 | .bool _=>true
 | _=>false
def isI:PyData→Bool
 | .int _=>true
 | _=>false
def isS:PyData→Bool
 | .str _=>true
 | _=>false
def isL:PyData→Bool
 | .list _=>true
 | _=>false
def isT:PyData→Bool
 | .tuple _=>true
 | _=>false
noncomputable def sm (a b:PyData):Bool:=@decide (a=b) (Classical.propDecidable _)
theorem VA {a b:PyData}:sm a b=true↔a=b:=by unfold sm;exact @decide_eq_true_iff _ (Classical.propDecidable _)
theorem XM (a:PyData):sm a a=true:=VA.mpr rfl
theorem W3 {a b:PyData} (h:a≠b):sm a b=false:=by
 cases e:sm a b with
 | false=>rfl
 | true=>exact absurd (VA.mp e) h
theorem Yah {a b:PyData} {c:Bool} (h:a=b↔c=true):sm a b=c:=by
 cases c with
 | true=>exact VA.mpr (h.mpr rfl)
 | false=>exact W3 fun e=>by have:=h.mp e;cases this
inductive Tm where
 | num (i:Int) | here | part (t:Tm) (k:Int) | count (t:Tm) | sum (t:Tm) | not (t:Tm) | turned (t:Tm)
 | same (a b:Tm) | both (a b:Tm) | when (a b c:Tm) | each (a b:Tm) | joined (a b:Tm) | plus (a b:Tm) | times (a b:Tm) | less (a b:Tm)
abbrev Say:=Except Str PyData
def YF:PyData→Option (List PyData)
 | .list xs=>some xs
 | .tuple xs=>some xs
 | _=>none
def Xb:List PyData→Option Int
 | []=>some 0
 | .int i::r=>(Xb r).map (i+·)
 | _::_=>none
def take (mk:Str) (s:Say) (f:PyData→Option α):Except Str α:=match s with
 | .error m => .error m
 | .ok d=>match f d with
  | some a => .ok a
  | none => .error mk
def Xi:PyData→Option Int
 | .int i=>some i
 | _=>none
def Y4:PyData→Option Bool
 | .bool b=>some b
 | _=>none
def Wr:PyData→Option Nat
 | .list xs=>some xs.length
 | .tuple xs=>some xs.length
 | .str x=>some x.length
 | _=>none
def VY:PyData→Option PyData
 | .list xs=>some (.list xs.reverse)
 | .tuple xs=>some (.tuple xs.reverse)
 | .str x=>some (.str (Vz x))
 | _=>none
def YW (mk:Str) (f:PyData→Say):List PyData→Say
 | [] => .ok (.bool true)
 | x::xs=>match take mk (f x) Y4 with
  | .error m => .error m
  | .ok true=>YW mk f xs
  | .ok false => .ok (.bool false)
noncomputable def tell:Tm→PyData→Say
 | .num i,_ => .ok (.int i)
 | .here,d => .ok d
 | .part t k,d=>take "part" (tell t d) fun x=>(YF x).bind fun xs=>if 0≤k then xs[k.toNat]? else none
 | .count t,d=>(take "count" (tell t d) Wr).map fun (n:Nat)=>PyData.int (n:Int)
 | .sum t,d=>(take "sum" (tell t d) fun x=>(YF x).bind Xb).map .int
 | .not t,d=>(take "not" (tell t d) Y4).map fun b => .bool (!b)
 | .turned t,d=>take "turned" (tell t d) VY
 | .same a b,d=>match tell a d with
  | .error m => .error m
  | .ok x=>(tell b d).map fun y => .bool (sm x y)
 | .both a b,d=>match take "both" (tell a d) Y4 with
  | .error m => .error m
  | .ok false => .ok (.bool false)
  | .ok true=>(take "both" (tell b d) Y4).map .bool
 | .when a b c,d=>match take "when" (tell a d) Y4 with
  | .error m => .error m
  | .ok true=>tell b d
  | .ok false=>tell c d
 | .each a b,d=>match take "each" (tell a d) YF with
  | .error m => .error m
  | .ok xs=>YW "each" (fun x=>tell b x) xs
 | .joined a b,d=>match tell a d with
  | .error m => .error m
  | .ok (.list xs)=>take "joined" (tell b d) fun y=>match y with
   | .list ys=>some (.list (xs++ys))
   | _=>none
  | .ok (.str x)=>take "joined" (tell b d) fun y=>match y with
   | .str z=>some (.str (x++z))
   | _=>none
  | .ok _ => .error "joined"
 | .plus a b,d=>match take "plus" (tell a d) Xi with
  | .error m => .error m
  | .ok i=>(take "plus" (tell b d) Xi).map fun j => .int (i+j)
 | .times a b,d=>match take "times" (tell a d) Xi with
  | .error m => .error m
  | .ok i=>(take "times" (tell b d) Xi).map fun j => .int (i*j)
 | .less a b,d=>match take "less" (tell a d) Xi with
  | .error m => .error m
  | .ok i=>(take "less" (tell b d) Xi).map fun j => .bool (decide (i<j))
def Yr (H:Hp):Tm→V→Prop
 | .num i,v=>∃ a,v = .ref a∧H a=some (.tup [.str "num",.int i])
 | .here,v=>∃ a r,v = .ref a∧H a=some (.tup [.str "here",r])
 | .part t k,v=>∃ a p u,v = .ref a∧H a=some (.tup [.str "part",.ref p])∧H p=some (.tup [u,.int k])∧Yr H t u
 | .count t,v=>∃ a u,v = .ref a∧H a=some (.tup [.str "count",u])∧Yr H t u
 | .sum t,v=>∃ a u,v = .ref a∧H a=some (.tup [.str "sum",u])∧Yr H t u
 | .not t,v=>∃ a u,v = .ref a∧H a=some (.tup [.str "not",u])∧Yr H t u
 | .turned t,v=>∃ a u,v = .ref a∧H a=some (.tup [.str "turned",u])∧Yr H t u
 | .same x y,v=>∃ a p u w,v = .ref a∧H a=some (.tup [.str "same",.ref p])∧H p=some (.tup [u,w])∧Yr H x u∧Yr H y w
 | .both x y,v=>∃ a p u w,v = .ref a∧H a=some (.tup [.str "both",.ref p])∧H p=some (.tup [u,w])∧Yr H x u∧Yr H y w
 | .when x y z,v=>∃ a p u w q,v = .ref a∧H a=some (.tup [.str "when",.ref p])∧H p=some (.tup [u,w,q])∧Yr H x u∧Yr H y w∧Yr H z q
 | .each x y,v=>∃ a p u w,v = .ref a∧H a=some (.tup [.str "each",.ref p])∧H p=some (.tup [u,w])∧Yr H x u∧Yr H y w
 | .joined x y,v=>∃ a p u w,v = .ref a∧H a=some (.tup [.str "joined",.ref p])∧H p=some (.tup [u,w])∧Yr H x u∧Yr H y w
 | .plus x y,v=>∃ a p u w,v = .ref a∧H a=some (.tup [.str "plus",.ref p])∧H p=some (.tup [u,w])∧Yr H x u∧Yr H y w
 | .times x y,v=>∃ a p u w,v = .ref a∧H a=some (.tup [.str "times",.ref p])∧H p=some (.tup [u,w])∧Yr H x u∧Yr H y w
 | .less x y,v=>∃ a p u w,v = .ref a∧H a=some (.tup [.str "less",.ref p])∧H p=some (.tup [u,w])∧Yr H x u∧Yr H y w
theorem Yr.tps {H H':Hp} (h:Tps H H'):∀ {t:Tm} {v:V},Yr H t v→Yr H' t v
 | .num i,v,⟨a,e,z⟩=>⟨a,e,h _ _ z⟩
 | .here,v,⟨a,r,e,z⟩=>⟨a,r,e,h _ _ z⟩
 | .part t k,v,⟨a,p,u,e,z,y,x⟩=>⟨a,p,u,e,h _ _ z,h _ _ y,Yr.tps h x⟩
 | .count t,v,⟨a,u,e,z,x⟩=>⟨a,u,e,h _ _ z,Yr.tps h x⟩
 | .sum t,v,⟨a,u,e,z,x⟩=>⟨a,u,e,h _ _ z,Yr.tps h x⟩
 | .not t,v,⟨a,u,e,z,x⟩=>⟨a,u,e,h _ _ z,Yr.tps h x⟩
 | .turned t,v,⟨a,u,e,z,x⟩=>⟨a,u,e,h _ _ z,Yr.tps h x⟩
 | .same _ _,v,⟨a,p,u,w,e,z,y,x1,x2⟩=>⟨a,p,u,w,e,h _ _ z,h _ _ y,Yr.tps h x1,Yr.tps h x2⟩
 | .both _ _,v,⟨a,p,u,w,e,z,y,x1,x2⟩=>⟨a,p,u,w,e,h _ _ z,h _ _ y,Yr.tps h x1,Yr.tps h x2⟩
 | .when _ _ _,v,⟨a,p,u,w,q,e,z,y,x1,x2,x3⟩=>⟨a,p,u,w,q,e,h _ _ z,h _ _ y,Yr.tps h x1,Yr.tps h x2,Yr.tps h x3⟩
 | .each _ _,v,⟨a,p,u,w,e,z,y,x1,x2⟩=>⟨a,p,u,w,e,h _ _ z,h _ _ y,Yr.tps h x1,Yr.tps h x2⟩
 | .joined _ _,v,⟨a,p,u,w,e,z,y,x1,x2⟩=>⟨a,p,u,w,e,h _ _ z,h _ _ y,Yr.tps h x1,Yr.tps h x2⟩
 | .plus _ _,v,⟨a,p,u,w,e,z,y,x1,x2⟩=>⟨a,p,u,w,e,h _ _ z,h _ _ y,Yr.tps h x1,Yr.tps h x2⟩
 | .times _ _,v,⟨a,p,u,w,e,z,y,x1,x2⟩=>⟨a,p,u,w,e,h _ _ z,h _ _ y,Yr.tps h x1,Yr.tps h x2⟩
 | .less _ _,v,⟨a,p,u,w,e,z,y,x1,x2⟩=>⟨a,p,u,w,e,h _ _ z,h _ _ y,Yr.tps h x1,Yr.tps h x2⟩
theorem Yr.keep {H H':Hp} (h:Kt H H') {t:Tm} {v:V} (x:Yr H t v):Yr H' t v:=x.tps fun a vs e=>h.tup e
structure IB (n:Nat) (i:Int):Prop where
 h:i.natAbs<2^(200*2^n)
theorem VB {a b:Nat} (h:a≤b):(2:Nat)^a≤2^b:=Nat.pow_le_pow_right (by decide) h
theorem IB.mono {n m:Nat} {i:Int} (h:IB n i) (e:n≤m):IB m i:=⟨Nat.lt_of_lt_of_le h.h (VB (Nat.mul_le_mul_left _ (VB e)))⟩
theorem IB.ofNat {n k:Nat} (h:k≤64*2^n):IB n (k:Int):=by
 refine ⟨?_⟩
 rw [Int.natAbs_natCast]
 refine Nat.lt_of_le_of_lt h ?_
 have e:64*2^n=2^(6+n):=by rw [Nat.pow_add]
 rw [e]
 refine Nat.pow_lt_pow_right (by decide) ?_
 have:=Nat.lt_two_pow_self (n:=n)
 omega
theorem Yb3 (n:Nat):200*2^(n+1)=200*2^n+200*2^n:=by rw [Nat.pow_succ];omega
theorem IB.add {n:Nat} {i j:Int} (h:IB n i) (k:IB n j):IB (n+1) (i+j):=by
 refine ⟨?_⟩
 have h1:=h.h
 have h2:=k.h
 have h3:=Int.natAbs_add_le i j
 have h4:(2:Nat)^(200*2^n+1)≤2^(200*2^(n+1)):=VB (by rw [Yb3];have:=Nat.lt_two_pow_self (n:=n);omega)
 rw [Nat.pow_succ] at h4
 omega
theorem IB.mul {n:Nat} {i j:Int} (h:IB n i) (k:IB n j):IB (n+1) (i*j):=by
 refine ⟨?_⟩
 rw [Int.natAbs_mul,Yb3,Nat.pow_add]
 exact Nat.mul_lt_mul'' h.h k.h
mutual
def hb:PyData→Prop
 | .list xs=>xs.length≤64∧hbs xs
 | .tuple xs=>xs.length≤64∧hbs xs
 | .str x=>x.length≤64
 | .int i=>IB 0 i
 | .none=>True
 | .bool _=>True
 | .dict _=>False
def hbs:List PyData→Prop
 | []=>True
 | d::ds=>hb d∧hbs ds
end
def Pk (n:Nat):PyData→Prop
 | .list xs=>xs.length≤64*2^n∧hbs xs
 | .tuple xs=>xs.length≤64*2^n∧hbs xs
 | .str x=>x.length≤64*2^n
 | .int i=>IB n i
 | .none=>True
 | .bool _=>True
 | .dict _=>False
theorem UV {d:PyData} (h:hb d):Pk 0 d:=by
 cases d<;>simp only [hb,Pk] at h ⊢<;>simpa using h
theorem Pk.mono {n m:Nat} {d:PyData} (h:Pk n d) (e:n≤m):Pk m d:=by
 have e2:=Nat.mul_le_mul_left 64 (VB e)
 cases d with
 | list xs=>exact ⟨Nat.le_trans h.1 e2,h.2⟩
 | tuple xs=>exact ⟨Nat.le_trans h.1 e2,h.2⟩
 | str x=>exact Nat.le_trans h e2
 | int i=>exact IB.mono h e
 | none=>trivial
 | bool b=>trivial
 | dict xs=>exact h
theorem V9:∀ {xs:List PyData} {i:Nat} {d:PyData},hbs xs→xs[i]?=some d→hb d
 | x::xs,0,d,h,e=>by cases (show some x=some d from e);exact h.1
 | x::xs,i+1,d,h,e=>V9 (xs:=xs) (i:=i) h.2 (by simpa using e)
theorem Vj {xs:List PyData} {d:PyData} (h:hbs xs) (e:d∈xs):hb d:=by
 obtain ⟨i,hi⟩:=List.getElem?_of_mem e
 exact V9 h hi
theorem VZ:∀ {xs:List PyData},(∀ d∈xs,hb d)→hbs xs
 | [],_=>trivial
 | x::xs,h=>⟨h x (.head _),VZ fun d hd=>h d (.tail _ hd)⟩
theorem Yb4 {xs ys:List PyData} (h:hbs xs) (k:hbs ys):hbs (xs++ys):=VZ fun d hd=>(List.mem_append.mp hd).elim (Vj h) (Vj k)
theorem Uk {xs:List PyData} (h:hbs xs):hbs xs.reverse:=VZ fun d hd=>Vj h (List.mem_reverse.mp hd)
theorem Yc3:∀ {xs:List PyData} {s:Int},hbs xs→Xb xs=some s→s.natAbs≤xs.length*2^200
 | [],s,_,e=>by cases e;simp
 | .int i::xs,s,h,e=>by
  simp only [Xb,Option.map_eq_some_iff] at e
  obtain ⟨z,e1,rfl⟩:=e
  have h1:=Yc3 h.2 e1
  have h2:=(show IB 0 i from h.1).h
  have h3:=Int.natAbs_add_le i z
  rw [Nat.pow_zero,Nat.mul_one] at h2
  rw [List.length_cons,Nat.add_mul,Nat.one_mul]
  omega
 | .none::_,_,_,e=>by cases e
 | .bool _::_,_,_,e=>by cases e
 | .str _::_,_,_,e=>by cases e
 | .list _::_,_,_,e=>by cases e
 | .tuple _::_,_,_,e=>by cases e
 | .dict _::_,_,_,e=>by cases e
theorem IB.sum {n:Nat} {xs:List PyData} {s:Int} (h:hbs xs) (hl:xs.length≤64*2^n) (e:Xb xs=some s):IB (n+1) s:=by
 refine ⟨Nat.lt_of_le_of_lt (Yc3 h e) ?_⟩
 refine Nat.lt_of_le_of_lt (Nat.mul_le_mul_right _ hl) ?_
 have e1:64*2^n*2^200=2^(6+n+200):=by rw [Nat.pow_add,Nat.pow_add]
 rw [e1]
 refine Nat.pow_lt_pow_right (by decide) ?_
 have:=Nat.lt_two_pow_self (n:=n)
 rw [Yb3]
 omega
def Tm.dep:Tm→Nat
 | .num _=>0
 | .here=>0
 | .part t _=>t.dep+1
 | .count t=>t.dep+1
 | .sum t=>t.dep+1
 | .not t=>t.dep+1
 | .turned t=>t.dep+1
 | .same a b=>max a.dep b.dep+1
 | .both a b=>max a.dep b.dep+1
 | .when a b c=>max a.dep (max b.dep c.dep)+1
 | .each a b=>max a.dep b.dep+1
 | .joined a b=>max a.dep b.dep+1
 | .plus a b=>max a.dep b.dep+1
 | .times a b=>max a.dep b.dep+1
 | .less a b=>max a.dep b.dep+1
def Tm.ok:Tm→Prop
 | .num i=>IB 0 i
 | .here=>True
 | .part t k=>0≤k∧t.ok
 | .count t=>t.ok
 | .sum t=>t.ok
 | .not t=>t.ok
 | .turned t=>t.ok
 | .same a b=>a.ok∧b.ok
 | .both a b=>a.ok∧b.ok
 | .when a b c=>a.ok∧b.ok∧c.ok
 | .each a b=>a.ok∧b.ok
 | .joined a b=>a.ok∧b.ok
 | .plus a b=>a.ok∧b.ok
 | .times a b=>a.ok∧b.ok
 | .less a b=>a.ok∧b.ok
theorem YU {d:PyData}:∀ {ds:List PyData},d∈ds→d.depth≤PyData.depthAll ds
 | e::ds,h=>by
  simp only [PyData.depthAll]
  rcases List.mem_cons.mp h with rfl | h
  ·omega
  ·have:=YU h
   omega
theorem X1 {n:Nat}:∀ {ds:List PyData},(∀ d∈ds,d.depth≤n)→PyData.depthAll ds≤n
 | [],_=>by simp [PyData.depthAll]
 | e::ds,h=>by
  simp only [PyData.depthAll]
  have h1:=h e (.head _)
  have h2:=X1 (ds:=ds) fun d hd=>h d (.tail _ hd)
  omega
theorem Xn {α:Type} {mk:Str} {s:Say} {f:PyData→Option α} {a:α} (h:take mk s f = .ok a):∃ d,s = .ok d∧f d=some a:=by
 cases s with
 | error m=>cases h
 | ok d =>
  refine ⟨d,rfl,?_⟩
  simp only [take] at h
  cases e:f d with
  | none=>rw [e] at h;cases h
  | some b=>rw [e] at h;cases h;rfl
theorem Xq {α β:Type} {s:Except Str α} {f:α→β} {b:β} (h:s.map f = .ok b):∃ a,s = .ok a∧f a=b:=by
 cases s with
 | error m=>cases h
 | ok a=>cases h;exact ⟨a,rfl,rfl⟩
theorem W7 {mk:Str} {f:PyData→Say}:∀ {xs:List PyData} {e:PyData},YW mk f xs = .ok e→∃ b,e = .bool b
 | [],e,h=>by cases h;exact ⟨_,rfl⟩
 | x::xs,e,h=>by
  simp only [YW] at h
  split at h
  ·cases h
  ·exact W7 h
  ·cases h;exact ⟨_,rfl⟩
theorem Y2:∀ {t:Tm} {k:Nat} {d e:PyData},t.ok→Pk k d→tell t d = .ok e→Pk (k+t.dep) e∧e.depth≤d.depth
 | .num i,k,d,e,ho,hp,h=>by
  cases h
  exact ⟨Pk.mono (n:=0) (show IB 0 i from ho) (Nat.zero_le _),by simp [PyData.depth]⟩
 | .here,k,d,e,ho,hp,h=>by cases h;exact ⟨hp,Nat.le_refl _⟩
 | .part t z,k,d,e,ho,hp,h=>by
  obtain ⟨x,h1,h2⟩:=Xn h
  obtain ⟨p1,p2⟩:=Y2 (t:=t) ho.2 hp h1
  obtain ⟨xs,h3,h4⟩:=Option.bind_eq_some_iff.mp h2
  split at h4
  ·cases x with
   | list ys =>
    cases h3
    refine ⟨(UV (V9 p1.2 h4)).mono (Nat.zero_le _),?_⟩
    have:=YU (List.mem_of_getElem? h4)
    rw [PyData.depth] at p2
    omega
   | tuple ys =>
    cases h3
    refine ⟨(UV (V9 p1.2 h4)).mono (Nat.zero_le _),?_⟩
    have:=YU (List.mem_of_getElem? h4)
    rw [PyData.depth] at p2
    omega
   | _=>cases h3
  ·cases h4
 | .count t,k,d,e,ho,hp,h=>by
  obtain ⟨n,h1,rfl⟩:=Xq h
  obtain ⟨x,h1,h2⟩:=Xn h1
  obtain ⟨p1,p2⟩:=Y2 (t:=t) ho hp h1
  refine ⟨?_,by simp [PyData.depth]⟩
  refine (IB.ofNat (n:=k+t.dep) ?_).mono (by simp only [Tm.dep];omega)
  cases x with
  | list ys=>cases h2;exact p1.1
  | tuple ys=>cases h2;exact p1.1
  | str y=>cases h2;exact p1
  | _=>cases h2
 | .sum t,k,d,e,ho,hp,h=>by
  obtain ⟨n,h1,rfl⟩:=Xq h
  obtain ⟨x,h1,h2⟩:=Xn h1
  obtain ⟨p1,p2⟩:=Y2 (t:=t) ho hp h1
  refine ⟨?_,by simp [PyData.depth]⟩
  obtain ⟨xs,h3,h4⟩:=Option.bind_eq_some_iff.mp h2
  cases x with
  | list ys=>cases h3;exact IB.sum p1.2 p1.1 h4
  | tuple ys=>cases h3;exact IB.sum p1.2 p1.1 h4
  | _=>cases h3
 | .not t,k,d,e,ho,hp,h=>by
  obtain ⟨n,h1,rfl⟩:=Xq h
  exact ⟨trivial,by simp [PyData.depth]⟩
 | .turned t,k,d,e,ho,hp,h=>by
  obtain ⟨x,h1,h2⟩:=Xn h
  obtain ⟨p1,p2⟩:=Y2 (t:=t) ho hp h1
  have rv:∀ ys:List PyData,PyData.depthAll ys.reverse≤PyData.depthAll ys:=fun ys=>X1 fun d hd=>YU (List.mem_reverse.mp hd)
  have up:=Nat.mul_le_mul_left 64 (VB (show k+t.dep≤k+(t.dep+1) by omega))
  cases x with
  | list ys =>
   cases h2
   have:=rv ys
   simp only [PyData.depth] at p2 ⊢
   exact ⟨⟨by rw [List.length_reverse];exact Nat.le_trans p1.1 up,Uk p1.2⟩,by omega⟩
  | tuple ys =>
   cases h2
   have:=rv ys
   simp only [PyData.depth] at p2 ⊢
   exact ⟨⟨by rw [List.length_reverse];exact Nat.le_trans p1.1 up,Uk p1.2⟩,by omega⟩
  | str y=>cases h2;exact ⟨by show (Vz y).length≤_;rw [Uj];exact Nat.le_trans p1 up,by simp [PyData.depth]⟩
  | _=>cases h2
 | .same a b,k,d,e,ho,hp,h=>by
  simp only [tell] at h
  split at h
  ·cases h
  ·obtain ⟨y,_,rfl⟩:=Xq h
   exact ⟨trivial,by simp [PyData.depth]⟩
 | .both a b,k,d,e,ho,hp,h=>by
  simp only [tell] at h
  split at h
  ·cases h
  ·cases h;exact ⟨trivial,by simp [PyData.depth]⟩
  ·obtain ⟨y,_,rfl⟩:=Xq h
   exact ⟨trivial,by simp [PyData.depth]⟩
 | .when a b c,k,d,e,ho,hp,h=>by
  simp only [tell] at h
  split at h
  ·cases h
  ·obtain ⟨p1,p2⟩:=Y2 (t:=b) ho.2.1 hp h
   exact ⟨p1.mono (by simp only [Tm.dep];omega),p2⟩
  ·obtain ⟨p1,p2⟩:=Y2 (t:=c) ho.2.2 hp h
   exact ⟨p1.mono (by simp only [Tm.dep];omega),p2⟩
 | .each a b,k,d,e,ho,hp,h=>by
  simp only [tell] at h
  split at h
  ·cases h
  ·obtain ⟨y,rfl⟩:=W7 h
   exact ⟨trivial,by simp [PyData.depth]⟩
 | .joined a b,k,d,e,ho,hp,h=>by
  simp only [tell] at h
  have up:64*2^(k+(max a.dep b.dep+1))=64*2^(k+max a.dep b.dep)+64*2^(k+max a.dep b.dep):=by rw [← Nat.add_assoc,Nat.pow_succ];omega
  have u1:=Nat.mul_le_mul_left 64 (VB (show k+a.dep≤k+max a.dep b.dep by omega))
  have u2:=Nat.mul_le_mul_left 64 (VB (show k+b.dep≤k+max a.dep b.dep by omega))
  split at h
  ·cases h
  ·next xs hx =>
   obtain ⟨y,h1,h2⟩:=Xn h
   obtain ⟨p1,p2⟩:=Y2 (t:=a) ho.1 hp hx
   obtain ⟨p3,p4⟩:=Y2 (t:=b) ho.2 hp h1
   cases y with
   | list ys =>
    cases h2
    have p5:=p1.1
    have p6:=p3.1
    refine ⟨⟨?_,Yb4 p1.2 p3.2⟩,?_⟩
    ·show (xs++ys).length≤64*2^(k+(max a.dep b.dep+1))
     rw [List.length_append,up]
     omega
    ·simp only [PyData.depth] at p2 p4 ⊢
     have:PyData.depthAll (xs++ys)≤max (PyData.depthAll xs) (PyData.depthAll ys):=X1 fun z hz=>by
      rcases List.mem_append.mp hz with hz | hz
      ·have:=YU hz;omega
      ·have:=YU hz;omega
     omega
   | _=>cases h2
  ·next x hx =>
   obtain ⟨y,h1,h2⟩:=Xn h
   obtain ⟨p1,p2⟩:=Y2 (t:=a) ho.1 hp hx
   obtain ⟨p3,p4⟩:=Y2 (t:=b) ho.2 hp h1
   cases y with
   | str z =>
    cases h2
    refine ⟨?_,by simp [PyData.depth]⟩
    have p5:x.length≤64*2^(k+a.dep):=p1
    have p6:z.length≤64*2^(k+b.dep):=p3
    show (x++z).length≤64*2^(k+(max a.dep b.dep+1))
    rw [up,YaW]
    omega
   | _=>cases h2
  ·cases h
 | .plus a b,k,d,e,ho,hp,h=>by
  simp only [tell] at h
  split at h
  ·cases h
  ·next i hi =>
   obtain ⟨x,h1,h2⟩:=Xn hi
   obtain ⟨j,h3,rfl⟩:=Xq h
   obtain ⟨y,h4,h5⟩:=Xn h3
   obtain ⟨p1,_⟩:=Y2 (t:=a) ho.1 hp h1
   obtain ⟨p2,_⟩:=Y2 (t:=b) ho.2 hp h4
   cases x<;>cases h2
   cases y<;>cases h5
   refine ⟨?_,by simp [PyData.depth]⟩
   exact IB.add (n:=k+max a.dep b.dep) (IB.mono p1 (by omega)) (IB.mono p2 (by omega))
 | .times a b,k,d,e,ho,hp,h=>by
  simp only [tell] at h
  split at h
  ·cases h
  ·next i hi =>
   obtain ⟨x,h1,h2⟩:=Xn hi
   obtain ⟨j,h3,rfl⟩:=Xq h
   obtain ⟨y,h4,h5⟩:=Xn h3
   obtain ⟨p1,_⟩:=Y2 (t:=a) ho.1 hp h1
   obtain ⟨p2,_⟩:=Y2 (t:=b) ho.2 hp h4
   cases x<;>cases h2
   cases y<;>cases h5
   refine ⟨?_,by simp [PyData.depth]⟩
   exact IB.mul (n:=k+max a.dep b.dep) (IB.mono p1 (by omega)) (IB.mono p2 (by omega))
 | .less a b,k,d,e,ho,hp,h=>by
  simp only [tell] at h
  split at h
  ·cases h
  ·obtain ⟨j,h3,rfl⟩:=Xq h
   exact ⟨trivial,by simp [PyData.depth]⟩
end L2
namespace L2
open PySem PySem.Spec PyProof.Rows
section
variable {X:Cx} {k:Nat}
theorem VC {K:PySem.W.Frag} (hr:Room k X.A) (h:X.K=K:=by rfl):Xk X (.builtin "repr") (fun xs H Q=>∃ v d,xs=[v]∧Den K H v d∧d.showable=true∧d.depth≤100∧d.shown.length≤sizeLine∧Q (.str d.shown) H):=by
 subst h
 intro pins s σ H xs us Q I r h
 obtain ⟨v,d,rfl,hd,hs,dp,hz,q⟩:=h
 cases v with
 | ref a=>exact YcZ hr pins s σ H _ us Q I r ⟨a,d,rfl,hd,hs,dp,hz,q⟩
 | _ =>
  obtain ⟨u,rfl,ru⟩:=Wg r
  cases hd<;>first
   | (cases (show u=Value.none from ru);exact PySem.P.repr_of_none ⟨.str _,H,I.tok _,⟨_,rfl⟩,q⟩)
   | (cases (show u=Value.bool _ from ru);exact PySem.P.repr_of_bool ⟨.str _,H,I.tok _,⟨_,rfl⟩,q⟩)
   | (obtain ⟨t,rfl⟩:=ru;exact PySem.P.repr_of_int (of_decide_eq_true hs) ⟨.str _,H,I.tok _,⟨_,rfl⟩,q⟩)
   | (obtain ⟨t,rfl⟩:=ru;exact PySem.P.repr_of_str ⟨.str _,H,I.tok _,⟨_,rfl⟩,q⟩ hz)
end
mutual
def cnt:PyData→Nat
 | .list xs=>cnts xs+1
 | .tuple xs=>cnts xs
 | .dict _=>0
 | .none=>0
 | .bool _=>0
 | .int _=>0
 | .str _=>0
def cnts:List PyData→Nat
 | []=>0
 | d::ds=>cnt d+cnts ds
end
mutual
theorem DL.cnt {H:Hp}:∀ {v:V} {d:PyData} {L:List Addr},DL H v d L→L.length=L2.cnt d
 | _,_,_,.non=>rfl
 | _,_,_,.bl b=>rfl
 | _,_,_,.int i=>rfl
 | _,_,_,.str x h=>rfl
 | _,_,_,.lst h hn hs=>by rw [List.length_cons,hs.cnts];rfl
 | _,_,_,.tup h hn hs=>by rw [hs.cnts];rfl
theorem DLs.cnts {H:Hp}:∀ {vs:List V} {ds:List PyData} {L:List Addr},DLs H vs ds L→L.length=L2.cnts ds
 | _,_,_,.nil=>rfl
 | _,_,_,.cons h hs=>by rw [List.length_append,h.cnt,hs.cnts];rfl
end
theorem Yai {d:PyData}:∀ {ds:List PyData},d∈ds→cnt d≤cnts ds
 | e::ds,h=>by
  simp only [cnts]
  rcases List.mem_cons.mp h with rfl | h
  ·omega
  ·have:=Yai h;omega
theorem Uu:∀ (xs ys:List PyData),cnts (xs++ys)=cnts xs+cnts ys
 | [],ys=>by simp [cnts]
 | x::xs,ys=>by simp only [List.cons_append,cnts,Uu xs ys];omega
theorem Uv:∀ xs:List PyData,cnts xs.reverse=cnts xs
 | []=>rfl
 | x::xs=>by rw [List.reverse_cons,Uu,Uv xs];simp only [cnts];omega
theorem Ybp {n:Nat}:∀ {ds:List PyData},(∀ d∈ds,cnt d≤n)→cnts ds≤ds.length*n
 | [],_=>by simp [cnts]
 | e::ds,h=>by
  have h1:=h e (.head _)
  have h2:=Ybp (ds:=ds) fun d hd=>h d (.tail _ hd)
  simp only [cnts,List.length_cons,Nat.add_mul]
  omega
theorem Vk {c a b:Nat} (h:a≤b):c*2^a≤c*2^b:=Nat.mul_le_mul_left _ (VB h)
theorem X7:∀ {t:Tm} {d e:PyData},tell t d = .ok e→cnt e≤cnt d*2^t.dep
 | .num i,d,e,h=>by cases h;simp [cnt]
 | .here,d,e,h=>by cases h;simp [Tm.dep]
 | .part t z,d,e,h=>by
  obtain ⟨x,h1,h2⟩:=Xn h
  have p:=X7 (t:=t) h1
  obtain ⟨xs,h3,h4⟩:=Option.bind_eq_some_iff.mp h2
  have up:=Vk (c:=cnt d) (show t.dep≤(Tm.part t z).dep by simp only [Tm.dep];omega)
  split at h4
  ·have hm:=Yai (List.mem_of_getElem? h4)
   cases x with
   | list ys=>cases h3;simp only [cnt] at p;omega
   | tuple ys=>cases h3;simp only [cnt] at p;omega
   | _=>cases h3
  ·cases h4
 | .count t,d,e,h=>by obtain ⟨n,_,rfl⟩:=Xq h;simp [cnt]
 | .sum t,d,e,h=>by obtain ⟨n,_,rfl⟩:=Xq h;simp [cnt]
 | .not t,d,e,h=>by obtain ⟨n,_,rfl⟩:=Xq h;simp [cnt]
 | .turned t,d,e,h=>by
  obtain ⟨x,h1,h2⟩:=Xn h
  have p:=X7 (t:=t) h1
  have up:=Vk (c:=cnt d) (show t.dep≤(Tm.turned t).dep by simp only [Tm.dep];omega)
  cases x with
  | list ys=>cases h2;simp only [cnt,Uv] at p ⊢;omega
  | tuple ys=>cases h2;simp only [cnt,Uv] at p ⊢;omega
  | str y=>cases h2;simp [cnt]
  | _=>cases h2
 | .same a b,d,e,h=>by
  simp only [tell] at h
  split at h
  ·cases h
  ·obtain ⟨y,_,rfl⟩:=Xq h;simp [cnt]
 | .both a b,d,e,h=>by
  simp only [tell] at h
  split at h
  ·cases h
  ·cases h;simp [cnt]
  ·obtain ⟨y,_,rfl⟩:=Xq h;simp [cnt]
 | .when a b c,d,e,h=>by
  simp only [tell] at h
  have u1:=Vk (c:=cnt d) (show b.dep≤(Tm.when a b c).dep by simp only [Tm.dep];omega)
  have u2:=Vk (c:=cnt d) (show c.dep≤(Tm.when a b c).dep by simp only [Tm.dep];omega)
  split at h
  ·cases h
  ·have:=X7 (t:=b) h;omega
  ·have:=X7 (t:=c) h;omega
 | .each a b,d,e,h=>by
  simp only [tell] at h
  split at h
  ·cases h
  ·obtain ⟨y,rfl⟩:=W7 h;simp [cnt]
 | .joined a b,d,e,h=>by
  simp only [tell] at h
  have u1:=Vk (c:=cnt d) (show a.dep≤max a.dep b.dep by omega)
  have u2:=Vk (c:=cnt d) (show b.dep≤max a.dep b.dep by omega)
  have up:cnt d*2^(max a.dep b.dep+1)=cnt d*2^max a.dep b.dep+cnt d*2^max a.dep b.dep:=by rw [Nat.pow_succ,← Nat.mul_assoc];omega
  split at h
  ·cases h
  ·next xs hx =>
   obtain ⟨y,h1,h2⟩:=Xn h
   have p1:=X7 (t:=a) hx
   have p2:=X7 (t:=b) h1
   cases y with
   | list ys =>
    cases h2
    simp only [cnt,Uu,Tm.dep] at p1 p2 ⊢
    omega
   | _=>cases h2
  ·next x hx =>
   obtain ⟨y,h1,h2⟩:=Xn h
   cases y with
   | str z=>cases h2;simp [cnt]
   | _=>cases h2
  ·cases h
 | .plus a b,d,e,h=>by
  simp only [tell] at h
  split at h
  ·cases h
  ·obtain ⟨y,_,rfl⟩:=Xq h;simp [cnt]
 | .times a b,d,e,h=>by
  simp only [tell] at h
  split at h
  ·cases h
  ·obtain ⟨y,_,rfl⟩:=Xq h;simp [cnt]
 | .less a b,d,e,h=>by
  simp only [tell] at h
  split at h
  ·cases h
  ·obtain ⟨y,_,rfl⟩:=Xq h;simp [cnt]
def cb:Nat→Nat
 | 0=>0
 | n+1=>1+4*cb n
def sb:Nat→Nat
 | 0=>60
 | n+1=>4*sb n+11
theorem YeI {n m:Nat} (h:n≤m):sb n≤sb m:=by
 induction h with
 | refl=>exact Nat.le_refl _
 | step _ ih=>simp only [sb];omega
theorem QM (n:Nat):60≤sb n:=YeI (Nat.zero_le n)
structure Shw (n:Nat) (d:PyData):Prop where
 ok:d.showable=true
 len:d.shown.length≤sb n
 cn:cnt d≤cb n
theorem Ybq {n:Nat} {i:Int} (h:i.natAbs<10^45):Shw n (.int i):=by
 have h60:=QM n
 refine ⟨?_,?_,by simp [cnt]⟩
 ·show decide (i.natAbs.log2<1920)=true
  refine decide_eq_true ?_
  by_cases c:i.natAbs=0
  ·rw [c];decide
  ·refine (Nat.log2_lt c).mpr (Nat.lt_trans h ?_)
   exact Nat.lt_of_lt_of_le (by decide:10^45<2^200) (Nat.pow_le_pow_right (by decide) (by decide))
 ·have z:=int_text_length_le10 (a:=i) (k:=45) (by decide) h
  show (Str.ofString (toString i)).length≤sb n
  rw [PySem.ofString_length]
  omega
theorem YdT {n:Nat} (b:Bool):Shw n (.bool b):=by
 have h60:=QM n
 refine ⟨rfl,?_,by simp [cnt]⟩
 have:(PyData.shown (.bool b)).length≤5:=by cases b<;>decide +kernel
 omega
theorem YdU {n:Nat}:Shw n .none:=by
 have h60:=QM n
 refine ⟨rfl,?_,by simp [cnt]⟩
 have:(PyData.shown .none).length≤5:=by decide +kernel
 omega
theorem YeJ {n:Nat} {x:Str} (hl:x.length≤5) (hc:∀ c∈x.cps.toList,c<1000):Shw n (.str x):=by
 have h60:=QM n
 refine ⟨rfl,?_,by simp [cnt]⟩
 have:=PySem.StrLaws.reprText_len x fun c hcc=>Nat.lt_trans (hc c hcc) (by decide)
 show (reprText x).length≤sb n
 omega
theorem shws:∀ {n:Nat} {ds:List PyData},(∀ d∈ds,Shw n d)→PyData.showableAll ds=true∧((PyData.shownAll ds).map (·.length)).sum≤ds.length*sb n∧(PyData.shownAll ds).length=ds.length
 | n,[],_=>⟨rfl,by simp [PyData.shownAll],rfl⟩
 | n,d::ds,h=>by
  obtain ⟨a,b,c⟩:=shws (ds:=ds) fun e he=>h e (.tail _ he)
  have hd:=h d (.head _)
  refine ⟨?_,?_,?_⟩
  ·show (_&&_)=true
   rw [hd.ok,a];rfl
  ·simp only [PyData.shownAll,List.map_cons,List.sum_cons,List.length_cons,Nat.add_mul]
   have:=hd.len
   omega
  ·simp only [PyData.shownAll,List.length_cons,c]
theorem Yaj {n:Nat} {ds:List PyData} (hl:ds.length≤4) (h:∀ d∈ds,Shw n d):Shw (n+1) (.list ds)∧Shw (n+1) (.tuple ds):=by
 obtain ⟨a,b,c⟩:=shws h
 have hc:=Ybp (ds:=ds) (n:=cb n) fun d hd=>(h d hd).cn
 have h1:ds.length*cb n≤4*cb n:=Nat.mul_le_mul_right _ hl
 have h2:ds.length*sb n≤4*sb n:=Nat.mul_le_mul_right _ hl
 have z1:=listText_len_le (PyData.shownAll ds)
 have z2:=tupleText_len_le (PyData.shownAll ds)
 refine ⟨⟨a,?_,?_⟩,⟨a,?_,?_⟩⟩
 ·show (listText (PyData.shownAll ds)).length≤4*sb n+11
  omega
 ·simp only [cnt,cb];omega
 ·show (tupleText (PyData.shownAll ds)).length≤4*sb n+11
  omega
 ·simp only [cnt,cb];omega
end L2
set_option maxHeartbeats 8000000
namespace KW
open PySem L2
def top (i:Nat):Stmt:=PySem.Challenge.pw_countgen_k55_whole_terms_said.main.body.getD i (.Pass ⟨0,0,0,0⟩)
abbrev Uw:Stmt:=top 1
theorem Yc4:FnScope ["thing"] ["thing"] (Yn Uw):=⟨rfl,rfl,rfl,by decide +kernel,rfl,by decide +kernel,by decide +kernel⟩
abbrev Z0m:Stmt:=top 6
theorem Z1M:FnScope ["thing"] ["thing"] (Yn Z0m):=⟨rfl,rfl,rfl,by decide +kernel,rfl,by decide +kernel,by decide +kernel⟩
abbrev Z15:Stmt:=top 8
theorem Z0W:FnScope ["one","other","mine","others"] ["one","other"] (Yn Z15):=⟨rfl,rfl,rfl,by decide +kernel,rfl,by decide +kernel,by decide +kernel⟩
abbrev Yak:Stmt:=top 9
theorem YeK:FnScope ["one","other"] ["one","other"] (Yn Yak):=⟨rfl,rfl,rfl,by decide +kernel,rfl,by decide +kernel,by decide +kernel⟩
abbrev Z1i:Stmt:=top 10
theorem YaX:FnScope ["thing"] ["thing"] (Yn Z1i):=⟨rfl,rfl,rfl,by decide +kernel,rfl,by decide +kernel,by decide +kernel⟩
abbrev Z1N:Stmt:=top 11
theorem Yb5:FnScope ["thing"] ["thing"] (Yn Z1N):=⟨rfl,rfl,rfl,by decide +kernel,rfl,by decide +kernel,by decide +kernel⟩
abbrev Z1O:Stmt:=top 12
theorem Yb6:FnScope ["thing"] ["thing"] (Yn Z1O):=⟨rfl,rfl,rfl,by decide +kernel,rfl,by decide +kernel,by decide +kernel⟩
abbrev Z04:Stmt:=top 13
theorem Z1C:FnScope ["thing"] ["thing"] (Yn Z04):=⟨rfl,rfl,rfl,by decide +kernel,rfl,by decide +kernel,by decide +kernel⟩
abbrev Z0n:Stmt:=top 14
theorem Z1P:FnScope ["thing"] ["thing"] (Yn Z0n):=⟨rfl,rfl,rfl,by decide +kernel,rfl,by decide +kernel,by decide +kernel⟩
abbrev ZP:Stmt:=top 15
theorem Z0X:FnScope ["thing"] ["thing"] (Yn ZP):=⟨rfl,rfl,rfl,by decide +kernel,rfl,by decide +kernel,by decide +kernel⟩
abbrev Z01:Stmt:=top 16
theorem Z1j:FnScope ["thing"] ["thing"] (Yn Z01):=⟨rfl,rfl,rfl,by decide +kernel,rfl,by decide +kernel,by decide +kernel⟩
abbrev Qa:Stmt:=top 17
theorem Yal:FnScope ["mark","term","thing","can_take","found"] ["mark","term","thing","can_take"] (Yn Qa):=⟨rfl,rfl,rfl,by decide +kernel,rfl,by decide +kernel,by decide +kernel⟩
abbrev Z0s:Stmt:=top 18
theorem Z1Q:FnScope ["body","thing","place"] ["body","thing"] (Yn Z0s):=⟨rfl,rfl,rfl,by decide +kernel,rfl,by decide +kernel,by decide +kernel⟩
abbrev Z0M:Stmt:=top 19
theorem Z0C:FnScope ["mark","body","thing","one","other"] ["mark","body","thing"] (Yn Z0M):=⟨rfl,rfl,rfl,by decide +kernel,rfl,by decide +kernel,by decide +kernel⟩
abbrev Z16:Stmt:=top 20
theorem Yam:FnScope ["body","thing"] ["body","thing"] (Yn Z16):=⟨rfl,rfl,rfl,by decide +kernel,rfl,by decide +kernel,by decide +kernel⟩
abbrev Z17:Stmt:=top 21
theorem Yan:FnScope ["body","thing"] ["body","thing"] (Yn Z17):=⟨rfl,rfl,rfl,by decide +kernel,rfl,by decide +kernel,by decide +kernel⟩
abbrev Z18:Stmt:=top 22
theorem Yao:FnScope ["body","thing"] ["body","thing"] (Yn Z18):=⟨rfl,rfl,rfl,by decide +kernel,rfl,by decide +kernel,by decide +kernel⟩
abbrev Z19:Stmt:=top 23
theorem Z1R:FnScope ["body","thing","inner"] ["body","thing"] (Yn Z19):=⟨rfl,rfl,rfl,by decide +kernel,rfl,by decide +kernel,by decide +kernel⟩
abbrev Z0T:Stmt:=top 24
theorem Z1h:FnScope ["body","thing","one"] ["body","thing"] (Yn Z0T):=⟨rfl,rfl,rfl,by decide +kernel,rfl,by decide +kernel,by decide +kernel⟩
abbrev Yap:Stmt:=top 25
theorem Qb:FnScope ["term","thing","mark","body"] ["term","thing"] (Yn Yap):=⟨rfl,rfl,rfl,by decide +kernel,rfl,by decide +kernel,by decide +kernel⟩
abbrev Yaq:Stmt:=top 26
theorem YeL:FnScope ["term","thing"] ["term","thing"] (Yn Yaq):=⟨rfl,rfl,rfl,by decide +kernel,rfl,by decide +kernel,by decide +kernel⟩
abbrev Z1k:Stmt:=top 28
theorem YaY:FnScope ["_law_cells","_law_many"] ["_law_cells","_law_many"] (Yn Z1k):=⟨rfl,rfl,rfl,by decide +kernel,rfl,by decide +kernel,by decide +kernel⟩
abbrev Z1a:Stmt:=top 29
theorem Z05:FnScope ["_law_cells","_law_left","_law_first","_law_more","_law_kind","_law_some"] ["_law_cells","_law_left"] (Yn Z1a):=⟨rfl,rfl,rfl,by decide +kernel,rfl,by decide +kernel,by decide +kernel⟩
abbrev Z0N:Stmt:=top 30
theorem Z11:FnScope ["_law_cells","_law_first","_law_left","_law_kind"] ["_law_cells","_law_first","_law_left"] (Yn Z0N):=⟨rfl,rfl,rfl,by decide +kernel,rfl,by decide +kernel,by decide +kernel⟩
abbrev Z0o:Stmt:=top 31
theorem Z0Q:FnScope ["_law_cells","_law_first","_law_left","_law_kind"] ["_law_cells","_law_first","_law_left"] (Yn Z0o):=⟨rfl,rfl,rfl,by decide +kernel,rfl,by decide +kernel,by decide +kernel⟩
abbrev Z0x:Stmt:=top 32
theorem Z0U:FnScope ["_law_cells","_law_first","_law_left","_law_kind"] ["_law_cells","_law_first","_law_left"] (Yn Z0x):=⟨rfl,rfl,rfl,by decide +kernel,rfl,by decide +kernel,by decide +kernel⟩
abbrev Z1l:Stmt:=top 33
theorem ZZ:FnScope ["_law_cells","_law_wish","_law_left","_law_first","_law_inner"] ["_law_cells","_law_wish","_law_left"] (Yn Z1l):=⟨rfl,rfl,rfl,by decide +kernel,rfl,by decide +kernel,by decide +kernel⟩
abbrev Z1b:Stmt:=top 34
theorem Yar:FnScope ["_law_thing_here"] ["_law_thing_here"] (Yn Z1b):=⟨rfl,rfl,rfl,by decide +kernel,rfl,by decide +kernel,by decide +kernel⟩
abbrev Z1c:Stmt:=top 35
theorem Yas:FnScope ["_law_one","_law_other"] ["_law_one","_law_other"] (Yn Z1c):=⟨rfl,rfl,rfl,by decide +kernel,rfl,by decide +kernel,by decide +kernel⟩
abbrev Z1S:Stmt:=top 36
theorem Yb7:FnScope ["_law_mark","_law_place","_law_one","_law_other"] ["_law_mark","_law_place","_law_one","_law_other"] (Yn Z1S):=⟨rfl,rfl,rfl,by decide +kernel,rfl,by decide +kernel,by decide +kernel⟩
abbrev Z1d:Stmt:=top 37
theorem Z1T:FnScope ["_law_mark","_law_place","_law_term_here","_law_thing_here","_law_one","_law_found"] ["_law_mark","_law_place","_law_term_here","_law_thing_here","_law_one"] (Yn Z1d):=⟨rfl,rfl,rfl,by decide +kernel,rfl,by decide +kernel,by decide +kernel⟩
abbrev Z0y:Stmt:=top 38
theorem Z2e:FnScope ["_law_mark","_law_body","_law_found"] ["_law_mark","_law_body","_law_found"] (Yn Z0y):=⟨rfl,rfl,rfl,by decide +kernel,rfl,by decide +kernel,by decide +kernel⟩
abbrev Z0z:Stmt:=top 39
theorem Z2f:FnScope ["_law_mark","_law_one","_law_other"] ["_law_mark","_law_one","_law_other"] (Yn Z0z):=⟨rfl,rfl,rfl,by decide +kernel,rfl,by decide +kernel,by decide +kernel⟩
abbrev Z0O:Stmt:=top 40
theorem Z0D:FnScope ["_law_body","_law_rows","_law_row","_law_found"] ["_law_body","_law_rows"] (Yn Z0O):=⟨rfl,rfl,rfl,by decide +kernel,rfl,by decide +kernel,by decide +kernel⟩
abbrev Z1U:Stmt:=top 41
theorem ZV:FnScope ["_law_term_here","_law_thing_here","_law_mark","_law_body","_law_inner","_law_first","_law_other"] ["_law_term_here","_law_thing_here"] (Yn Z1U):=⟨rfl,rfl,rfl,by decide +kernel,rfl,by decide +kernel,by decide +kernel⟩
abbrev Z1e:Stmt:=top 42
theorem Z0Y:FnScope ["_law_value","_law_found","_law_inner"] ["_law_value"] (Yn Z1e):=⟨rfl,rfl,rfl,by decide +kernel,rfl,by decide +kernel,by decide +kernel⟩
abbrev Z1V:Stmt:=top 43
theorem Z0V:FnScope ["_law_value","_law_some","_law_sizes","_law_one"] ["_law_value"] (Yn Z1V):=⟨rfl,rfl,rfl,by decide +kernel,rfl,by decide +kernel,by decide +kernel⟩
abbrev Z1m:Stmt:=top 44
theorem Z0t:FnScope ["_law_term_here","_law_thing_here","_law_error","_law_found","e"] ["_law_term_here","_law_thing_here"] (Yn Z1m):=⟨rfl,rfl,rfl,by decide +kernel,rfl,by decide +kernel,by decide +kernel⟩
abbrev QN:Stmt:=top 45
theorem Wi:FnScope ["_law_script","_law_cells","_law_thing_here","_law_kept","_law_term_here","_law_due_here","_law_turn","_law_found"] ["_law_script"] (Yn QN):=⟨rfl,rfl,rfl,by decide +kernel,rfl,by decide +kernel,by decide +kernel⟩
abbrev Z0p:Stmt:=Yen (top 4) 0
theorem Z1W:FnScope ["self","mark"] ["self","mark"] (Yn Z0p):=⟨rfl,rfl,rfl,by decide +kernel,rfl,by decide +kernel,by decide +kernel⟩
theorem Z1X {g:Gx} {C B:Addr} (R:g.RawX "Astray" C "Astray.__init__" Z0p ["self","mark"]) (b:BInit g "CountError" B) (xf:ExFl g.K C B) (xn_mark:PySem.W.findIn g.K (.ref C) "mark"=some none):g.MaX "Astray" C ["self","mark"] ["mark"]:=by
 refine R.maX Z1W (fun vs H Q E h=>YeD h) fun f_ cdv A outer s H vs Q E hr h=>?_
 refine ⟨_,Yd (V4 (YdO b R.own (Ya (pv 0) (Ya Yi Yb)))) (Ye (YeC xf xn_mark (pv 0) (pv 1))),?_⟩
 exact spI_1 h
abbrev Z03:Expr:=lendE (inDef Z0s 1)
theorem Z2o:ClScope ["found","place"] ["found"] ["place"] (Yab Z03):=⟨rfl,rfl,rfl,by decide +kernel,rfl,rfl,by decide,by decide +kernel,by decide +kernel,by decide +kernel,by decide +kernel⟩
abbrev ZK:Str:="part_told.<locals>.<lambda>"
theorem WQ:((("part_told":Str)++(".<locals>.":Str))++("<lambda>":Str))=ZK:=by decide +kernel
abbrev ZW (cl:List (Str×Addr)) (c:Addr) (pm ctv:Value):FuncData:=PySem.W.kla_fn "<lambda>" ZK (Yey Z03) (Yez Z03) (Yab Z03) cl pm (.ref c) ctv
variable {g:Gx}
local macro_rules | `(tactic| walk_at "sd")=>`(tactic| simp (config:={ failIfUnchanged:=false,maxSteps:=10000000 }) only [l_num,l_here,l_count,l_sum,l_not,l_turned,l_plus,l_times,l_less,l_same,l_both,l_each,l_joined,l_part,l_when,ms_inj,in_cons,in_nil,Bool.or_false,Bool.false_or,Bool.or_self,Bool.true_or,Bool.or_true,reduceCtorEq,V.str.injEq,List.mem_cons,List.not_mem_nil,or_false,false_or,or_true,true_or,or_self,not_true_eq_false,not_false_eq_true,if_true,if_false,ite_true,ite_false,decide_true,decide_false,Bool.false_eq_true,and_true,true_and,and_false,false_and,false_implies,true_implies])
local macro_rules | `(tactic| walk_at "rd")=>`(tactic| simp (config:={ failIfUnchanged:=false,maxSteps:=10000000 }) only [L2.start,Ye9,nox_K,List.map_cons,List.map_nil,List.length_cons,List.length_nil,List.cons_append,List.nil_append,List.replicate_succ,List.replicate_zero,Nat.zero_add,Nat.reduceAdd,Nat.reduceSub,Nat.sub_self,Wv,tIfS,Yd6,tOp,tC,Wd,rI0,rI,rU,tUn,U0,tRetN,QD,Yd4,Ye1,tCont,tAsg,YD,WH,Xm,WV,Uo,tCB,UE,tTry,YcN,Yfc,sFld,tFld,tMake,tMeth,Ends.gone,YdB,tB,tAnd,tOr,tNot,Yd2,tOrV,Yd3,tIf,Yct,Yba,Yd7,tSl,Ycm,tAug,rIxL,rIxT,rSlL,tLst,tTup,WI,tRev,tLZ,tConT,Yfa,rBits,rFind,rIn,tBM,tBM0,Ybb,Yds,rEq,rNe,Yeq,Yer,rCat,rSetL,gSub,ipI,YN,List.getD_cons_zero,List.getD_cons_succ,decide_true,not_true_eq_false,not_false_eq_true,
 exists_eq_left',exists_eq_left,exists_eq',exists_eq,exists_and_left,and_assoc,Option.some.injEq,V.int.injEq,V.bl.injEq,V.ref.injEq,V.str.injEq,List.getElem?_cons_zero,List.getElem?_cons_succ,List.set_cons_zero,List.set_cons_succ,List.cons.injEq,and_true,true_and,List.append_nil,decide_eq_true_eq,Bool.not_eq_true',decide_eq_false_iff_not,Bool.not_not,Bool.not_true,Bool.not_false,Bool.true_eq_false,Bool.false_eq_true,if_true,if_false,ite_true,ite_false])
theorem cm {i j:Int} {m n:Nat} (h1:i.natAbs<2^m) (h2:j.natAbs<2^n) (h:m+n≤100000000:=by decide):QK i j:=⟨m,n,h1,h2,h⟩
theorem Qc {i j:Int} (h:0≤j∧j≤1000000∧i.natAbs<2^64:=by decide):CPow i j:=h
theorem few {n:Nat} (h:n≤100000):n≤sizeLine:=Nat.le_trans h (by decide)
theorem Qd (x:Int) {j:Int} (h:0<j):∃ r:Nat,x%j=r∧(r:Int)<j:=⟨(x%j).toNat,by have:=Int.emod_nonneg x (Int.ne_of_gt h);omega,by have:=Int.emod_lt_of_pos x h;have:=Int.emod_nonneg x (Int.ne_of_gt h);omega⟩
def Xf (f:PyData→Bool):Sp:=fun vs H Q _=>∃ (v:V) (d:PyData),vs=[v]∧DV H v d∧Q (.bl (f d)) H
theorem Z1Y {Z0 Z1:Addr} {c_part_told P_part_told:Addr} (R:g.Raw "is_whole_number" "is_whole_number" Z0m ["thing"]) (b_bool:g.mg "bool"=none) (b_int:g.mg "int"=none) (Z2:g.mg "isinstance"=none):g.Fn (1) "is_whole_number" ["thing"] (Xf isI):=by
 refine R.fn Z1M (fun vs H Q E h=>by obtain ⟨v,d,rfl,hd,q⟩:=h;rfl) fun f_ cdv A outer s H vs Q E hr h=>?_
 obtain ⟨v,d,rfl,hd,q⟩:=h
 refine ⟨_,(@Ye _ _ _ (@Yg _ _ _ _ (@XF _ _ _ _ _ _ _ (@Yz _ _ _ _ _ _ _ _ _ _ Z2 YA (@Ya _ _ _ _ _ (pv 0) (@Ya _ _ _ _ _ (@YG _ _ _ _ ("int") b_int (by decide +kernel) (by rfl) (by rfl) (by decide) (by decide)) Yb (by rfl)) (by rfl)) (by decide +kernel) (by rfl) (by rfl) (by decide) (by decide) (by rfl) (by rfl)) (@XE _ _ _ _ _ (@UA _ _ _ _ (@Yz _ _ _ _ _ _ _ _ _ _ Z2 YA (@Ya _ _ _ _ _ (pv 0) (@Ya _ _ _ _ _ (@YG _ _ _ _ ("bool") b_bool (by decide +kernel) (by rfl) (by rfl) (by decide) (by decide)) Yb (by rfl)) (by rfl)) (by decide +kernel) (by rfl) (by rfl) (by decide) (by decide) (by rfl) (by rfl))))))),?_⟩
 walk_at "rd"
 have ty:=hd.ty (K:=g.K)
 cases d with
 | bool b=>exact ⟨_,rfl,_,ty,true,rfl,VQ ⟨_,rfl,_,ty,true,rfl,q⟩⟩
 | int i=>exact ⟨_,rfl,_,ty,true,rfl,VQ ⟨_,rfl,_,ty,false,rfl,q⟩⟩
 | _=>exact ⟨_,rfl,_,ty,false,rfl,XR q⟩
theorem YaZ {Z0 Z1:Addr} {c_part_told P_part_told:Addr} (R:g.Raw "is_truth" "is_truth" Z1i ["thing"]) (b_bool:g.mg "bool"=none) (Z2:g.mg "isinstance"=none):g.Fn (1) "is_truth" ["thing"] (Xf isB):=by
 refine R.fn YaX (fun vs H Q E h=>by obtain ⟨v,d,rfl,hd,q⟩:=h;rfl) fun f_ cdv A outer s H vs Q E hr h=>?_
 obtain ⟨v,d,rfl,hd,q⟩:=h
 refine ⟨_,(@Ye _ _ _ (@Yg _ _ _ _ (@Yz _ _ _ _ _ _ _ _ _ _ Z2 YA (@Ya _ _ _ _ _ (pv 0) (@Ya _ _ _ _ _ (@YG _ _ _ _ ("bool") b_bool (by decide +kernel) (by rfl) (by rfl) (by decide) (by decide)) Yb (by rfl)) (by rfl)) (by decide +kernel) (by rfl) (by rfl) (by decide) (by decide) (by rfl) (by rfl)))),?_⟩
 walk_at "rd"
 have ty:=hd.ty (K:=g.K)
 cases d with
 | bool b=>exact ⟨_,rfl,_,ty,true,rfl,q⟩
 | _=>exact ⟨_,rfl,_,ty,false,rfl,q⟩
theorem Yb8 {Z0 Z1:Addr} {c_part_told P_part_told:Addr} (R:g.Raw "is_text" "is_text" Z1N ["thing"]) (Z2:g.mg "isinstance"=none) (b_str:g.mg "str"=none):g.Fn (1) "is_text" ["thing"] (Xf isS):=by
 refine R.fn Yb5 (fun vs H Q E h=>by obtain ⟨v,d,rfl,hd,q⟩:=h;rfl) fun f_ cdv A outer s H vs Q E hr h=>?_
 obtain ⟨v,d,rfl,hd,q⟩:=h
 refine ⟨_,(@Ye _ _ _ (@Yg _ _ _ _ (@Yz _ _ _ _ _ _ _ _ _ _ Z2 YA (@Ya _ _ _ _ _ (pv 0) (@Ya _ _ _ _ _ (@YG _ _ _ _ ("str") b_str (by decide +kernel) (by rfl) (by rfl) (by decide) (by decide)) Yb (by rfl)) (by rfl)) (by decide +kernel) (by rfl) (by rfl) (by decide) (by decide) (by rfl) (by rfl)))),?_⟩
 walk_at "rd"
 have ty:=hd.ty (K:=g.K)
 cases d with
 | str b=>exact ⟨_,rfl,_,ty,true,rfl,q⟩
 | _=>exact ⟨_,rfl,_,ty,false,rfl,q⟩
theorem Yb9 {Z0 Z1:Addr} {c_part_told P_part_told:Addr} (R:g.Raw "is_list" "is_list" Z1O ["thing"]) (Z2:g.mg "isinstance"=none) (b_list:g.mg "list"=none):g.Fn (1) "is_list" ["thing"] (Xf isL):=by
 refine R.fn Yb6 (fun vs H Q E h=>by obtain ⟨v,d,rfl,hd,q⟩:=h;rfl) fun f_ cdv A outer s H vs Q E hr h=>?_
 obtain ⟨v,d,rfl,hd,q⟩:=h
 refine ⟨_,(@Ye _ _ _ (@Yg _ _ _ _ (@Yz _ _ _ _ _ _ _ _ _ _ Z2 YA (@Ya _ _ _ _ _ (pv 0) (@Ya _ _ _ _ _ (@YG _ _ _ _ ("list") b_list (by decide +kernel) (by rfl) (by rfl) (by decide) (by decide)) Yb (by rfl)) (by rfl)) (by decide +kernel) (by rfl) (by rfl) (by decide) (by decide) (by rfl) (by rfl)))),?_⟩
 walk_at "rd"
 have ty:=hd.ty (K:=g.K)
 cases d with
 | list b=>exact ⟨_,rfl,_,ty,true,rfl,q⟩
 | _=>exact ⟨_,rfl,_,ty,false,rfl,q⟩
def Xl (d:PyData):Bool:=(YF d).isSome
def Wy (d:PyData):Bool:=isL d||isS d
def XQ (d:PyData):Bool:=(Wr d).isSome
def Wz (d:PyData):Bool:=((YF d).bind Xb).isSome
def XX (f:PyData→Bool):Sp:=fun vs H Q _=>∃ (v:V) (d:PyData),vs=[v]∧DV H v d∧∀ H',Yf H H'→Q (.bl (f d)) H'
theorem Z1D {Z0 Z1:Addr} {c_part_told P_part_told:Addr} (R:g.Raw "is_list_or_tuple" "is_list_or_tuple" Z04 ["thing"]) (Z2:g.mg "isinstance"=none) (b_list:g.mg "list"=none) (Z3:g.mg "tuple"=none):g.Fn (1) "is_list_or_tuple" ["thing"] (XX Xl):=by
 refine R.fn Z1C (fun vs H Q E h=>by obtain ⟨v,d,rfl,hd,q⟩:=h;rfl) fun f_ cdv A outer s H vs Q E hr h=>?_
 obtain ⟨v,d,rfl,hd,q⟩:=h
 refine ⟨_,(@Ye _ _ _ (@Yg _ _ _ _ (@Yz _ _ _ _ _ _ _ _ _ _ Z2 Y6 (@Ya _ _ _ _ _ (pv 0) (@Ya _ _ _ _ _ (@Yp _ _ _ _ _ (@Ya _ _ _ _ _ (@YG _ _ _ _ ("list") b_list (by decide +kernel) (by rfl) (by rfl) (by decide) (by decide)) (@Ya _ _ _ _ _ (@YG _ _ _ _ ("tuple") Z3 (by decide +kernel) (by rfl) (by rfl) (by decide) (by decide)) Yb (by rfl)) (by rfl))) Yb (YR _ _ _ _ _)) (by rfl)) (by decide +kernel) (by rfl) (by rfl) (by decide) (by decide) (by rfl) (by rfl)))),?_⟩
 walk_at "rd"
 refine ⟨by decide,fun p hp=>⟨["list","tuple"],Yh,?_⟩⟩
 have s:=Yf.upd_new hp (HO.tup [V.ty "list",V.ty "tuple"])
 have ty:=(hd.keep s).ty (K:=g.K)
 have q':=q _ s
 cases d with
 | list b=>exact ⟨_,ty,true,rfl,q'⟩
 | tuple b=>exact ⟨_,ty,true,rfl,q'⟩
 | _=>exact ⟨_,ty,false,rfl,q'⟩
theorem Z1Z {Z0 Z1:Addr} {c_part_told P_part_told:Addr} (R:g.Raw "is_list_or_text" "is_list_or_text" Z0n ["thing"]) (Z2:g.mg "isinstance"=none) (b_list:g.mg "list"=none) (b_str:g.mg "str"=none):g.Fn (1) "is_list_or_text" ["thing"] (XX Wy):=by
 refine R.fn Z1P (fun vs H Q E h=>by obtain ⟨v,d,rfl,hd,q⟩:=h;rfl) fun f_ cdv A outer s H vs Q E hr h=>?_
 obtain ⟨v,d,rfl,hd,q⟩:=h
 refine ⟨_,(@Ye _ _ _ (@Yg _ _ _ _ (@Yz _ _ _ _ _ _ _ _ _ _ Z2 Y6 (@Ya _ _ _ _ _ (pv 0) (@Ya _ _ _ _ _ (@Yp _ _ _ _ _ (@Ya _ _ _ _ _ (@YG _ _ _ _ ("list") b_list (by decide +kernel) (by rfl) (by rfl) (by decide) (by decide)) (@Ya _ _ _ _ _ (@YG _ _ _ _ ("str") b_str (by decide +kernel) (by rfl) (by rfl) (by decide) (by decide)) Yb (by rfl)) (by rfl))) Yb (YR _ _ _ _ _)) (by rfl)) (by decide +kernel) (by rfl) (by rfl) (by decide) (by decide) (by rfl) (by rfl)))),?_⟩
 walk_at "rd"
 refine ⟨by decide,fun p hp=>⟨["list","str"],Yh,?_⟩⟩
 have s:=Yf.upd_new hp (HO.tup [V.ty "list",V.ty "str"])
 have ty:=(hd.keep s).ty (K:=g.K)
 have q':=q _ s
 cases d with
 | list b=>exact ⟨_,ty,true,rfl,q'⟩
 | str b=>exact ⟨_,ty,true,rfl,q'⟩
 | _=>exact ⟨_,ty,false,rfl,q'⟩
theorem Z0Z {Z0 Z1:Addr} {c_part_told P_part_told:Addr} (R:g.Raw "is_list_tuple_or_text" "is_list_tuple_or_text" ZP ["thing"]) (Z2:g.mg "isinstance"=none) (b_list:g.mg "list"=none) (b_str:g.mg "str"=none) (Z3:g.mg "tuple"=none):g.Fn (1) "is_list_tuple_or_text" ["thing"] (XX XQ):=by
 refine R.fn Z0X (fun vs H Q E h=>by obtain ⟨v,d,rfl,hd,q⟩:=h;rfl) fun f_ cdv A outer s H vs Q E hr h=>?_
 obtain ⟨v,d,rfl,hd,q⟩:=h
 refine ⟨_,(@Ye _ _ _ (@Yg _ _ _ _ (@Yz _ _ _ _ _ _ _ _ _ _ Z2 Y6 (@Ya _ _ _ _ _ (pv 0) (@Ya _ _ _ _ _ (@Yp _ _ _ _ _ (@Ya _ _ _ _ _ (@YG _ _ _ _ ("list") b_list (by decide +kernel) (by rfl) (by rfl) (by decide) (by decide)) (@Ya _ _ _ _ _ (@YG _ _ _ _ ("tuple") Z3 (by decide +kernel) (by rfl) (by rfl) (by decide) (by decide)) (@Ya _ _ _ _ _ (@YG _ _ _ _ ("str") b_str (by decide +kernel) (by rfl) (by rfl) (by decide) (by decide)) Yb (by rfl)) (by rfl)) (by rfl))) Yb (YR _ _ _ _ _)) (by rfl)) (by decide +kernel) (by rfl) (by rfl) (by decide) (by decide) (by rfl) (by rfl)))),?_⟩
 walk_at "rd"
 refine ⟨by decide,fun p hp=>⟨["list","tuple","str"],Yh,?_⟩⟩
 have s:=Yf.upd_new hp (HO.tup [V.ty "list",V.ty "tuple",V.ty "str"])
 have ty:=(hd.keep s).ty (K:=g.K)
 have q':=q _ s
 cases d with
 | list b=>exact ⟨_,ty,true,rfl,q'⟩
 | tuple b=>exact ⟨_,ty,true,rfl,q'⟩
 | str b=>exact ⟨_,ty,true,rfl,q'⟩
 | _=>exact ⟨_,ty,false,rfl,q'⟩
theorem WR:∀ ds:List PyData,(Xb ds).isSome=ds.all isI
 | []=>rfl
 | .int i::ds=>by rw [List.all_cons,← WR ds];simp [Xb,isI]
 | .none::_=>rfl
 | .bool _::_=>rfl
 | .str _::_=>rfl
 | .list _::_=>rfl
 | .tuple _::_=>rfl
 | .dict _::_=>rfl
theorem Yat (f:PyData→Bool):∀ ds:List PyData,((ds.map f).all id)=ds.all f
 | []=>rfl
 | d::ds=>by rw [List.map_cons,List.all_cons,List.all_cons,Yat f ds];rfl
theorem Ua {src:List (Option Nat)} {a b:TI} {gg:TG} {tt:TT} {te:TE} {σ:St} {H:Hp} {Q:VK} (h:tLC src a gg tt te σ H Q):tLC src (iOr a b) gg tt te σ H Q:=.inl h
theorem Ub {src:List (Option Nat)} {a b:TI} {gg:TG} {tt:TT} {te:TE} {σ:St} {H:Hp} {Q:VK} (h:tLC src b gg tt te σ H Q):tLC src (iOr a b) gg tt te σ H Q:=.inr h
theorem Z1n {k:Nat} {Z0 Z1:Addr} {c_part_told P_part_told:Addr} (R:g.Raw "are_whole_numbers" "are_whole_numbers" Z01 ["thing"]) (Zp:g.Fn k "is_whole_number" ["thing"] (Xf isI)) (Zb:g.Fn k "is_list_or_tuple" ["thing"] (XX Xl)) (b_all:g.mg "all"=none):g.Fn (k+1) "are_whole_numbers" ["thing"] (XX Wz):=by
 refine R.fn Z1j (fun vs H Q E h=>by obtain ⟨v,d,rfl,hd,q⟩:=h;rfl) fun f_ cdv A outer s H vs Q E hr h=>?_
 obtain ⟨v,d,rfl,hd,q⟩:=h
 refine ⟨_,(@Ye _ _ _ (@Yg _ _ _ _ (@XF _ _ _ _ _ _ _ (@Yt _ _ _ _ _ _ _ _ _ _ _ _ Zb hr (@Ya _ _ _ _ _ (pv 0) Yb (by rfl)) (by omega) (by rfl) (by rfl) (by decide) (by rfl) (by rfl)) (@XE _ _ _ _ _ (@Yz _ _ _ _ _ _ _ _ _ _ b_all (Wj rfl) (@Ya _ _ _ _ _ (@W0 _ _ _ _ _ _ _ ([none]) ((["each"]:List Str)) _ (YD 0) _ _ (.own .nil) rfl (@WD _ _ _ _ _ (@XG _ _ _ _ (pv 0)) (@WJ _ _ _ _ (pv 0))) (fun cl C s₀ H₀ fp pn=>(@YZ _ _ (0) _ (show List.Nodup (["each"]:List Str) by decide +kernel) rfl (.inl rfl) (.inr rfl))) (fun cl C s₀ H₀ fp pn=>Xw) (fun cl C s₀ H₀ fp pn=>(@Yt _ _ _ _ _ _ _ _ _ _ _ _ Zp hr (@Ya _ _ _ _ _ (pv 0) Yb (by rfl)) (by omega) (by rfl) (by rfl) (by decide) (by rfl) (by rfl))) (by intro x hx;simp at hx) (by rfl) (by decide) (by decide +kernel) (by intro _;rfl)) Yb (by rfl)) (by decide +kernel) (by rfl) (by rfl) (by decide) (by decide) (by rfl) (by rfl)))))),?_⟩
 walk_at "rd"
 refine ⟨v,d,rfl,hd,fun H1 s1=>⟨_,rfl,?_⟩⟩
 have hd1:=hd.keep s1
 have core:∀ (a:Addr) (vs:List V) (ds:List PyData),YF d=some ds→DVs H1 vs ds→(∀ D H2,Yf H1 H2→H2 D=some (.lst ((ds.map isI).map V.bl))→∃ p,V.ref D=V.ref p∧∃ x,SqL g.K H2 p (List.map V.bl x)∧Q (V.bl (x.all id)) H2):=fun a vs ds e hds D H2 s2 hD=>by
  refine ⟨D,rfl,ds.map isI,SqL.of hD,?_⟩
  have:=q _ (s1.trans s2)
  have e2:Wz d=(ds.map isI).all id:=by
   unfold Wz
   rw [e,Yat]
   exact WR ds
  rw [e2] at this
  exact this
 cases d with
 | list ds =>
  obtain ⟨a,vs,rfl,ha,hl,hds⟩:=hd1.ilst
  have hlen:=hds.length
  refine YV rfl (Ua (Q6 (K:=g.K) (a:=a) (xs:=vs) ((ds.map isI).map V.bl) (fun R r=>by walk_at "rd";exact r) (SqL.of ha) (by simp [hlen]) (by omega) (fun i x y H' hx hy sm R r=>by
   obtain ⟨e,he,hv⟩:=hds.at hx
   rw [List.map_map,List.getElem?_map,he] at hy
   cases hy
   walk_at "rd"
   exact ⟨x,e,rfl,hv.keep sm,r H' (.refl _)⟩) fun D H2 _ s2 hD=>core a vs ds rfl hds D H2 s2 hD))
 | tuple ds =>
  obtain ⟨a,vs,rfl,ha,hl,hds⟩:=hd1.itup
  have hlen:=hds.length
  refine YV rfl (Ub (Q7 (K:=g.K) (xs:=vs) ((ds.map isI).map V.bl) (fun R r=>by walk_at "rd";exact r a _ (.refl _) (SqT.of ha)) (by simp [hlen]) (by omega) (fun i x y H' hx hy sm R r=>by
   obtain ⟨e,he,hv⟩:=hds.at hx
   rw [List.map_map,List.getElem?_map,he] at hy
   cases hy
   walk_at "rd"
   exact ⟨x,e,rfl,hv.keep sm,r H' (.refl _)⟩) fun D H2 _ s2 hD=>core a vs ds rfl hds D H2 s2 hD))
 | _=>exact Yv (by simp [Xl,YF]) (q _ s1)
def Rw (H:Hp) (v:V) (ds:List PyData) (b:Bool) (a:Addr) (vs:List V):Prop:=v = .ref a∧H a=some (if b then .lst vs else .tup vs)∧vs.length≤10000∧DVs H vs ds
def Z0E (K:PySem.W.Frag) (m:Nat):Sp:=fun vs H Q _=>∃ (v w:V) (ds es:List PyData) (b:Bool) (a a':Addr) (us us':List V),vs=[v,w]∧Rw H v ds b a us∧Rw H w es b a' us'∧2*PyData.depthAll ds+2≤m∧∀ H',Yf H H'→Q (.bl (sm (.list ds) (.list es))) H'
def Vl (K:PySem.W.Frag) (m:Nat):Sp:=fun vs H Q _=>∃ (v w:V) (d e:PyData),vs=[v,w]∧DV H v d∧DV H w e∧2*d.depth+1≤m∧∀ H',Yf H H'→Q (.bl (sm d e)) H'
theorem Yau {K:PySem.W.Frag} {vs:List V} {H:Hp} {Q:VK} {E:XK} (h:Z0E K 0 vs H Q E):False:=by
 obtain ⟨v,w,ds,es,b,a,a',us,us',_,_,_,h,_⟩:=h
 omega
theorem YeM {K:PySem.W.Frag} {vs:List V} {H:Hp} {Q:VK} {E:XK} (h:Vl K 0 vs H Q E):False:=by
 obtain ⟨v,w,d,e,_,_,_,h,_⟩:=h
 omega
theorem Z20 {k:Nat} {Z0 Z1:Addr} {c_part_told P_part_told:Addr} (R:g.Raw "same_each" "same_each" Z15 ["one","other"]) (F_same:g.Fn k "same" ["one","other"] (Vl g.K m)) (b_len:g.mg "len"=none) (b_zip:g.mg "zip"=none):g.Fn (k+1) "same_each" ["one","other"] (Z0E g.K (m+1)):=by
 refine R.fn Z0W (fun vs H Q E h=>by obtain ⟨v,w,ds,es,b,a,a',us,us',rfl,⟨rfl,ha,hl,hd⟩,⟨rfl,ha',hl',hd'⟩,hm,q⟩:=h;rfl) fun f_ cdv A outer s H vs Q E hr h=>?_
 obtain ⟨v,w,ds,es,b,a,a',us,us',rfl,⟨rfl,ha,hl,hd⟩,⟨rfl,ha',hl',hd'⟩,hm,q⟩:=h
 refine ⟨_,(@Yd _ _ _ _ _ (@Yo _ _ _ _ _ _ _ _ (@Yk _ _ _ _ _ _ _ _ V5 (@Yz _ _ _ _ _ _ _ _ _ _ b_len Xe (@Ya _ _ _ _ _ (pv 0) Yb (by rfl)) (by decide +kernel) (by rfl) (by rfl) (by decide) (by decide) (by rfl) (by rfl)) (@Yz _ _ _ _ _ _ _ _ _ _ b_len Xe (@Ya _ _ _ _ _ (pv 1) Yb (by rfl)) (by decide +kernel) (by rfl) (by rfl) (by decide) (by decide) (by rfl) (by rfl)) (Yl _)) (@Ye _ _ _ (@Yg _ _ _ _ We)) Yj) (@Yd _ _ _ _ _ (@Va _ _ _ _ _ _ _ _ PassesOwn.never rfl (@WD _ _ _ _ _ (@Ybg _ _ _ _ _ _ _ _ _ rfl b_zip (@Ya _ _ _ _ _ (pv 0) (@Ya _ _ _ _ _ (pv 1) Yb (by rfl)) (by rfl)) (by rfl) (by rfl)) (@Ybf _ _ _ _ _ _ _ _ _ rfl b_zip (@Ya _ _ _ _ _ (pv 0) (@Ya _ _ _ _ _ (pv 1) Yb (by rfl)) (by rfl)) (by rfl) (by rfl))) (@Ycn _ _ _ _ _ (2) rfl (@Vr _ _ _ _ _ (@YZ _ _ (2) _ Z0W.nd rfl (.inl rfl) (by first | exact .inl rfl | exact .inr rfl | assumption)) (@Vr _ _ _ _ _ (@YZ _ _ (3) _ Z0W.nd rfl (.inl rfl) (by first | exact .inl rfl | exact .inr rfl | assumption)) Ya3 (by rfl)) (by rfl)) (by rfl) (by rfl)) (@Ye _ _ _ (@Yo _ _ _ _ _ _ _ _ (@X0 _ _ _ _ (@Y1 _ _ _ (@Yt _ _ _ _ _ _ _ _ _ _ _ _ F_same hr (@Ya _ _ _ _ _ (pv 2) (@Ya _ _ _ _ _ (pv 3) Yb (by rfl)) (by rfl)) (by omega) (by rfl) (by rfl) (by decide) (by rfl) (by rfl)) (by intro _;rfl))) (@Ye _ _ _ (@Yg _ _ _ _ We)) Yj)) (by intro _;rfl)) (@Ye _ _ _ (@Yg _ _ _ _ We)))),?_⟩
 have n1:=hd.length
 have n2:=hd'.length
 have key:∀ {H':Hp} {c:Addr} {vs:List V},H' c=some (if b=true then .lst vs else .tup vs)→(if b=true then SqL g.K H' c vs else SqT g.K H' c vs):=fun {H' c vs} h=>by
  cases b with
  | true=>exact SqL.of (by simpa using h)
  | false=>exact SqT.of (by simpa using h)
 have sq:∀ {c:Addr} {vs:List V},H c=some (if b=true then .lst vs else .tup vs)→SqL g.K H c vs∨SqT g.K H c vs:=fun {c vs} h=>by
  have:=key h
  cases b with
  | true=>exact .inl (by simpa using this)
  | false=>exact .inr (by simpa using this)
 walk_at "rd"
 refine ⟨us,sq ha,us',sq ha',YB (fun c=>?_) (fun c=>?_)⟩
 ·rw [W3 fun z=>?_] at q
  ·exact q H (.refl _)
  ·have e:ds=es:=by injection z
   rw [e] at n1
   omega
 ·have hll:us.length=us'.length:=by omega
  refine YcW (K:=g.K) b 2 3 (xs:=us) (ys:=us') (fun a1 a2 n σ H'=>a1=a∧a2=a'∧(∃ o2 o3,σ=[some (.ref a),some (.ref a'),o2,o3])∧Yf H H'∧∀ (j:Nat) d e,j<n→ds[j]?=some d→es[j]?=some e→d=e) (fun R r=>by walk_at "rd";exact r a a' H ⟨rfl,rfl,⟨_,_,rfl⟩,.refl _,fun j d e hj=>by omega⟩) (fun a1 a2 n σ H' _ ⟨e1,e2,_,s,_⟩=>by subst e1 e2;exact ⟨key (s _ _ ha),key (s _ _ ha')⟩) ?_ ?_
  ·rintro a1 a2 n x y σ H' T hx hy ⟨rfl,rfl,⟨o2,o3,rfl⟩,s1,hall⟩ hT
   have sT:=Yf.upd_new hT (.tup [x,y])
   obtain ⟨d,hd1,hd2⟩:=hd.at hx
   obtain ⟨e,he1,he2⟩:=hd'.at hy
   have hdd:=YU (List.mem_of_getElem? hd1)
   walk_at "rd"
   refine ⟨x,y,d,e,rfl,hd2.keep (s1.trans sT),he2.keep (s1.trans sT),by omega,fun H2 s2=>⟨_,rfl,?_⟩⟩
   cases hsm:sm d e with
   | false =>
    refine YV rfl ?_
    rw [W3 fun z=>?_] at q
    ·exact q H2 ((s1.trans sT).trans s2)
    ·have e1:ds=es:=by injection z
     rw [e1,he1] at hd1
     have:d=e:=(Option.some.inj hd1).symm
     rw [this,XM] at hsm
     cases hsm
   | true =>
    refine Yv (by decide) ⟨(s1.trans sT).trans s2,fun j d' e' hj h1 h2=>?_⟩
    by_cases c:j<n
    ·exact hall j d' e' c h1 h2
    ·have:j=n:=by omega
     subst this
     rw [hd1] at h1
     rw [he1] at h2
     cases h1
     cases h2
     exact VA.mp hsm
  ·rintro a1 a2 σ H' ⟨rfl,rfl,⟨o2,o3,rfl⟩,s1,hall⟩
   walk_at "rd"
   have e:ds=es:=by
    refine List.ext_getElem? fun j=>?_
    by_cases c:j<ds.length
    ·have h1:ds[j]?=some ds[j]:=List.getElem?_eq_getElem c
     have h2:es[j]?=some (es[j]'(by omega)):=List.getElem?_eq_getElem _
     rw [h1,h2,hall j _ _ (by omega) h1 h2]
    ·rw [List.getElem?_eq_none (by omega),List.getElem?_eq_none (by omega)]
   rw [e,XM] at q
   exact q H' s1
theorem Vm {d e:PyData} (f:PyData→Bool) (h:f d≠f e):sm d e=false:=W3 fun z=>h (by rw [z])
theorem Yav (a b:Bool):(PyData.bool a).eqv (.bool b)=sm (.bool a) (.bool b):=by
 cases a<;>cases b<;>first | (rw [XM];rfl) | (rw [W3 (by intro z;cases z)];rfl)
theorem Ybr (a b:Int):(PyData.int a).eqv (.int b)=sm (.int a) (.int b):=by
 by_cases h:a=b
 ·subst h;rw [XM];simp [PyData.eqv]
 ·rw [W3 (by intro z;cases z;exact h rfl)];simp [PyData.eqv,h]
theorem Ybs (a b:Str):(PyData.str a).eqv (.str b)=sm (.str a) (.str b):=by
 by_cases h:a=b
 ·subst h;rw [XM];simp [PyData.eqv]
 ·rw [W3 (by intro z;cases z;exact h rfl)];simp [PyData.eqv,h]
theorem inon {H:Hp} {v:V} (h:DV H v .none):v = .non:=by obtain ⟨L,h⟩:=h;cases h;rfl
theorem YeN {H:Hp} {v:V} {d:PyData} (h:DV H v d) (n:d ≠ .none):v ≠ .non:=by
 obtain ⟨L,h⟩:=h
 rintro rfl
 cases h
 exact n rfl
theorem Ybt {k:Nat} {Z0 Z1:Addr} {c_part_told P_part_told:Addr} (R:g.Raw "same" "same" Yak ["one","other"]) (Zp:g.Fn k "is_whole_number" ["thing"] (Xf isI)) (Z2l:g.Fn k "same_each" ["one","other"] (Z0E g.K m)) (ZB:g.Fn k "is_truth" ["thing"] (Xf isB)) (Z0R:g.Fn k "is_text" ["thing"] (Xf isS)) (Z12:g.Fn k "is_list" ["thing"] (Xf isL)) (Z2:g.mg "isinstance"=none) (Z3:g.mg "tuple"=none):g.Fn (k+1) "same" ["one","other"] (Vl g.K (m+1)):=by
 refine R.fn YeK (fun vs H Q E h=>by obtain ⟨v,w,d,e,rfl,hv,hw,hm,q⟩:=h;rfl) fun f_ cdv A outer s H vs Q E hr h=>?_
 obtain ⟨v,w,d,e,rfl,hv,hw,hm,q⟩:=h
 refine ⟨_,(@Yd _ _ _ _ _ (@Yo _ _ _ _ _ _ _ _ (@Y1 _ _ _ (@Yt _ _ _ _ _ _ _ _ _ _ _ _ ZB hr (@Ya _ _ _ _ _ (pv 0) Yb (by rfl)) (by omega) (by rfl) (by rfl) (by decide) (by rfl) (by rfl)) (by intro _;rfl)) (@Ye _ _ _ (@Yg _ _ _ _ (@XF _ _ _ _ _ _ _ (@Yt _ _ _ _ _ _ _ _ _ _ _ _ ZB hr (@Ya _ _ _ _ _ (pv 1) Yb (by rfl)) (by omega) (by rfl) (by rfl) (by decide) (by rfl) (by rfl)) (@XE _ _ _ _ _ (@Xs _ _ _ _ _ _ _ _ (Vf hr.units) (pv 0) (pv 1) (Yl _)))))) Yj) (@Yd _ _ _ _ _ (@Yo _ _ _ _ _ _ _ _ (@Y1 _ _ _ (@Yt _ _ _ _ _ _ _ _ _ _ _ _ Zp hr (@Ya _ _ _ _ _ (pv 0) Yb (by rfl)) (by omega) (by rfl) (by rfl) (by decide) (by rfl) (by rfl)) (by intro _;rfl)) (@Ye _ _ _ (@Yg _ _ _ _ (@XF _ _ _ _ _ _ _ (@Yt _ _ _ _ _ _ _ _ _ _ _ _ Zp hr (@Ya _ _ _ _ _ (pv 1) Yb (by rfl)) (by omega) (by rfl) (by rfl) (by decide) (by rfl) (by rfl)) (@XE _ _ _ _ _ (@Xs _ _ _ _ _ _ _ _ (Vf hr.units) (pv 0) (pv 1) (Yl _)))))) Yj) (@Yd _ _ _ _ _ (@Yo _ _ _ _ _ _ _ _ (@Y1 _ _ _ (@Yt _ _ _ _ _ _ _ _ _ _ _ _ Z0R hr (@Ya _ _ _ _ _ (pv 0) Yb (by rfl)) (by omega) (by rfl) (by rfl) (by decide) (by rfl) (by rfl)) (by intro _;rfl)) (@Ye _ _ _ (@Yg _ _ _ _ (@XF _ _ _ _ _ _ _ (@Yt _ _ _ _ _ _ _ _ _ _ _ _ Z0R hr (@Ya _ _ _ _ _ (pv 1) Yb (by rfl)) (by omega) (by rfl) (by rfl) (by decide) (by rfl) (by rfl)) (@XE _ _ _ _ _ (@Xs _ _ _ _ _ _ _ _ (Vf hr.units) (pv 0) (pv 1) (Yl _)))))) Yj) (@Yd _ _ _ _ _ (@Yo _ _ _ _ _ _ _ _ (@Y1 _ _ _ (@Yt _ _ _ _ _ _ _ _ _ _ _ _ Z12 hr (@Ya _ _ _ _ _ (pv 0) Yb (by rfl)) (by omega) (by rfl) (by rfl) (by decide) (by rfl) (by rfl)) (by intro _;rfl)) (@Ye _ _ _ (@Yg _ _ _ _ (@XF _ _ _ _ _ _ _ (@Yt _ _ _ _ _ _ _ _ _ _ _ _ Z12 hr (@Ya _ _ _ _ _ (pv 1) Yb (by rfl)) (by omega) (by rfl) (by rfl) (by decide) (by rfl) (by rfl)) (@XE _ _ _ _ _ (@Yt _ _ _ _ _ _ _ _ _ _ _ _ Z2l hr (@Ya _ _ _ _ _ (pv 0) (@Ya _ _ _ _ _ (pv 1) Yb (by rfl)) (by rfl)) (by omega) (by rfl) (by rfl) (by decide) (by rfl) (by rfl)))))) Yj) (@Yd _ _ _ _ _ (@Yo _ _ _ _ _ _ _ _ (@Y1 _ _ _ (@Yz _ _ _ _ _ _ _ _ _ _ Z2 YA (@Ya _ _ _ _ _ (pv 0) (@Ya _ _ _ _ _ (@YG _ _ _ _ ("tuple") Z3 (by decide +kernel) (by rfl) (by rfl) (by decide) (by decide)) Yb (by rfl)) (by rfl)) (by decide +kernel) (by rfl) (by rfl) (by decide) (by decide) (by rfl) (by rfl)) (by intro _;rfl)) (@Ye _ _ _ (@Yg _ _ _ _ (@XF _ _ _ _ _ _ _ (@Yz _ _ _ _ _ _ _ _ _ _ Z2 YA (@Ya _ _ _ _ _ (pv 1) (@Ya _ _ _ _ _ (@YG _ _ _ _ ("tuple") Z3 (by decide +kernel) (by rfl) (by rfl) (by decide) (by decide)) Yb (by rfl)) (by rfl)) (by decide +kernel) (by rfl) (by rfl) (by decide) (by decide) (by rfl) (by rfl)) (@XE _ _ _ _ _ (@Yt _ _ _ _ _ _ _ _ _ _ _ _ Z2l hr (@Ya _ _ _ _ _ (pv 0) (@Ya _ _ _ _ _ (pv 1) Yb (by rfl)) (by rfl)) (by omega) (by rfl) (by rfl) (by decide) (by rfl) (by rfl)))))) Yj) (@Ye _ _ _ (@Yg _ _ _ _ (@XF _ _ _ _ _ _ _ (@Xs _ _ _ _ _ _ _ _ QW (pv 0) XZ (Yl _)) (@XE _ _ _ _ _ (@Xs _ _ _ _ _ _ _ _ QW (pv 1) XZ (Yl _))))))))))),?_⟩
 have tyv:=hv.ty (K:=g.K)
 have tyw:=hw.ty (K:=g.K)
 have q0:=q H (.refl _)
 have hno:∀ f:PyData→Bool,f d=true→f e=false→Q (.bl false) H:=fun f h1 h2=>by
  rw [Vm f (by rw [h1,h2];decide)] at q0
  exact q0
 walk_at "rd"
 cases d with
 | bool b =>
  refine ⟨_,_,rfl,hv,_,rfl,YV rfl ⟨_,_,rfl,hw,_,rfl,?_⟩⟩
  cases e with
  | bool b'=>exact YV rfl ⟨_,hv.den,_,hw.den,by simp [PyData.depth],by rw [Yav];exact q0⟩
  | _=>exact Yv (by simp [isB]) (hno isB rfl rfl)
 | int i =>
  refine ⟨_,_,rfl,hv,_,rfl,Yv (by simp [isB]) ⟨_,_,rfl,hv,_,rfl,YV rfl ⟨_,_,rfl,hw,_,rfl,?_⟩⟩⟩
  cases e with
  | int j=>exact YV rfl ⟨_,hv.den,_,hw.den,by simp [PyData.depth],by rw [Ybr];exact q0⟩
  | _=>exact Yv (by simp [isI]) (hno isI rfl rfl)
 | str x =>
  refine ⟨_,_,rfl,hv,_,rfl,Yv (by simp [isB]) ⟨_,_,rfl,hv,_,rfl,Yv (by simp [isI]) ⟨_,_,rfl,hv,_,rfl,YV rfl ⟨_,_,rfl,hw,_,rfl,?_⟩⟩⟩⟩
  cases e with
  | str y=>exact YV rfl ⟨_,hv.den,_,hw.den,by simp [PyData.depth],by rw [Ybs];exact q0⟩
  | _=>exact Yv (by simp [isS]) (hno isS rfl rfl)
 | list ds =>
  obtain ⟨a,vs,rfl,ha,hl,hds⟩:=hv.ilst
  simp only [PyData.depth] at hm
  refine ⟨_,_,rfl,hv,_,rfl,Yv (by simp [isB]) ⟨_,_,rfl,hv,_,rfl,Yv (by simp [isI]) ⟨_,_,rfl,hv,_,rfl,Yv (by simp [isS]) ⟨_,_,rfl,hv,_,rfl,YV rfl ⟨_,_,rfl,hw,_,rfl,?_⟩⟩⟩⟩⟩
  cases e with
  | list es =>
   obtain ⟨a',vs',rfl,ha',hl',hes⟩:=hw.ilst
   exact YV rfl ⟨_,_,ds,es,true,a,a',vs,vs',rfl,⟨rfl,by simpa using ha,hl,hds⟩,⟨rfl,by simpa using ha',hl',hes⟩,by omega,fun H' s'=>q H' s'⟩
  | _=>exact Yv (by simp [isL]) (hno isL rfl rfl)
 | tuple ds =>
  obtain ⟨a,vs,rfl,ha,hl,hds⟩:=hv.itup
  simp only [PyData.depth] at hm
  refine ⟨_,_,rfl,hv,_,rfl,Yv (by simp [isB]) ⟨_,_,rfl,hv,_,rfl,Yv (by simp [isI]) ⟨_,_,rfl,hv,_,rfl,Yv (by simp [isS]) ⟨_,_,rfl,hv,_,rfl,Yv (by simp [isL]) ⟨_,rfl,_,tyv,true,rfl,YV rfl ?_⟩⟩⟩⟩⟩
  cases e with
  | tuple es =>
   obtain ⟨a',vs',rfl,ha',hl',hes⟩:=hw.itup
   refine ⟨_,rfl,_,tyw,true,rfl,VQ ⟨_,_,ds,es,false,a,a',vs,vs',rfl,⟨rfl,by simpa using ha,hl,hds⟩,⟨rfl,by simpa using ha',hl',hes⟩,by omega,fun H' s'=>?_⟩⟩
   rw [show sm (.list ds) (.list es)=sm (.tuple ds) (.tuple es) from Yah (by rw [VA];constructor<;>(intro z;injection z with z;rw [z]))]
   exact q H' s'
  | _=>exact ⟨_,rfl,_,tyw,false,rfl,XR (hno isT rfl rfl)⟩
 | none =>
  refine ⟨_,_,rfl,hv,_,rfl,Yv (by simp [isB]) ⟨_,_,rfl,hv,_,rfl,Yv (by simp [isI]) ⟨_,_,rfl,hv,_,rfl,Yv (by simp [isS]) ⟨_,_,rfl,hv,_,rfl,Yv (by simp [isL]) ⟨_,rfl,_,tyv,false,rfl,Yv (by decide) ?_⟩⟩⟩⟩⟩
  have:=inon hv
  subst this
  refine YV rfl ?_
  by_cases c:e = .none
  ·subst c
   rw [inon hw]
   rw [XM] at q0;exact q0
  ·have n:=YeN hw c
   have h:=hno (fun d=>match d with | .none=>true | _=>false) rfl (by cases e<;>first | rfl | exact absurd rfl c)
   rw [decide_eq_false n]
   exact h
 | dict xs=>obtain ⟨L,h⟩:=hv;cases h
def Xt (k:Int) (d:PyData):Option PyData:=(YF d).bind fun xs=>if 0≤k then xs[k.toNat]? else none
def Yfk (fv vs:List V) (H:Hp) (Q:VK):Prop:=∃ (k:Int) (v:V) (d:PyData),fv=[.int k]∧vs=[v]∧DV H v d∧∀ H',Yf H H'→Q (.bl (Xt k d).isSome) H'
theorem Z2p {k:Nat} {Z0 Z1:Addr} {f_ c_:Addr} {pm ctv:Value} {l:YE} (Zb:g.Fn k "is_list_or_tuple" ["thing"] (XX Xl)) (b_len:g.mg "len"=none) (hl:l.map (·.1)=(["place"]:List Str)) (hnd:l.as.Nodup):FnOk g.P g.w g.K g.mg g.base CX0 (k+1) f_ (ZW l.cl c_ pm ctv) ["found"] (fun vs H Q _=>ClZ H f_ c_ (ZW l.cl c_ pm ctv) ZK l∧(Yfk) l.vs vs (off H l.as) fun v H'=>(∀ c∈l.as,H' c=none)→Q v (on H' H l.as)):=by
 refine YeF (N:=["found","place"]) (by rw [hl];exact Z2o) hnd (fun vs H Q h=>by obtain ⟨k,v,d,hk,rfl,hd,q⟩:=h;rfl) fun A outer s H vs Q hr h=>?_
 obtain ⟨k,v,d,hk,rfl,hd,q⟩:=h
 refine ⟨_,(@XF _ _ _ _ _ _ _ (@Yt _ _ _ _ _ _ _ _ _ _ _ _ Zb hr (@Ya _ _ _ _ _ (pv 0) Yb (by rfl)) (by omega) (by rfl) (by rfl) (by decide) (by rfl) (by rfl)) (@XE _ _ _ _ _ (@Ydn _ _ _ _ _ _ _ _ _ _ _ _ op_le QE Yc (pv 1) (@Yz _ _ _ _ _ _ _ _ _ _ b_len Xe (@Ya _ _ _ _ _ (pv 0) Yb (by rfl)) (by decide +kernel) (by rfl) (by rfl) (by decide) (by decide) (by rfl) (by rfl)) (by with_unfolding_all rfl)))),?_⟩
 walk_at "rd"
 rw [hk]
 refine ⟨v,rfl,v,d,rfl,hd,fun H1 s1=>⟨_,rfl,?_⟩⟩
 have hd1:=hd.keep s1
 have q1:=q _ s1
 have key:∀ (ds:List PyData) (n:Nat),n=ds.length→0≤k→decide (k<(n:Int))=(if 0≤k then ds[k.toNat]? else none).isSome:=fun ds n hn h0=>by
  rw [if_pos h0]
  by_cases c:k<(n:Int)
  ·have:k.toNat<ds.length:=by omega
   rw [decide_eq_true c,List.getElem?_eq_getElem this];rfl
  ·rw [decide_eq_false c,List.getElem?_eq_none (by omega)];rfl
 cases d with
 | list ds =>
  obtain ⟨a,vs,rfl,ha,hl,hds⟩:=hd1.ilst
  refine YV rfl ⟨_,rfl,k,rfl,YB (fun c=>⟨_,rfl,a,rfl,vs,.inl (SqL.of ha),k,rfl,?_⟩) fun c=>?_⟩
  ·rw [key ds vs.length hds.length c];exact q1
  ·have e:(Xt k (.list ds)).isSome=false:=by show (if 0≤k then ds[k.toNat]? else none).isSome=false;rw [if_neg c];rfl
   rw [e] at q1;exact q1
 | tuple ds =>
  obtain ⟨a,vs,rfl,ha,hl,hds⟩:=hd1.itup
  refine YV rfl ⟨_,rfl,k,rfl,YB (fun c=>⟨_,rfl,a,rfl,vs,.inr (SqT.of ha),k,rfl,?_⟩) fun c=>?_⟩
  ·rw [key ds vs.length hds.length c];exact q1
  ·have e:(Xt k (.tuple ds)).isSome=false:=by show (if 0≤k then ds[k.toNat]? else none).isSome=false;rw [if_neg c];rfl
   rw [e] at q1;exact q1
 | _=>exact Yv (by simp [Xl,YF]) q1
def Tb (P:Addr) (H:Hp):Prop:=H P=some (.tbl #[])∨∃ c,H P=some (.tbl #[rawInt 62,rawInt 41,.ref c])∧H c=some (CdO c ZK)
theorem Tb.keep {P:Addr} {H H':Hp} (h:Tb P H) (s:Yf H H'):Tb P H':=by
 rcases h with h | ⟨c,h,h1⟩
 ·exact .inl (s _ _ h)
 ·exact .inr ⟨c,s _ _ h,s _ _ h1⟩
theorem Tb.upd {P a:Addr} {H:Hp} {o:HO} (h:Tb P H) (n:H a=none):Tb P (upd H a o):=h.keep (.upd_new n o)
def Out (C P:Addr) (H:Hp) (Q:VK) (E:XK):Say→Prop
 | .ok e=>∀ r H',Kt H H'→Tb P H'→DV H' r e→Q r H'
 | .error mk=>∀ H' d,Kt H H'→Tb P H'→H' d=none→E (.ref C) (some d) (upd H' d (X6 d [("mark",.str mk)]))
theorem Out.keep {C P:Addr} {H H':Hp} {Q:VK} {E:XK} (s:Kt H H') {res:Say} (h:Out C P H Q E res):Out C P H' Q E res:=by
 cases res with
 | ok r=>exact fun r H2 s2=>h r H2 (s.trans s2)
 | error mk=>exact fun H2 d s2=>h H2 d (s.trans s2)
structure Ask (P:Addr) (H:Hp) (m:Nat) (t:Tm) (v:V) (d:PyData) (th:V):Prop where
 at':Yr H t v
 ok:t.ok
 dep:t.dep<m
 dv:DV H th d
 pk:∃ k,Pk k d∧k+t.dep≤7
 dd:d.depth≤4
 tb:Tb P H
theorem Ask.keep {P:Addr} {H H':Hp} {m:Nat} {t:Tm} {v th:V} {d:PyData} (h:Ask P H m t v d th) (s:Kt H H') (b:Tb P H'):Ask P H' m t v d th:=⟨h.at'.keep s,h.ok,h.dep,h.dv.kt s,h.pk,h.dd,b⟩
def WF (P C:Addr) (m:Nat):Sp:=fun vs H Q E=>∃ v th t d,vs=[v,th]∧Ask P H m t v d th∧Out C P H Q E (tell t d)
theorem Qe {P C:Addr} {vs:List V} {H:Hp} {Q:VK} {E:XK} (h:WF P C 0 vs H Q E):False:=by
 obtain ⟨_,_,_,_,_,h,_⟩:=h
 exact absurd h.dep (by omega)
def QO (g:Gx) (P:Addr) (H:Hp) (f:Addr) (e:PyData) (b:Bool):Prop:=∀ (H1:Hp) (r:V) (Q':VK),Kt H H1→Tb P H1→DV H1 r e→(∀ H',Yf H1 H'→Q' (.bl b) H') →
 (∃ ps sp,g.FnV 2 f ps sp∧sp [r] H1 Q' E0)∨∃ fd ps sp,FnOk g.P g.w g.K g.mg g.base CX0 4 f fd ps sp∧(∀ us:List Value,us.length=ps.length→bindArgs fd ⟨us,[]⟩=pure (ps.zip us))∧H1 f=some (FnO f fd)∧sp [r] H1 Q' E0
def tk (mk:Str) (s:Say) (f:PyData→Bool):Say:=match s with
 | .error m => .error m
 | .ok d=>if f d then .ok d else .error mk
def ZX (g:Gx) (P C:Addr) (m:Nat):Sp:=fun vs H Q E=>∃ (mk:Str) (v th:V) (f:Addr) (t:Tm) (d:PyData) (fp:PyData→Bool),vs=[.str mk,v,th,.ref f]∧Ask P H m t v d th ∧
 (∀ e,tell t d = .ok e→QO g P H f e (fp e))∧Out C P H Q E (tk mk (tell t d) fp)
theorem Z06 {k:Nat} {Z0 Z1:Addr} {c_part_told P_part_told:Addr} (R:g.Raw "taken" "taken" Qa ["mark","term","thing","can_take"]) (F_told:g.FnX k "told" ["term","thing"] (WF P_part_told Z1 m)) (hkv:2≤k) (hkc:4≤k) (Z2g:g.MaX "Astray" Z1 ["self","mark"] ["mark"]) (hki:2≤k):g.FnX (k+1) "taken" ["mark","term","thing","can_take"] (ZX g P_part_told Z1 m):=by
 refine R.fnX Yal (fun vs H Q E h=>by obtain ⟨mk,v,th,f,t,d,fp,rfl,hA,hT,hq⟩:=h;rfl) fun f_ cdv A outer s H vs Q E hr h=>?_
 obtain ⟨mk,v,th,f,t,d,fp,rfl,hA,hT,hq⟩:=h
 refine ⟨_,(@Yd _ _ _ _ _ (@YJ _ _ (4) _ _ _ _ Yal.nd rfl (.inl rfl) (@YY _ _ _ _ _ _ _ _ _ _ _ _ _ F_told hr Y3 (@Ya _ _ _ _ _ (pv 1) (@Ya _ _ _ _ _ (pv 2) Yb (by rfl)) (by rfl)) (by omega) (by rfl) (by rfl) (by decide) (by rfl) (by rfl)) (by rfl) (by first | exact .inl rfl | exact .inr rfl | assumption)) (@Yd _ _ _ _ _ (@Yo _ _ _ _ _ _ _ _ (@X0 _ _ _ _ (@Y1 _ _ _ (@VW _ _ _ _ (@YdC _ (g) _ (2) _ _ _ _ _ _ 3 hr (@Ya _ _ _ _ _ (pv 4) Yb (by rfl)) (by omega) (by rfl) (by rfl) (by first | exact .inl rfl | exact .inr (.inl rfl) | exact .inr (.inr rfl)) (by decide) (by decide) (by rfl) (by rfl)) (@YdG _ (g) _ (4) _ _ _ _ _ _ 3 hr (@Ya _ _ _ _ _ (pv 4) Yb (by rfl)) (by omega) (by rfl) (by rfl) (by first | exact .inl rfl | exact .inr (.inl rfl) | exact .inr (.inr rfl)) (by decide) (by decide) (by rfl) (by rfl))) (by intro _;rfl))) (@Ye _ _ _ (@YcY _ _ _ _ _ _ _ _ _ _ _ _ _ _ Z2g hr Yfi (@Ya _ _ _ _ _ (pv 0) Yb (by rfl)) (by omega) (by rfl) (by rfl) (by rfl) (by decide) (by rfl) (by rfl))) Yj) (@Ye _ _ _ (PS.nox (@Yg _ _ _ _ (pv 4)))))),?_⟩
 walk_at "rd"
 refine ⟨v,th,t,d,rfl,hA,?_⟩
 cases e:tell t d with
 | error mk'=>rw [e] at hq;exact hq
 | ok r =>
  rw [e] at hq hT
  intro v' H1 k1 b1 hv
  have fin:∀ H',Yf H1 H'→(fun (x_1:V) (H':Hp)=>∃ c_1,x_1=V.bl c_1∧if c_1=false then
       U9 Z1 [Str.ofString "mark"] E (WV (Wd 0) Uo)
        { nx:=U0 (Wd 4) { nx:=fun x H'=>Q V.non H',rt:=Q },rt:=Q }
        [some (V.str mk),some v,some th,some (V.ref f),some v'] H'
      else Q v' H') (V.bl (fp r)) H':=fun H' s'=>by
   refine ⟨_,rfl,?_⟩
   simp only [tk] at hq
   cases c:fp r with
   | true =>
    rw [c,if_pos rfl] at hq
    exact Yv (by decide) (hq v' H' (k1.trans (Y5 s')) (b1.keep s') (hv.keep s'))
   | false =>
    rw [c,if_neg (by decide)] at hq
    exact YV rfl ⟨_,rfl,rfl,by show (1:Nat)≤1000;omega,fun dd hd=>hq H' dd (k1.trans (Y5 s')) (b1.keep s') hd⟩
  rcases hT r rfl H1 v' (fun (x_1:V) (H':Hp)=>∃ c_1,x_1=V.bl c_1∧if c_1=false then
       U9 Z1 [Str.ofString "mark"] E (WV (Wd 0) Uo)
        { nx:=U0 (Wd 4) { nx:=fun x H'=>Q V.non H',rt:=Q },rt:=Q }
        [some (V.str mk),some v,some th,some (V.ref f),some v'] H'
      else Q v' H') k1 b1 hv fin with ⟨ps,sp,hF,hs⟩ | ⟨fd,ps,sp,hF,hb,ho,hs⟩
  ·refine .inl ⟨f,ps,sp,rfl,hF,?_⟩
   walk_at "rd"
   exact hs
  ·refine .inr ⟨f,fd,ps,sp,rfl,hF,hb,ho,?_⟩
   walk_at "rd"
   exact ⟨ho,hs⟩
theorem Qq {H Hz:Hp} {l:YE} (h:W2 H Hz l):Yf H Hz:=fun a o e=>by
 rw [h.2 a fun hm=>?_]
 ·exact e
 ·obtain ⟨p,hp,rfl⟩:=XL hm
  obtain ⟨_,_,n⟩:=h.1 p hp
  rw [n] at e
  cases e
theorem UW {l:YE} {H:Hp} (hz:l.Z H) {a:Addr} {o:HO} (e:H a=some o) (n:∀ x u,o ≠ .frz x u):a∉l.as:=fun hm=>by
 obtain ⟨p,hp,rfl⟩:=XL hm
 obtain ⟨x,z⟩:=hz p hp
 rw [z] at e
 exact n _ _ (Option.some.inj e).symm
theorem Yaw {l:YE} {H:Hp} (hz:l.Z H) {v:V} {d:PyData} (h:DV H v d):DV (off H l.as) v d:=by
 obtain ⟨L,h⟩:=h
 exact ⟨L,h.keepL (fun a vs e=>by rw [YS (UW hz e fun _ _ z=>by cases z)];exact e) fun a _ vs e=>by rw [YS (UW hz e fun _ _ z=>by cases z)];exact e⟩
theorem Ux {l:YE} {H H':Hp} (h:l.Z H) (s:Kt H H'):l.Z H':=fun p hp=>by
 obtain ⟨o,z⟩:=h p hp
 exact ⟨o,s _ _ (fun ps q=>by cases q) z⟩
theorem Yax {l:YE} {H1 Hz H':Hp} (h:W2 H1 Hz l) (s:Kt Hz H'):Kt H1 (off H' l.as):=fun a o n e=>by
 rw [YS fun hm=>?_]
 ·exact s a o n (Qq h _ _ e)
 ·obtain ⟨p,hp,rfl⟩:=XL hm
  obtain ⟨_,_,n⟩:=h.1 p hp
  rw [n] at e
  cases e
theorem Yay {P:Addr} {l:YE} {H:Hp} (hz:l.Z H) (h:Tb P H):Tb P (off H l.as):=by
 rcases h with h | ⟨c,h,h1⟩
 ·exact .inl (by rw [YS (UW hz h fun _ _ z=>by cases z)];exact h)
 ·exact .inr ⟨c,by rw [YS (UW hz h fun _ _ z=>by cases z)];exact h,by rw [YS (UW hz h1 fun _ _ z=>by cases z)];exact h1⟩
theorem YeO {l:YE} {H:Hp} (hz:l.Z H) {d:Addr} {o:HO} (n:H d=none):off (upd H d o) l.as=upd (off H l.as) d o:=by
 have nd:d∉l.as:=fun hm=>by
  obtain ⟨p,hp,rfl⟩:=XL hm
  obtain ⟨x,z⟩:=hz p hp
  rw [n] at z;cases z
 funext b
 by_cases hb:b=d
 ·subst hb;rw [YS nd,Yh,Yh]
 ·rw [Ym hb]
  by_cases hm:b∈l.as
  ·rw [Wt hm,Wt hm]
  ·rw [YS hm,YS hm,Ym hb]
theorem YeP {l:YE} {H H':Hp} (s:Yf (off H l.as) H'):Yf H (on H' H l.as):=fun a o e=>by
 by_cases hm:a∈l.as
 ·rw [YbU hm];exact e
 ·rw [Wu hm];exact s _ _ (by rw [YS hm];exact e)
theorem Xu {C P:Addr} {H:Hp} {Q Q':VK} {E:XK} {mk:Str} {s:Say} {fp:PyData→Bool} {res:Say} (ho:Out C P H Q E res) (he:∀ m,s = .error m→res = .error m) (hn:∀ x,s = .ok x→fp x=false→res = .error mk)
  (hy:∀ x,s = .ok x→fp x=true→∀ r H',Kt H H'→Tb P H'→DV H' r x→Q' r H'):Out C P H Q' E (tk mk s fp):=by
 cases s with
 | error m=>rw [he m rfl] at ho;exact ho
 | ok x =>
  simp only [tk]
  cases c:fp x with
  | true=>rw [if_pos rfl];exact hy x rfl c
  | false=>rw [if_neg (by decide)];rw [hn x rfl c] at ho;exact ho
theorem XA {P:Addr} {H:Hp} {f:Addr} {ps:List Str} {p:PyData→Bool} {e:PyData} (hf:g.FnV 2 f ps (Xf p)):QO g P H f e (p e):=fun H1 r Q' _ _ hv h => .inl ⟨ps,_,hf,r,e,rfl,hv,h _ (.refl _)⟩
theorem XS {P:Addr} {H:Hp} {f:Addr} {ps:List Str} {p:PyData→Bool} {e:PyData} (hf:g.FnV 2 f ps (XX p)):QO g P H f e (p e):=fun H1 r Q' _ _ hv h => .inl ⟨ps,_,hf,r,e,rfl,hv,h⟩
theorem Yc5 {P:Addr} {Hz:Hp} {f c:Addr} {x:Addr} {k:Int} {e:PyData} {pm ctv:Value} (F:g.Fn 3 "is_list_or_tuple" ["thing"] (XX Xl)) (b:g.mg "len"=none) (hf:Hz f=some (FnO f (ZW [("place",x)] c pm ctv))) (hc:Hz c=some (CdO c ZK)) (hz:YE.Z [("place",x,.int k)] Hz):QO g P Hz f e (Xt k e).isSome:=fun H1 r Q' k1 b1 hv h=>by
 have z1:=Ux hz k1
 refine .inr ⟨_,_,_,Z2p (Z0:=0) (Z1:=0) (f_:=f) (c_:=c) (pm:=pm) (ctv:=ctv) (l:=[("place",x,.int k)]) F b rfl (by simp [YE.as]),(fun us hl=>?_),k1 f _ (fun ps z=>by cases z) hf,⟨k1 f _ (fun ps z=>by cases z) hf,k1 c _ (fun ps z=>by cases z) hc,z1⟩,k,r,e,rfl,rfl,Yaw z1 hv,fun H' s' _=>h _ (YeP s')⟩
 match us,hl with
 | [u],_=>rfl
def Ybu (g:Gx) (P C:Addr) (m:Nat):Sp:=fun vs H Q E=>∃ (p:Addr) (v th:V) (k:Int) (t:Tm) (d:PyData),vs=[.ref p,th]∧H p=some (.tup [v,.int k])∧Ask P H m t v d th∧Out C P H Q E (take "part" (tell t d) (Xt k))
theorem YeQ {P f c:Addr} {H:Hp} {ps ps':Array Value} {fd:FuncData} {q:Str} (hP:H P=some (.tbl ps)) (hf:H f=none) (hc:H c=none) (hfc:f≠c):Kt H (upd (upd (upd H P (.tbl ps')) c (CdO c q)) f (FnO f fd)):=fun a o n e=>by
 rw [Ym (YK e hf),Ym (YK e hc),Ym (Wp e hP (n _))]
 exact e
theorem Qf {H:Hp} {xs:List PyData} {vs:List V} {k:Int} {y:PyData} (hv:DVs H vs xs) (h:(if 0≤k then xs[k.toNat]? else none)=some y):∃ n:Nat,k=n∧∃ u,vs[n]?=some u∧DV H u y:=by
 split at h
 ·next c =>
  refine ⟨k.toNat,by omega,?_⟩
  have hl:=hv.length
  have hlt:=(List.getElem?_eq_some_iff.mp h).1
  have hu:vs[k.toNat]?=some (vs[k.toNat]'(by omega)):=List.getElem?_eq_getElem _
  obtain ⟨d,e1,e2⟩:=hv.at hu
  rw [h] at e1
  cases e1
  exact ⟨_,hu,e2⟩
 ·cases h
theorem ZD {k:Nat} {Z0 Z1:Addr} {c_part_told P_part_told:Addr} (R:g.RawT "part_told" "part_told" Z0s ["body","thing"] c_part_told) (bm:Bm g.mg g.base) (Cd_part_told:PySem.W.CodeHd g.base c_part_told P_part_told) (Zb:g.Fn 3 "is_list_or_tuple" ["thing"] (XX Xl)) (Zc:g.FnX k "taken" ["mark","term","thing","can_take"] (ZX g P_part_told Z1 m)) (b_len:g.mg "len"=none):g.FnX (k+1) "part_told" ["body","thing"] (Ybu g P_part_told Z1 m):=by
 refine R.fnX Z1Q (fun vs H Q E h=>by obtain ⟨p,v,th,k,t,d,rfl,hp,hA,q⟩:=h;rfl) fun f_ A outer s H vs Q E hr h=>?_
 obtain ⟨p,v,th,k,t,d,rfl,hp,hA,q⟩:=h
 refine ⟨_,(@Yd _ _ _ _ _ (PS.nox (@YJ _ _ (2) _ _ _ _ Z1Q.nd rfl (.inr rfl) (@Yy _ _ _ _ _ _ _ Yw (pv 0) Yc (fun _ _=>rfl)) (by rfl) (by first | exact .inl rfl | exact .inr rfl | assumption))) (@Ye _ _ _ (@Yg _ _ _ _ (@VW _ _ _ _ (@Yy _ _ _ _ _ _ _ V6 (@Yaf _ _ _ _ _ _ _ _ _ _ _ _ _ _ _ _ _ _ _ _ _ Zc hr (@Ya _ _ _ _ _ Yi (@Ya _ _ _ _ _ (@Yy _ _ _ _ _ _ _ Yw (pv 0) Yc (fun _ _=>rfl)) (@Ya _ _ _ _ _ (pv 1) (@Ya _ _ _ _ _ (@YcU _ _ _ _ _ _ _ _ _ bm Cd_part_told rfl rfl (Eq.trans rfl WQ) rfl) Yb (by rfl)) (by rfl)) (by rfl)) (by rfl)) (by omega) (by rfl) (by decide) (by rfl) (by rfl)) (pv 2) (fun _ _=>rfl)) (@Yy _ _ _ _ _ _ _ Yw (@Yaf _ _ _ _ _ _ _ _ _ _ _ _ _ _ _ _ _ _ _ _ _ Zc hr (@Ya _ _ _ _ _ Yi (@Ya _ _ _ _ _ (@Yy _ _ _ _ _ _ _ Yw (pv 0) Yc (fun _ _=>rfl)) (@Ya _ _ _ _ _ (pv 1) (@Ya _ _ _ _ _ (@YcU _ _ _ _ _ _ _ _ _ bm Cd_part_told rfl rfl (Eq.trans rfl WQ) rfl) Yb (by rfl)) (by rfl)) (by rfl)) (by rfl)) (by omega) (by rfl) (by decide) (by rfl) (by rfl)) (pv 2) (fun _ _=>rfl)))))),?_⟩
 walk_at "rd"
 refine ⟨_,SqT.of hp,_,rfl,?_⟩
 generalize hT:Yb1 _ _ _ _=T
 have core:∀ Q2:VK,(∀ x,tell t d = .ok x→(Xt k x).isSome=true→∀ r H',Kt H H'→Tb P_part_told H'→DV H' r x→Q2 r H')→T [some (.ref p),some th,some (.int k)] H Q2:=by
  intro Q2 h2
  rw [← hT]
  unfold Yb1
  walk_at "rd"
  refine ⟨_,SqT.of hp,_,rfl,?_⟩
  have fin:∀ (f c:Addr) (pm ctv:Value) (H1:Hp),Kt H H1→Tb P_part_told H1→H1 f=some (FnO f (ZW [("place",s.heap.objs.size+1)] c pm ctv))→H1 c=some (CdO c ZK)→∃ l,
   Wl (g.cxX [Str.ofString "body",Str.ofString "thing",Str.ofString "place"] (Str.ofString "part_told") Z0s f_ (Value.ref c_part_told) A outer s H E) [some (V.ref p),some th,some (V.int k)] l ∧
    ((∀ (c:Addr),c∈l.as→H1 c=none)→∀ (Hz:Hp),W2 H1 Hz l→ZX g P_part_told Z1 m [V.str (Str.ofString "part"),v,th,.ref f] Hz (fun v H'=>Q2 v (off H' l.as)) fun c d H'=>E c d (off H' l.as)):=by
   intro f c pm ctv H1 k1 b1 hf hc
   refine ⟨[("place",s.heap.objs.size+1,.int k)],⟨by simp [YE.as],fun z hz=>?_⟩,fun _ Hz hL=>?_⟩
   ·cases List.mem_singleton.mp hz
    exact ⟨2,rfl,rfl,rfl,rfl⟩
   ·have sz:=Qq hL
    have zz:=hL.z
    refine ⟨"part",v,th,f,t,d,fun x=>(Xt k x).isSome,rfl,hA.keep (k1.trans (Y5 sz)) (b1.keep sz),fun e _=>Yc5 Zb b_len (sz _ _ hf) (sz _ _ hc) zz,?_⟩
    have q':Out Z1 P_part_told Hz (fun v H'=>Q v (off H' (YE.as [("place",s.heap.objs.size+1,.int k)]))) (fun c d H'=>E c d (off H' (YE.as [("place",s.heap.objs.size+1,.int k)]))) (take "part" (tell t d) (Xt k)):=by
     generalize take "part" (tell t d) (Xt k)=res at q
     cases res with
     | ok r=>exact fun r H' k2 b2 hv=>q r _ (k1.trans (Yax hL k2)) (Yay (Ux zz k2) b2) (Yaw (Ux zz k2) hv)
     | error mk =>
      intro H' dd k2 b2 hd
      show E _ _ _
      rw [YeO (Ux zz k2) hd]
      exact q _ dd (k1.trans (Yax hL k2)) (Yay (Ux zz k2) b2) (X5 hd)
    refine Xu q' (fun m e=>by rw [e];rfl) (fun x e c=>?_) fun x e c r H' k2 b2 hv=>h2 x e c r _ (k1.trans (Yax hL k2)) (Yay (Ux zz k2) b2) (Yaw (Ux zz k2) hv)
    have c':Xt k x=none:=by simpa using c
    rw [e]
    simp only [take,c']
  rcases hA.tb with ht | ⟨c,ht,hc⟩
  ·refine ⟨_,ht,trivial,.inl ⟨rfl,fun f c fd g1 g2 g3 ⟨pm,ctv,e⟩=>?_⟩⟩
   subst e
   have n1:=YK ht g1
   have n2:=YK ht g2
   exact fin f c pm ctv _ (YeQ ht g1 g2 g3) (.inr ⟨c,by rw [Ym n1,Ym n2,Yh];rfl,by rw [Ym (Ne.symm g3),Yh]⟩) Yh (by rw [Ym (Ne.symm g3),Yh])
  ·refine ⟨_,ht,trivial,.inr ⟨c,rfl,fun f fd g1 ⟨pm,ctv,e⟩=>?_⟩⟩
   subst e
   exact fin f c pm ctv _ (Y5 (.upd_new g1 _)) (hA.tb.upd g1) Yh (by rw [Ym (YK hc g1)];exact hc)
 have hsel:(∃ ds,tell t d = .ok (.tuple ds))∨¬ ∃ ds,tell t d = .ok (.tuple ds):=Classical.em _
 rcases hsel with ⟨ds,hds⟩ | hsel
 ·refine .inr (core _ fun x hx hs r H' k1 b1 hv=>?_)
  walk_at "rd"
  rw [hds] at hx q
  cases hx
  obtain ⟨a,vs,rfl,ha,hl,hvs⟩:=hv.itup
  obtain ⟨y,hy⟩:=Option.isSome_iff_exists.mp hs
  have hy':=hy
  obtain ⟨n,rfl,u,hu,hv'⟩:=Qf (xs:=ds) (vs:=vs) hvs hy'
  refine ⟨a,rfl,vs,SqT.of ha,u,Vc hu,?_⟩
  simp only [take,hy] at q
  exact q _ _ k1 b1 hv'
 ·refine .inl (core _ fun x hx hs r H' k1 b1 hv=>?_)
  walk_at "rd"
  obtain ⟨y,hy⟩:=Option.isSome_iff_exists.mp hs
  cases x with
  | list ds =>
   obtain ⟨a,vs,rfl,ha,hl,hvs⟩:=hv.ilst
   have hy':=hy
   obtain ⟨n,rfl,u,hu,hv'⟩:=Qf (xs:=ds) (vs:=vs) hvs hy'
   refine ⟨a,rfl,vs,SqL.of ha,u,Vc hu,?_⟩
   rw [hx] at q
   simp only [take,hy] at q
   exact q _ _ k1 b1 hv'
  | tuple ds=>exact absurd ⟨ds,hx⟩ hsel
  | _=>cases hy
theorem Wa {x:PyData} (h:isI x=true):∃ i,x = .int i:=by cases x<;>first | exact ⟨_,rfl⟩ | cases h
theorem Xp {x:PyData} (h:isB x=true):∃ i,x = .bool i:=by cases x<;>first | exact ⟨_,rfl⟩ | cases h
theorem XT {x:PyData} (h:isI x=false):Xi x=none:=by cases x<;>first | rfl | cases h
theorem Xh {x:PyData} (h:isB x=false):Y4 x=none:=by cases x<;>first | rfl | cases h
theorem YI {α:Type} {mk:Str} {x:PyData} {f:PyData→Option α} (h:f x=none):take mk (.ok x) f = .error mk:=by simp only [take,h]
theorem Yx {α:Type} {mk:Str} {x:PyData} {f:PyData→Option α} {a:α} (h:f x=some a):take mk (.ok x) f = .ok a:=by simp only [take,h]
theorem Qr {x y:Str} (h:PyData.strOk x=true) (k:PyData.strOk y=true):PyData.strOk (x++y)=true:=by
 show (x.cps++y.cps).all _=true
 rw [Array.all_append,Bool.and_eq_true]
 exact ⟨h,k⟩
theorem Qs {x:Str} (h:PyData.strOk x=true):PyData.strOk (Vz x)=true:=by
 have h:x.cps.all _=true:=h
 show (x.cps.toList.reverse.toArray).all _=true
 rw [Array.all_eq_true'] at h ⊢
 intro c hc
 exact h c (by simpa using hc)
def Yc6 (mk:Str) (f:Int→Int→PyData) (a b:Say):Say:=match take mk a Xi with
 | .error m => .error m
 | .ok i=>(take mk b Xi).map (f i)
def Nf (mk:Str) (f:Int→Int→PyData):Prop:=(mk="plus"∧f=fun i j => .int (i+j))∨(mk="times"∧f=fun i j => .int (i*j))∨(mk="less"∧f=fun i j => .bool (decide (i<j)))
def Ybv (g:Gx) (P C:Addr) (m:Nat):Sp:=fun vs H Q E=>∃ (mk:Str) (f:Int→Int→PyData) (p:Addr) (v1 v2 th:V) (a b:Tm) (d:PyData),vs=[.str mk,.ref p,th]∧H p=some (.tup [v1,v2])∧Nf mk f∧Ask P H m a v1 d th∧Ask P H m b v2 d th∧Out C P H Q E (Yc6 mk f (tell a d) (tell b d))
theorem Ask.ib {P:Addr} {H:Hp} {m:Nat} {t:Tm} {v th:V} {d:PyData} {i:Int} (h:Ask P H m t v d th) (e:tell t d = .ok (.int i)):IB 7 i:=by
 obtain ⟨k,hk,hl⟩:=h.pk
 exact IB.mono (Y2 h.ok hk e).1 hl
theorem Yeb {i j:Int} (h:IB 7 i) (k:IB 7 j):YbP i j := .inl ⟨200*2^7,200*2^7,h.h,k.h,by decide⟩
theorem Zr {k:Nat} {Z0 Z1:Addr} {c_part_told P_part_told:Addr} (R:g.Raw "numbers_told" "numbers_told" Z0M ["mark","body","thing"]) (Zp:g.Fn 2 "is_whole_number" ["thing"] (Xf isI)) (Zc:g.FnX k "taken" ["mark","term","thing","can_take"] (ZX g P_part_told Z1 m)) (hkv:2≤k):g.FnX (k+1) "numbers_told" ["mark","body","thing"] (Ybv g P_part_told Z1 m):=by
 refine R.fnX Z0C (fun vs H Q E h=>by obtain ⟨mk,f,p,v1,v2,th,a,b,d,rfl,hp,hf,hA,hB,q⟩:=h;rfl) fun f_ cdv A outer s H vs Q E hr h=>?_
 obtain ⟨mk,f,p,v1,v2,th,a,b,d,rfl,hp,hf,hA,hB,q⟩:=h
 refine ⟨_,(@Yd _ _ _ _ _ (@YJ _ _ (3) _ _ _ _ Z0C.nd rfl (.inl rfl) (@YY _ _ _ _ _ _ _ _ _ _ _ _ _ Zc hr Y3 (@Ya _ _ _ _ _ (pv 0) (@Ya _ _ _ _ _ (@Yy _ _ _ _ _ _ _ Yw (pv 1) Yc (fun _ _=>rfl)) (@Ya _ _ _ _ _ (pv 2) (@Ya _ _ _ _ _ (@Y9 _ _ _ _ _ _ _ Zp (by rfl) (by rfl) (by decide)) Yb (by rfl)) (by rfl)) (by rfl)) (by rfl)) (by omega) (by rfl) (by rfl) (by decide) (by rfl) (by rfl)) (by rfl) (by first | exact .inl rfl | exact .inr rfl | assumption)) (@Yd _ _ _ _ _ (@YJ _ _ (4) _ _ _ _ Z0C.nd rfl (.inl rfl) (@YY _ _ _ _ _ _ _ _ _ _ _ _ _ Zc hr Y3 (@Ya _ _ _ _ _ (pv 0) (@Ya _ _ _ _ _ (@Yy _ _ _ _ _ _ _ Yw (pv 1) Yc (fun _ _=>rfl)) (@Ya _ _ _ _ _ (pv 2) (@Ya _ _ _ _ _ (@Y9 _ _ _ _ _ _ _ Zp (by rfl) (by rfl) (by decide)) Yb (by rfl)) (by rfl)) (by rfl)) (by rfl)) (by omega) (by rfl) (by rfl) (by decide) (by rfl) (by rfl)) (by rfl) (by first | exact .inl rfl | exact .inr rfl | assumption)) (@Yd _ _ _ _ _ (PS.nox (@Yo _ _ _ _ _ _ _ _ (@Yk _ _ _ _ _ _ _ _ Yq (pv 0) Yi (Yl _)) (@Ye _ _ _ (@Yg _ _ _ _ (@Ys _ _ _ _ _ _ _ _ VJ (pv 3) (pv 4)))) Yj)) (@Yd _ _ _ _ _ (PS.nox (@Yo _ _ _ _ _ _ _ _ (@Yk _ _ _ _ _ _ _ _ Yq (pv 0) Yi (Yl _)) (@Ye _ _ _ (@Yg _ _ _ _ (@Ys _ _ _ _ _ _ _ _ U5 (pv 3) (pv 4)))) Yj)) (@Ye _ _ _ (PS.nox (@Yg _ _ _ _ (@Xs _ _ _ _ _ _ _ _ QE (pv 3) (pv 4) (Yl _))))))))),?_⟩
 walk_at "rd"
 refine ⟨_,SqT.of hp,_,rfl,fun f1 hf1=>⟨mk,v1,th,f1,a,d,isI,rfl,hA,fun e _=>XA hf1,Xu q (fun m e=>by rw [e];rfl) (fun x e c=>by rw [e];simp only [Yc6,take,XT c]) fun x ex c r H1 k1 b1 hv=>?_⟩⟩
 obtain ⟨i,rfl⟩:=Wa c
 cases hv.iint
 refine ⟨_,SqT.of (k1.tup hp),_,rfl,fun f2 hf2=>⟨mk,v2,th,f2,b,d,isI,rfl,hB.keep k1 b1,fun e _=>XA hf2,Xu (q.keep k1) (fun m e=>by rw [ex,e];rfl) (fun x e c=>by rw [ex,e];show (take mk (.ok x) Xi).map (f i)=_;rw [YI (XT c)];rfl) fun x ey c r H2 k2 b2 hv2=>?_⟩⟩
 obtain ⟨j,rfl⟩:=Wa c
 cases hv2.iint
 have q2:=q.keep (k1.trans k2)
 rw [ex,ey] at q2
 rcases hf with ⟨rfl,rfl⟩ | ⟨rfl,rfl⟩ | ⟨rfl,rfl⟩
 ·exact YV rfl ⟨_,rfl,_,rfl,q2 _ _ (.refl _) b2 ⟨[],.int _⟩⟩
 ·refine Yv (by decide) (YV rfl ⟨_,rfl,_,rfl,Yeb (hA.ib ex) (hB.ib ey),q2 _ _ (.refl _) b2 ⟨[],.int _⟩⟩)
 ·refine Yv (by decide) (Yv (by decide) ⟨_,rfl,_,rfl,q2 _ _ (.refl _) b2 ⟨[],.bl _⟩⟩)
noncomputable def sameRes (a b:Say):Say:=match a with
  | .error m => .error m
  | .ok x=>b.map fun y => .bool (sm x y)
def Yaz (P C:Addr) (m:Nat):Sp:=fun vs H Q E=>∃ (p:Addr) (v1 v2 th:V) (a b:Tm) (d:PyData),vs=[.ref p,th]∧H p=some (.tup [v1,v2])∧Ask P H m a v1 d th∧Ask P H m b v2 d th∧Out C P H Q E (sameRes (tell a d) (tell b d))
theorem Yc7 {C P:Addr} {H:Hp} {Q Q':VK} {E:XK} {s res:Say} (ho:Out C P H Q E res) (he:∀ m,s = .error m→res = .error m) (hy:∀ x,s = .ok x→∀ r H',Kt H H'→Tb P H'→DV H' r x→Q' r H'):Out C P H Q' E s:=by
 cases s with
 | error m=>rw [he m rfl] at ho;exact ho
 | ok x=>exact hy x rfl
theorem Ask.depth {P:Addr} {H:Hp} {m:Nat} {t:Tm} {v th:V} {d e:PyData} (h:Ask P H m t v d th) (ht:tell t d = .ok e):e.depth≤4:=by
 obtain ⟨k,hk,hl⟩:=h.pk
 have:=(Y2 h.ok hk ht).2
 have:=h.dd
 omega
theorem ZE {k:Nat} {Z0 Z1:Addr} {c_part_told P_part_told:Addr} (R:g.Raw "same_told" "same_told" Z16 ["body","thing"]) (F_same:g.Fn k "same" ["one","other"] (Vl g.K 10)) (F_told:g.FnX k "told" ["term","thing"] (WF P_part_told Z1 m)):g.FnX (k+1) "same_told" ["body","thing"] (Yaz P_part_told Z1 m):=by
 refine R.fnX Yam (fun vs H Q E h=>by obtain ⟨p,v1,v2,th,a,b,d,rfl,hp,hA,hB,q⟩:=h;rfl) fun f_ cdv A outer s H vs Q E hr h=>?_
 obtain ⟨p,v1,v2,th,a,b,d,rfl,hp,hA,hB,q⟩:=h
 refine ⟨_,(@Ye _ _ _ (@Yg _ _ _ _ (@Yt _ _ _ _ _ _ _ _ _ _ _ _ F_same hr (@Ya _ _ _ _ _ (@YY _ _ _ _ _ _ _ _ _ _ _ _ _ F_told hr Y3 (@Ya _ _ _ _ _ (@Yy _ _ _ _ _ _ _ Yw (pv 0) Yc (fun _ _=>rfl)) (@Ya _ _ _ _ _ (pv 1) Yb (by rfl)) (by rfl)) (by omega) (by rfl) (by rfl) (by decide) (by rfl) (by rfl)) (@Ya _ _ _ _ _ (@YY _ _ _ _ _ _ _ _ _ _ _ _ _ F_told hr Y3 (@Ya _ _ _ _ _ (@Yy _ _ _ _ _ _ _ Yw (pv 0) Yc (fun _ _=>rfl)) (@Ya _ _ _ _ _ (pv 1) Yb (by rfl)) (by rfl)) (by omega) (by rfl) (by rfl) (by decide) (by rfl) (by rfl)) Yb (by rfl)) (by rfl)) (by omega) (by rfl) (by rfl) (by decide) (by rfl) (by rfl)))),?_⟩
 walk_at "rd"
 refine ⟨_,SqT.of hp,_,rfl,v1,th,a,d,rfl,hA,Yc7 q (fun m e=>by rw [e];rfl) fun x ex r H1 k1 b1 hv=>?_⟩
 refine ⟨_,SqT.of (k1.tup hp),_,rfl,v2,th,b,d,rfl,hB.keep k1 b1,Yc7 (q.keep k1) (fun m e=>by rw [ex,e];rfl) fun y ey r2 H2 k2 b2 hv2=>?_⟩
 have q2:=q.keep (k1.trans k2)
 rw [ex,ey] at q2
 have:=hA.depth ex
 exact ⟨r,r2,x,y,rfl,hv.kt k2,hv2,by omega,fun H' s'=>q2 _ _ (Y5 s') (b2.keep s') ⟨[],.bl _⟩⟩
def Ybw (a b:Say):Say:=match take "both" a Y4 with
  | .error m => .error m
  | .ok false => .ok (.bool false)
  | .ok true=>(take "both" b Y4).map .bool
def YaA (g:Gx) (P C:Addr) (m:Nat):Sp:=fun vs H Q E=>∃ (p:Addr) (v1 v2 th:V) (a b:Tm) (d:PyData),vs=[.ref p,th]∧H p=some (.tup [v1,v2])∧Ask P H m a v1 d th∧Ask P H m b v2 d th∧Out C P H Q E (Ybw (tell a d) (tell b d))
theorem ZF {k:Nat} {Z0 Z1:Addr} {c_part_told P_part_told:Addr} (R:g.Raw "both_told" "both_told" Z17 ["body","thing"]) (ZB:g.Fn 2 "is_truth" ["thing"] (Xf isB)) (Zc:g.FnX k "taken" ["mark","term","thing","can_take"] (ZX g P_part_told Z1 m)) (hkv:2≤k):g.FnX (k+1) "both_told" ["body","thing"] (YaA g P_part_told Z1 m):=by
 refine R.fnX Yan (fun vs H Q E h=>by obtain ⟨p,v1,v2,th,a,b,d,rfl,hp,hA,hB,q⟩:=h;rfl) fun f_ cdv A outer s H vs Q E hr h=>?_
 obtain ⟨p,v1,v2,th,a,b,d,rfl,hp,hA,hB,q⟩:=h
 refine ⟨_,(@Ye _ _ _ (@Yg _ _ _ _ (@XF _ _ _ _ _ _ _ (@YY _ _ _ _ _ _ _ _ _ _ _ _ _ Zc hr Y3 (@Ya _ _ _ _ _ Yi (@Ya _ _ _ _ _ (@Yy _ _ _ _ _ _ _ Yw (pv 0) Yc (fun _ _=>rfl)) (@Ya _ _ _ _ _ (pv 1) (@Ya _ _ _ _ _ (@Y9 _ _ _ _ _ _ _ ZB (by rfl) (by rfl) (by decide)) Yb (by rfl)) (by rfl)) (by rfl)) (by rfl)) (by omega) (by rfl) (by rfl) (by decide) (by rfl) (by rfl)) (@XE _ _ _ _ _ (@YY _ _ _ _ _ _ _ _ _ _ _ _ _ Zc hr Y3 (@Ya _ _ _ _ _ Yi (@Ya _ _ _ _ _ (@Yy _ _ _ _ _ _ _ Yw (pv 0) Yc (fun _ _=>rfl)) (@Ya _ _ _ _ _ (pv 1) (@Ya _ _ _ _ _ (@Y9 _ _ _ _ _ _ _ ZB (by rfl) (by rfl) (by decide)) Yb (by rfl)) (by rfl)) (by rfl)) (by rfl)) (by omega) (by rfl) (by rfl) (by decide) (by rfl) (by rfl)))))),?_⟩
 walk_at "rd"
 refine ⟨_,SqT.of hp,_,rfl,fun f1 hf1=>⟨_,v1,th,f1,a,d,isB,rfl,hA,fun e _=>XA hf1,Xu q (fun m e=>by rw [e];rfl) (fun x e c=>by rw [e];simp only [Ybw,take,Xh c]) fun x ex c r H1 k1 b1 hv=>?_⟩⟩
 obtain ⟨i,rfl⟩:=Xp c
 cases hv.ibl
 have q1:=q.keep k1
 rw [ex] at q1
 refine ⟨i,rfl,?_⟩
 cases i with
 | false=>exact Yv (by decide) (q1 _ _ (.refl _) b1 ⟨[],.bl _⟩)
 | true =>
  refine YV rfl ⟨_,SqT.of (k1.tup hp),_,rfl,fun f2 hf2=>⟨_,v2,th,f2,b,d,isB,rfl,hB.keep k1 b1,fun e _=>XA hf2,Xu q1 (fun m e=>by rw [e];rfl) (fun x e c=>by rw [e];show (take "both" (.ok x) Y4).map PyData.bool=_;rw [YI (Xh c)];rfl) fun x ey c r H2 k2 b2 hv2=>?_⟩⟩
  obtain ⟨j,rfl⟩:=Xp c
  rw [ey] at q1
  exact q1 r H2 k2 b2 hv2
def YaB (g:Gx) (P C:Addr) (m:Nat):Sp:=fun vs H Q E=>∃ (p:Addr) (v1 v2 v3 th:V) (a b c:Tm) (d:PyData),vs=[.ref p,th]∧H p=some (.tup [v1,v2,v3])∧Ask P H m a v1 d th∧Ask P H m b v2 d th∧Ask P H m c v3 d th∧Out C P H Q E (tell (.when a b c) d)
theorem ZG {k:Nat} {Z0 Z1:Addr} {c_part_told P_part_told:Addr} (R:g.Raw "when_told" "when_told" Z18 ["body","thing"]) (ZB:g.Fn 2 "is_truth" ["thing"] (Xf isB)) (Zc:g.FnX k "taken" ["mark","term","thing","can_take"] (ZX g P_part_told Z1 m)) (F_told:g.FnX k "told" ["term","thing"] (WF P_part_told Z1 m)) (hkv:2≤k):g.FnX (k+1) "when_told" ["body","thing"] (YaB g P_part_told Z1 m):=by
 refine R.fnX Yao (fun vs H Q E h=>by obtain ⟨p,v1,v2,v3,th,a,b,c,d,rfl,hp,hA,hB,hC,q⟩:=h;rfl) fun f_ cdv A outer s H vs Q E hr h=>?_
 obtain ⟨p,v1,v2,v3,th,a,b,c,d,rfl,hp,hA,hB,hC,q⟩:=h
 refine ⟨_,(@Ye _ _ _ (@Yg _ _ _ _ (@YY _ _ _ _ _ _ _ _ _ _ _ _ _ F_told hr Y3 (@Ya _ _ _ _ _ (@QS _ _ _ _ _ _ _ _ (@Y1 _ _ _ (@YY _ _ _ _ _ _ _ _ _ _ _ _ _ Zc hr Y3 (@Ya _ _ _ _ _ Yi (@Ya _ _ _ _ _ (@Yy _ _ _ _ _ _ _ Yw (pv 0) Yc (fun _ _=>rfl)) (@Ya _ _ _ _ _ (pv 1) (@Ya _ _ _ _ _ (@Y9 _ _ _ _ _ _ _ ZB (by rfl) (by rfl) (by decide)) Yb (by rfl)) (by rfl)) (by rfl)) (by rfl)) (by omega) (by rfl) (by rfl) (by decide) (by rfl) (by rfl)) (by intro _;rfl)) (@Yy _ _ _ _ _ _ _ Yw (pv 0) Yc (fun _ _=>rfl)) (@Yy _ _ _ _ _ _ _ Yw (pv 0) Yc (fun _ _=>rfl))) (@Ya _ _ _ _ _ (pv 1) Yb (by rfl)) (by rfl)) (by omega) (by rfl) (by rfl) (by decide) (by rfl) (by rfl)))),?_⟩
 walk_at "rd"
 refine ⟨_,SqT.of hp,_,rfl,fun f1 hf1=>⟨_,v1,th,f1,a,d,isB,rfl,hA,fun e _=>XA hf1,Xu q (fun m e=>by simp only [tell,e];rfl) (fun x e c=>by simp only [tell,e,YI (Xh c)]) fun x ex c r H1 k1 b1 hv=>?_⟩⟩
 obtain ⟨i,rfl⟩:=Xp c
 cases hv.ibl
 have q1:=q.keep k1
 simp only [tell,ex,Yx (show Y4 (.bool i)=some i from rfl)] at q1
 refine ⟨i,rfl,?_⟩
 cases i with
 | false=>exact Yv (by decide) ⟨_,SqT.of (k1.tup hp),_,rfl,v3,th,_,d,rfl,hC.keep k1 b1,q1⟩
 | true=>exact YV rfl ⟨_,SqT.of (k1.tup hp),_,rfl,v2,th,_,d,rfl,hB.keep k1 b1,q1⟩
def YaC (g:Gx) (P C:Addr) (m:Nat):Sp:=fun vs H Q E=>∃ (p:Addr) (v1 v2 th:V) (a b:Tm) (d:PyData),vs=[.ref p,th]∧H p=some (.tup [v1,v2])∧Ask P H m a v1 d th∧Ask P H m b v2 d th∧(∃ k,Pk k d∧k+(max a.dep b.dep+1)≤7)∧Out C P H Q E (tell (.joined a b) d)
theorem pk6 {t:Tm} {k:Nat} {d e:PyData} (ho:t.ok) (hp:Pk k d) (hk:k+t.dep≤6) (h:tell t d = .ok e):Pk 6 e:=(Y2 ho hp h).1.mono hk
theorem Zu {k:Nat} {Z0 Z1:Addr} {c_part_told P_part_told:Addr} (R:g.Raw "joined_told" "joined_told" Z0T ["body","thing"]) (Z0R:g.Fn 2 "is_text" ["thing"] (Xf isS)) (Z12:g.Fn 2 "is_list" ["thing"] (Xf isL)) (Z2h:g.Fn 2 "is_list_or_text" ["thing"] (XX Wy)) (Zc:g.FnX k "taken" ["mark","term","thing","can_take"] (ZX g P_part_told Z1 m)) (hkv:2≤k):g.FnX (k+1) "joined_told" ["body","thing"] (YaC g P_part_told Z1 m):=by
 refine R.fnX Z1h (fun vs H Q E h=>by obtain ⟨p,v1,v2,th,a,b,d,rfl,hp,hA,hB,⟨k,hk,hkd⟩,q⟩:=h;rfl) fun f_ cdv A outer s H vs Q E hr h=>?_
 obtain ⟨p,v1,v2,th,a,b,d,rfl,hp,hA,hB,⟨k,hk,hkd⟩,q⟩:=h
 refine ⟨_,(@Yd _ _ _ _ _ (@YJ _ _ (2) _ _ _ _ Z1h.nd rfl (.inl rfl) (@YY _ _ _ _ _ _ _ _ _ _ _ _ _ Zc hr Y3 (@Ya _ _ _ _ _ Yi (@Ya _ _ _ _ _ (@Yy _ _ _ _ _ _ _ Yw (pv 0) Yc (fun _ _=>rfl)) (@Ya _ _ _ _ _ (pv 1) (@Ya _ _ _ _ _ (@Y9 _ _ _ _ _ _ _ Z2h (by rfl) (by rfl) (by decide)) Yb (by rfl)) (by rfl)) (by rfl)) (by rfl)) (by omega) (by rfl) (by rfl) (by decide) (by rfl) (by rfl)) (by rfl) (by first | exact .inl rfl | exact .inr rfl | assumption)) (@Ye _ _ _ (@Yg _ _ _ _ (@Ys _ _ _ _ _ _ _ _ (Yag YcD UC) (pv 2) (@YY _ _ _ _ _ _ _ _ _ _ _ _ _ Zc hr Y3 (@Ya _ _ _ _ _ Yi (@Ya _ _ _ _ _ (@Yy _ _ _ _ _ _ _ Yw (pv 0) Yc (fun _ _=>rfl)) (@Ya _ _ _ _ _ (pv 1) (@Ya _ _ _ _ _ (@QS _ _ _ _ _ _ _ _ (@Y1 _ _ _ (@Yt _ _ _ _ _ _ _ _ _ _ _ _ Z0R hr (@Ya _ _ _ _ _ (pv 2) Yb (by rfl)) (by omega) (by rfl) (by rfl) (by decide) (by rfl) (by rfl)) (by intro _;rfl)) (@Y9 _ _ _ _ _ _ _ Z0R (by rfl) (by rfl) (by decide)) (@Y9 _ _ _ _ _ _ _ Z12 (by rfl) (by rfl) (by decide))) Yb (by rfl)) (by rfl)) (by rfl)) (by rfl)) (by omega) (by rfl) (by rfl) (by decide) (by rfl) (by rfl)))))),?_⟩
 walk_at "rd"
 refine ⟨_,SqT.of hp,_,rfl,fun f1 hf1=>⟨_,v1,th,f1,a,d,Wy,rfl,hA,fun e _=>XS hf1,Xu q (fun m e=>by simp only [tell,e]) (fun x e c=>by cases x<;>first | (simp only [tell,e];done) | (simp [Wy,isL,isS] at c)) fun x ex c r H1 k1 b1 hv=>?_⟩⟩
 have q1:=q.keep k1
 have px:=pk6 hA.ok hk (by omega) ex
 refine ⟨_,SqT.of (k1.tup hp),_,rfl,r,x,rfl,hv,_,rfl,?_⟩
 cases x with
 | list xs =>
  simp only [tell,ex] at q1
  refine Yv (by simp [isS]) fun f2 hf2=>⟨_,v2,th,f2,b,d,isL,rfl,hB.keep k1 b1,fun e _=>XA hf2,Xu q1 (fun m e=>by rw [e];rfl) (fun y e c=>by rw [e];exact YI (by cases y<;>first | rfl | cases c)) fun y ey c r2 H2 k2 b2 hv2 => .inl ?_⟩
  cases y with
  | list ys =>
   have py:=pk6 hB.ok hk (by omega) ey
   obtain ⟨a1,us,rfl,h1,l1,d1⟩:=(hv.kt k2).ilst
   obtain ⟨a2,ws,rfl,h2,l2,d2⟩:=hv2.ilst
   have e1:=d1.length
   have e2:=d2.length
   have p1:=px.1
   have p2:=py.1
   rw [ey] at q1
   refine ⟨a1,rfl,a2,rfl,us,h1,ws,h2,few (by omega),fun pp hpp=>?_⟩
   have s3:=Yf.upd_new hpp (HO.lst (us++ws))
   exact q1 _ _ (k2.trans (Y5 s3)) (b2.keep s3) (.lst Yh (by rw [List.length_append];omega) ((d1.append d2).keep s3))
  | _=>cases c
 | str x =>
  simp only [tell,ex] at q1
  refine YV (by simp [isS]) fun f2 hf2=>⟨_,v2,th,f2,b,d,isS,rfl,hB.keep k1 b1,fun e _=>XA hf2,Xu q1 (fun m e=>by rw [e];rfl) (fun y e c=>by rw [e];exact YI (by cases y<;>first | rfl | cases c)) fun y ey c r2 H2 k2 b2 hv2 => .inr ?_⟩
  cases y with
  | str z =>
   have py:=pk6 hB.ok hk (by omega) ey
   obtain ⟨rfl,o1⟩:=hv.istr
   obtain ⟨rfl,o2⟩:=hv2.istr
   have p1:x.length≤64*2^6:=px
   have p2:z.length≤64*2^6:=py
   rw [ey] at q1
   exact ⟨x,rfl,z,rfl,few (by omega),q1 _ _ k2 b2 ⟨[],.str _ (Qr o1 o2)⟩⟩
  | _=>cases c
 | _=>simp [Wy,isL,isS] at c
def YaD (g:Gx) (P C:Addr) (m:Nat):Sp:=fun vs H Q E=>∃ (p:Addr) (v1 v2 th:V) (a b:Tm) (d:PyData),vs=[.ref p,th]∧H p=some (.tup [v1,v2])∧Ask P H m a v1 d th∧Ask P H m b v2 d th∧Out C P H Q E (tell (.each a b) d)
theorem Yca {K:PySem.W.Frag} {tl:TE} {g:TG} {tb:TS} {D:Ends} {σ:St} {H:Hp} (Pv:Addr→List V→Nat→St→Hp→Prop) (ha:∀ R:V→Hp→Prop,(∀ c xs H1,Pv c xs 0 σ H1→R (.ref c) H1)→tl σ H R) (hl:∀ c xs i σ H,i≤xs.length→Pv c xs i σ H→SqL K H c xs)
  (hs:∀ c xs (i:Nat) x σ H,xs[i]?=some x→Pv c xs i σ H→g x σ H fun σ2 H2=>tb { D with nx:=Pv c xs (i+1),ct:=Pv c xs (i+1),bk:=D.nx } σ2 H2) (hd:∀ c xs σ H,Pv c xs xs.length σ H→D.nx σ H):X4 (WU K tl) g tb D σ H:=by
 refine ha _ fun c xs H1 h0=>⟨c,rfl,⟨xs,hl c xs 0 σ H1 (Nat.zero_le _) h0⟩,?_⟩
 exact QV (Pv c xs) h0 (hl c xs) (hs c xs) (hd c xs)
theorem Yc8 {K:PySem.W.Frag} {tl:TE} {g:TG} {tb:TS} {D:Ends} {σ:St} {H:Hp} (Pv:Addr→List V→Nat→St→Hp→Prop) (ha:∀ R:V→Hp→Prop,(∀ c xs H1,Pv c xs 0 σ H1→R (.ref c) H1)→tl σ H R) (hl:∀ c xs i σ H,i≤xs.length→Pv c xs i σ H→SqT K H c xs)
  (hs:∀ c xs (i:Nat) x σ H,xs[i]?=some x→Pv c xs i σ H→g x σ H fun σ2 H2=>tb { D with nx:=Pv c xs (i+1),ct:=Pv c xs (i+1),bk:=D.nx } σ2 H2) (hd:∀ c xs σ H,Pv c xs xs.length σ H→D.nx σ H):X4 (QU K tl) g tb D σ H:=by
 refine ha _ fun c xs H1 h0=>⟨c,rfl,⟨xs,hl c xs 0 σ H1 (Nat.zero_le _) h0⟩,?_⟩
 exact Ya4 (Pv c xs) h0 (hl c xs) (hs c xs) (hd c xs)
theorem V0 {P:Addr} {H:Hp} {m:Nat} {a b:Tm} {v1 v2 th:V} {d x:PyData} {ds:List PyData} (hA:Ask P H m a v1 d th) (hB:Ask P H m b v2 d th) (ex:tell a d = .ok x) (hx:YF x=some ds) (y:PyData) (hy:y∈ds) (H':Hp) (u:V) (k1:Kt H H') (b1:Tb P H') (hv:DV H' u y):Ask P H' m b v2 y u:=by
 have hB':=hB.keep k1 b1
 obtain ⟨k,hk,hl⟩:=hA.pk
 obtain ⟨k',hk',hl'⟩:=hB.pk
 obtain ⟨p1,p2⟩:=Y2 hA.ok hk ex
 have dd:=hA.dd
 have hyy:hb y∧y.depth≤4:=by
  cases x with
  | list zs =>
   cases hx
   have:=YU hy
   rw [PyData.depth] at p2
   exact ⟨Vj p1.2 hy,by omega⟩
  | tuple zs =>
   cases hx
   have:=YU hy
   rw [PyData.depth] at p2
   exact ⟨Vj p1.2 hy,by omega⟩
  | _=>cases hx
 exact ⟨hB'.at',hB'.ok,hB'.dep,hv,⟨0,UV hyy.1,by omega⟩,hyy.2,b1⟩
theorem ZH {k:Nat} {Z0 Z1:Addr} {c_part_told P_part_told:Addr} (R:g.Raw "each_told" "each_told" Z19 ["body","thing"]) (ZB:g.Fn 2 "is_truth" ["thing"] (Xf isB)) (Zb:g.Fn 2 "is_list_or_tuple" ["thing"] (XX Xl)) (Zc:g.FnX k "taken" ["mark","term","thing","can_take"] (ZX g P_part_told Z1 m)) (hkv:2≤k):g.FnX (k+1) "each_told" ["body","thing"] (YaD g P_part_told Z1 m):=by
 refine R.fnX Z1R (fun vs H Q E h=>by obtain ⟨p,v1,v2,th,a,b,d,rfl,hp,hA,hB,q⟩:=h;rfl) fun f_ cdv A outer s H vs Q E hr h=>?_
 obtain ⟨p,v1,v2,th,a,b,d,rfl,hp,hA,hB,q⟩:=h
 refine ⟨_,(@Yd _ _ _ _ _ (@Va _ _ _ _ _ _ _ _ PassesOwn.leaving rfl (@WD _ _ _ _ _ (@XG _ _ _ _ (@YY _ _ _ _ _ _ _ _ _ _ _ _ _ Zc hr Y3 (@Ya _ _ _ _ _ Yi (@Ya _ _ _ _ _ (@Yy _ _ _ _ _ _ _ Yw (pv 0) Yc (fun _ _=>rfl)) (@Ya _ _ _ _ _ (pv 1) (@Ya _ _ _ _ _ (@Y9 _ _ _ _ _ _ _ Zb (by rfl) (by rfl) (by decide)) Yb (by rfl)) (by rfl)) (by rfl)) (by rfl)) (by omega) (by rfl) (by rfl) (by decide) (by rfl) (by rfl))) (@WJ _ _ _ _ (@YY _ _ _ _ _ _ _ _ _ _ _ _ _ Zc hr Y3 (@Ya _ _ _ _ _ Yi (@Ya _ _ _ _ _ (@Yy _ _ _ _ _ _ _ Yw (pv 0) Yc (fun _ _=>rfl)) (@Ya _ _ _ _ _ (pv 1) (@Ya _ _ _ _ _ (@Y9 _ _ _ _ _ _ _ Zb (by rfl) (by rfl) (by decide)) Yb (by rfl)) (by rfl)) (by rfl)) (by rfl)) (by omega) (by rfl) (by rfl) (by decide) (by rfl) (by rfl)))) (@YZ _ _ (2) _ Z1R.nd rfl (.inl rfl) (by first | exact .inl rfl | exact .inr rfl | assumption)) (@Ye _ _ _ (@Yo _ _ _ _ _ _ _ _ (@X0 _ _ _ _ (@Y1 _ _ _ (@YY _ _ _ _ _ _ _ _ _ _ _ _ _ Zc hr Y3 (@Ya _ _ _ _ _ Yi (@Ya _ _ _ _ _ (@Yy _ _ _ _ _ _ _ Yw (pv 0) Yc (fun _ _=>rfl)) (@Ya _ _ _ _ _ (pv 2) (@Ya _ _ _ _ _ (@Y9 _ _ _ _ _ _ _ ZB (by rfl) (by rfl) (by decide)) Yb (by rfl)) (by rfl)) (by rfl)) (by rfl)) (by omega) (by rfl) (by rfl) (by decide) (by rfl) (by rfl)) (by intro _;rfl))) (@Ye _ _ _ (PS.nox (@Yg _ _ _ _ We))) Yj)) (by intro _;rfl)) (@Ye _ _ _ (PS.nox (@Yg _ _ _ _ We)))),?_⟩
 walk_at "rd"
 cases ex:tell a d with
 | error mk =>
  refine WN ?_
  unfold X4 WU
  walk_at "rd"
  refine ⟨_,SqT.of hp,_,rfl,fun f1 hf1=>⟨_,v1,th,f1,a,d,Xl,rfl,hA,fun e _=>XS hf1,?_⟩⟩
  simp only [tell,ex] at q
  rw [ex]
  exact q
 | ok x =>
 cases x with
 | list ds =>
  have hitem:=V0 hA hB ex rfl
  simp only [tell,ex,Yx (show YF (.list ds)=some ds from rfl)] at q
  refine WN (Yca (fun c xs i σ H'=>Kt H H'∧Tb P_part_told H'∧(∃ w,σ=[some (.ref p),some th,w])∧H' c=some (.lst xs)∧DVs H' xs ds∧YW "each" (fun x=>tell b x) (ds.drop i)=YW "each" (fun x=>tell b x) ds) (fun R hR=>?_) (fun c xs i σ H' _ z=>SqL.of z.2.2.2.1) (fun c xs i x σ H' hx z=>?_) fun c xs σ H' z=>?_)
  ·walk_at "rd"
   refine ⟨_,SqT.of hp,_,rfl,fun f1 hf1=>⟨_,v1,th,f1,a,d,Xl,rfl,hA,fun e _=>XS hf1,?_⟩⟩
   rw [ex]
   intro r H1 k1 b1 hv
   obtain ⟨a1,us,rfl,h1,l1,d1⟩:=hv.ilst
   exact hR a1 us H1 ⟨k1,b1,⟨none,rfl⟩,h1,d1,rfl⟩
  ·obtain ⟨k1,b1,⟨w,rfl⟩,hc,hds,he⟩:=z
   obtain ⟨y,hy,hv⟩:=hds.at hx
   obtain ⟨hi,ei⟩:=List.getElem?_eq_some_iff.mp hy
   have ed:ds.drop i=y::ds.drop (i+1):=by rw [← ei];exact List.drop_eq_getElem_cons hi
   rw [ed] at he
   have hBy:Ask P_part_told H' m b v2 y x:=hitem y (List.mem_of_getElem? hy) H' x k1 b1 hv
   walk_at "rd"
   refine ⟨_,SqT.of (k1.tup hp),_,rfl,fun f2 hf2=>⟨_,v2,x,f2,b,y,isB,rfl,hBy,fun e _=>XA hf2,Xu (q.keep k1) (fun m e=>?_) (fun z e c=>?_) fun z ez c r H2 k2 b2 hv2=>?_⟩⟩
   ·rw [← he];simp only [YW,e];rfl
   ·rw [← he];simp only [YW,e,YI (Xh c)]
   ·obtain ⟨i',rfl⟩:=Xp c
    cases hv2.ibl
    simp only [YW,ez,Yx (show Y4 (.bool i')=some i' from rfl)] at he
    refine ⟨i',rfl,?_⟩
    cases i' with
    | true=>exact Yv (by decide) ⟨k1.trans k2,b2,k2.lst hc,hds.kt k2,he⟩
    | false =>
     rw [← he] at q
     exact YV rfl (q _ _ (k1.trans k2) b2 ⟨[],.bl _⟩)
  ·obtain ⟨k1,b1,⟨w,rfl⟩,hc,hds,he⟩:=z
   rw [hds.length,List.drop_length] at he
   rw [← he] at q
   exact q _ _ k1 b1 ⟨[],.bl _⟩
 | tuple ds =>
  have hitem:=V0 hA hB ex rfl
  simp only [tell,ex,Yx (show YF (.tuple ds)=some ds from rfl)] at q
  refine Us (Yc8 (fun c xs i σ H'=>Kt H H'∧Tb P_part_told H'∧(∃ w,σ=[some (.ref p),some th,w])∧H' c=some (.tup xs)∧DVs H' xs ds∧YW "each" (fun x=>tell b x) (ds.drop i)=YW "each" (fun x=>tell b x) ds) (fun R hR=>?_) (fun c xs i σ H' _ z=>SqT.of z.2.2.2.1) (fun c xs i x σ H' hx z=>?_) fun c xs σ H' z=>?_)
  ·walk_at "rd"
   refine ⟨_,SqT.of hp,_,rfl,fun f1 hf1=>⟨_,v1,th,f1,a,d,Xl,rfl,hA,fun e _=>XS hf1,?_⟩⟩
   rw [ex]
   intro r H1 k1 b1 hv
   obtain ⟨a1,us,rfl,h1,l1,d1⟩:=hv.itup
   exact hR a1 us H1 ⟨k1,b1,⟨none,rfl⟩,h1,d1,rfl⟩
  ·obtain ⟨k1,b1,⟨w,rfl⟩,hc,hds,he⟩:=z
   obtain ⟨y,hy,hv⟩:=hds.at hx
   obtain ⟨hi,ei⟩:=List.getElem?_eq_some_iff.mp hy
   have ed:ds.drop i=y::ds.drop (i+1):=by rw [← ei];exact List.drop_eq_getElem_cons hi
   rw [ed] at he
   have hBy:Ask P_part_told H' m b v2 y x:=hitem y (List.mem_of_getElem? hy) H' x k1 b1 hv
   walk_at "rd"
   refine ⟨_,SqT.of (k1.tup hp),_,rfl,fun f2 hf2=>⟨_,v2,x,f2,b,y,isB,rfl,hBy,fun e _=>XA hf2,Xu (q.keep k1) (fun m e=>?_) (fun z e c=>?_) fun z ez c r H2 k2 b2 hv2=>?_⟩⟩
   ·rw [← he];simp only [YW,e];rfl
   ·rw [← he];simp only [YW,e,YI (Xh c)]
   ·obtain ⟨i',rfl⟩:=Xp c
    cases hv2.ibl
    simp only [YW,ez,Yx (show Y4 (.bool i')=some i' from rfl)] at he
    refine ⟨i',rfl,?_⟩
    cases i' with
    | true=>exact Yv (by decide) ⟨k1.trans k2,b2,k2.tup hc,hds.kt k2,he⟩
    | false =>
     rw [← he] at q
     exact YV rfl (q _ _ (k1.trans k2) b2 ⟨[],.bl _⟩)
  ·obtain ⟨k1,b1,⟨w,rfl⟩,hc,hds,he⟩:=z
   rw [hds.length,List.drop_length] at he
   rw [← he] at q
   exact q _ _ k1 b1 ⟨[],.bl _⟩
 | _ =>
  refine WN ?_
  unfold X4 WU
  walk_at "rd"
  refine ⟨_,SqT.of hp,_,rfl,fun f1 hf1=>⟨_,v1,th,f1,a,d,Xl,rfl,hA,fun e _=>XS hf1,?_⟩⟩
  simp only [tell,ex] at q
  rw [ex]
  exact q
theorem Ask.sub {P:Addr} {H:Hp} {m:Nat} {T t:Tm} {v th u:V} {d:PyData} (h:Ask P H (m+1) T v d th) (ht:Yr H t u) (ho:t.ok) (hd:t.dep+1≤T.dep):Ask P H m t u d th:=by
 obtain ⟨k,hk,hl⟩:=h.pk
 have:=h.dep
 exact ⟨ht,ho,by omega,h.dv,⟨k,hk,by omega⟩,h.dd,h.tb⟩
theorem Vn:∀ {H:Hp} {vs:List V} {ds:List PyData} {s:Int},DVs H vs ds→Xb ds=some s→∃ ns:List Int,vs=ns.map V.int∧ns.sum=s
 | H,[],[],s,_,e=>by cases e;exact ⟨[],rfl,rfl⟩
 | H,[],_::_,s,h,_=>absurd h.length (by simp)
 | H,_::_,[],s,h,_=>absurd h.length (by simp)
 | H,v::vs,d::ds,s,h,e=>by
  cases d with
  | int i =>
   simp only [Xb,Option.map_eq_some_iff] at e
   obtain ⟨z,e1,rfl⟩:=e
   obtain ⟨ns,rfl,e2⟩:=Vn h.inv.2 e1
   cases h.inv.1.iint
   exact ⟨i::ns,rfl,by rw [List.sum_cons,e2]⟩
  | _=>cases e
theorem Ybx {t:Tm} {d:PyData} {z:Str} (h:∃ k,Pk k d∧k+(t.dep+1)≤7) (ho:t.ok) (e:tell t d = .ok (.str z)):z.length≤sizeLine:=by
 obtain ⟨k,hk,hl⟩:=h
 have p:z.length≤64*2^6:=pk6 ho hk (by omega) e
 exact few (by omega)
theorem Wb {k:Nat} {Z0 Z1:Addr} {c_part_told P_part_told:Addr} (R:g.Raw "told" "told" Yap ["term","thing"]) (ZB:g.Fn 2 "is_truth" ["thing"] (Xf isB)) (Z0l:g.Fn 2 "is_list_tuple_or_text" ["thing"] (XX XQ)) (Z1E:g.Fn 2 "are_whole_numbers" ["thing"] (XX Wz)) (Zc:g.FnX k "taken" ["mark","term","thing","can_take"] (ZX g P_part_told Z1 m)) (F_part_told:g.FnX k "part_told" ["body","thing"] (Ybu g P_part_told Z1 m)) (Z2Z:g.FnX k "numbers_told" ["mark","body","thing"] (Ybv g P_part_told Z1 m)) (F_same_told:g.FnX k "same_told" ["body","thing"] (Yaz P_part_told Z1 m)) (F_both_told:g.FnX k "both_told" ["body","thing"] (YaA g P_part_told Z1 m)) (F_when_told:g.FnX k "when_told" ["body","thing"] (YaB g P_part_told Z1 m)) (F_each_told:g.FnX k "each_told" ["body","thing"] (YaD g P_part_told Z1 m)) (F_joined_told:g.FnX k "joined_told" ["body","thing"] (YaC g P_part_told Z1 m)) (hkv:2≤k) (b_len:g.mg "len"=none) (b_sum:g.mg "sum"=none):g.FnX (k+1) "told" ["term","thing"] (WF P_part_told Z1 (m+1)):=by
 refine R.fnX Qb (fun vs H Q E h=>by obtain ⟨v,th,t,d,rfl,hA,q⟩:=h;rfl) fun f_ cdv A outer s H vs Q E hr h=>?_
 obtain ⟨v,th,t,d,rfl,hA,q⟩:=h
 refine ⟨_,(@Yd _ _ _ _ _ (PS.nox (@YJ _ _ (2) _ _ _ _ Qb.nd rfl (.inl rfl) (@Yy _ _ _ _ _ _ _ Yw (pv 0) Yc (fun _ _=>rfl)) (by rfl) (by first | exact .inl rfl | exact .inr rfl | assumption))) (@Yd _ _ _ _ _ (PS.nox (@YJ _ _ (3) _ _ _ _ Qb.nd rfl (.inl rfl) (@Yy _ _ _ _ _ _ _ Yw (pv 0) Yc (fun _ _=>rfl)) (by rfl) (by first | exact .inl rfl | exact .inr rfl | assumption))) (@Yd _ _ _ _ _ (PS.nox (@Yo _ _ _ _ _ _ _ _ (@Yk _ _ _ _ _ _ _ _ Yq (pv 2) Yi (Yl _)) (@Ye _ _ _ (@Yg _ _ _ _ (pv 3))) Yj)) (@Yd _ _ _ _ _ (PS.nox (@Yo _ _ _ _ _ _ _ _ (@Yk _ _ _ _ _ _ _ _ Yq (pv 2) Yi (Yl _)) (@Ye _ _ _ (@Yg _ _ _ _ (pv 1))) Yj)) (@Yd _ _ _ _ _ (@Yo _ _ _ _ _ _ _ _ (@Yk _ _ _ _ _ _ _ _ Yq (pv 2) Yi (Yl _)) (@Ye _ _ _ (@Yg _ _ _ _ (@YY _ _ _ _ _ _ _ _ _ _ _ _ _ F_part_told hr Y3 (@Ya _ _ _ _ _ (pv 3) (@Ya _ _ _ _ _ (pv 1) Yb (by rfl)) (by rfl)) (by omega) (by rfl) (by rfl) (by decide) (by rfl) (by rfl)))) Yj) (@Yd _ _ _ _ _ (@Yo _ _ _ _ _ _ _ _ (@Yk _ _ _ _ _ _ _ _ Yq (pv 2) Yi (Yl _)) (@Ye _ _ _ (@Yg _ _ _ _ (@Yz _ _ _ _ _ _ _ _ _ _ b_len (Vv Xe VP) (@Ya _ _ _ _ _ (@YY _ _ _ _ _ _ _ _ _ _ _ _ _ Zc hr Y3 (@Ya _ _ _ _ _ (pv 2) (@Ya _ _ _ _ _ (pv 3) (@Ya _ _ _ _ _ (pv 1) (@Ya _ _ _ _ _ (@Y9 _ _ _ _ _ _ _ Z0l (by rfl) (by rfl) (by decide)) Yb (by rfl)) (by rfl)) (by rfl)) (by rfl)) (by omega) (by rfl) (by rfl) (by decide) (by rfl) (by rfl)) Yb (by rfl)) (by decide +kernel) (by rfl) (by rfl) (by decide) (by decide) (by rfl) (by rfl)))) Yj) (@Yd _ _ _ _ _ (@Yo _ _ _ _ _ _ _ _ (@Yk _ _ _ _ _ _ _ _ Yq (pv 2) Yi (Yl _)) (@Ye _ _ _ (@Yg _ _ _ _ (@Yz _ _ _ _ _ _ _ _ _ _ b_sum (Vv VF VX) (@Ya _ _ _ _ _ (@YY _ _ _ _ _ _ _ _ _ _ _ _ _ Zc hr Y3 (@Ya _ _ _ _ _ (pv 2) (@Ya _ _ _ _ _ (pv 3) (@Ya _ _ _ _ _ (pv 1) (@Ya _ _ _ _ _ (@Y9 _ _ _ _ _ _ _ Z1E (by rfl) (by rfl) (by decide)) Yb (by rfl)) (by rfl)) (by rfl)) (by rfl)) (by omega) (by rfl) (by rfl) (by decide) (by rfl) (by rfl)) Yb (by rfl)) (by decide +kernel) (by rfl) (by rfl) (by decide) (by decide) (by rfl) (by rfl)))) Yj) (@Yd _ _ _ _ _ (@Yo _ _ _ _ _ _ _ _ (@Yk _ _ _ _ _ _ _ _ Yq (pv 2) Yi (Yl _)) (@Ye _ _ _ (@Yg _ _ _ _ (@UA _ _ _ _ (@YY _ _ _ _ _ _ _ _ _ _ _ _ _ Zc hr Y3 (@Ya _ _ _ _ _ (pv 2) (@Ya _ _ _ _ _ (pv 3) (@Ya _ _ _ _ _ (pv 1) (@Ya _ _ _ _ _ (@Y9 _ _ _ _ _ _ _ ZB (by rfl) (by rfl) (by decide)) Yb (by rfl)) (by rfl)) (by rfl)) (by rfl)) (by omega) (by rfl) (by rfl) (by decide) (by rfl) (by rfl))))) Yj) (@Yd _ _ _ _ _ (@Yo _ _ _ _ _ _ _ _ (@Yk _ _ _ _ _ _ _ _ Yq (pv 2) Yi (Yl _)) (@Ye _ _ _ (@Yg _ _ _ _ (@Ybo _ _ _ _ _ _ _ (g.K) (@YY _ _ _ _ _ _ _ _ _ _ _ _ _ Zc hr Y3 (@Ya _ _ _ _ _ (pv 2) (@Ya _ _ _ _ _ (pv 3) (@Ya _ _ _ _ _ (pv 1) (@Ya _ _ _ _ _ (@Y9 _ _ _ _ _ _ _ Z0l (by rfl) (by rfl) (by decide)) Yb (by rfl)) (by rfl)) (by rfl)) (by rfl)) (by omega) (by rfl) (by rfl) (by decide) (by rfl) (by rfl)) (@Yd5 _ _ _ _ _ _ Ycr Yc) (by rfl)))) Yj) (@Yd _ _ _ _ _ (@Yo _ _ _ _ _ _ _ _ (@Yk _ _ _ _ _ _ _ _ Yq (pv 2) Yi (Yl _)) (@Ye _ _ _ (@Yg _ _ _ _ (@YY _ _ _ _ _ _ _ _ _ _ _ _ _ F_same_told hr Y3 (@Ya _ _ _ _ _ (pv 3) (@Ya _ _ _ _ _ (pv 1) Yb (by rfl)) (by rfl)) (by omega) (by rfl) (by rfl) (by decide) (by rfl) (by rfl)))) Yj) (@Yd _ _ _ _ _ (@Yo _ _ _ _ _ _ _ _ (@Yk _ _ _ _ _ _ _ _ Yq (pv 2) Yi (Yl _)) (@Ye _ _ _ (@Yg _ _ _ _ (@YY _ _ _ _ _ _ _ _ _ _ _ _ _ F_both_told hr Y3 (@Ya _ _ _ _ _ (pv 3) (@Ya _ _ _ _ _ (pv 1) Yb (by rfl)) (by rfl)) (by omega) (by rfl) (by rfl) (by decide) (by rfl) (by rfl)))) Yj) (@Yd _ _ _ _ _ (@Yo _ _ _ _ _ _ _ _ (@Yk _ _ _ _ _ _ _ _ Yq (pv 2) Yi (Yl _)) (@Ye _ _ _ (@Yg _ _ _ _ (@YY _ _ _ _ _ _ _ _ _ _ _ _ _ F_when_told hr Y3 (@Ya _ _ _ _ _ (pv 3) (@Ya _ _ _ _ _ (pv 1) Yb (by rfl)) (by rfl)) (by omega) (by rfl) (by rfl) (by decide) (by rfl) (by rfl)))) Yj) (@Yd _ _ _ _ _ (@Yo _ _ _ _ _ _ _ _ (@Yk _ _ _ _ _ _ _ _ Yq (pv 2) Yi (Yl _)) (@Ye _ _ _ (@Yg _ _ _ _ (@YY _ _ _ _ _ _ _ _ _ _ _ _ _ F_each_told hr Y3 (@Ya _ _ _ _ _ (pv 3) (@Ya _ _ _ _ _ (pv 1) Yb (by rfl)) (by rfl)) (by omega) (by rfl) (by rfl) (by decide) (by rfl) (by rfl)))) Yj) (@Yd _ _ _ _ _ (@Yo _ _ _ _ _ _ _ _ (@Yk _ _ _ _ _ _ _ _ Yq (pv 2) Yi (Yl _)) (@Ye _ _ _ (@Yg _ _ _ _ (@YY _ _ _ _ _ _ _ _ _ _ _ _ _ F_joined_told hr Y3 (@Ya _ _ _ _ _ (pv 3) (@Ya _ _ _ _ _ (pv 1) Yb (by rfl)) (by rfl)) (by omega) (by rfl) (by rfl) (by decide) (by rfl) (by rfl)))) Yj) (@Ye _ _ _ (@Yg _ _ _ _ (@YY _ _ _ _ _ _ _ _ _ _ _ _ _ Z2Z hr Y3 (@Ya _ _ _ _ _ (pv 2) (@Ya _ _ _ _ _ (pv 3) (@Ya _ _ _ _ _ (pv 1) Yb (by rfl)) (by rfl)) (by rfl)) (by omega) (by rfl) (by rfl) (by decide) (by rfl) (by rfl)))))))))))))))))),?_⟩
 have hat:=hA.at'
 have hok:=hA.ok
 have hpk:=hA.pk
 cases t with
 | num i =>
  obtain ⟨a,rfl,h⟩:=hat
  walk_at "rd"
  refine ⟨_,SqT.of h,_,rfl,?_⟩
  walk_at "rd"
  exact ⟨_,SqT.of h,_,rfl,q _ _ (.refl _) hA.tb ⟨[],.int _⟩⟩
 | here =>
  obtain ⟨a,r,rfl,h⟩:=hat
  walk_at "rd"
  refine ⟨_,SqT.of h,_,rfl,?_⟩
  walk_at "rd"
  refine ⟨_,SqT.of h,_,rfl,?_⟩
  repeat refine Yv (by decide) ?_
  exact q _ _ (.refl _) hA.tb hA.dv
 | part t k =>
  obtain ⟨a,p,u,rfl,h,hp,ht⟩:=hat
  walk_at "rd"
  refine ⟨_,SqT.of h,_,rfl,?_⟩
  walk_at "rd"
  refine ⟨_,SqT.of h,_,rfl,?_⟩
  repeat refine Yv (by decide) ?_
  exact ⟨p,u,th,k,t,d,rfl,hp,hA.sub ht hok.2 (Nat.le_refl _),q⟩
 | count t =>
  obtain ⟨a,u,rfl,h,ht⟩:=hat
  walk_at "rd"
  refine ⟨_,SqT.of h,_,rfl,?_⟩
  walk_at "rd"
  refine ⟨_,SqT.of h,_,rfl,?_⟩
  repeat refine Yv (by decide) ?_
  walk_at "rd"
  refine fun f1 hf1=>⟨_,u,th,f1,t,d,XQ,rfl,hA.sub ht hok (Nat.le_refl _),fun e _=>XS hf1,Xu q (fun m e=>by simp only [tell,e];rfl) (fun x e c=>?_) fun x ex c r H1 k1 b1 hv=>?_⟩
  ·have:Wr x=none:=by simpa [XQ] using c
   simp only [tell,e,YI this];rfl
  ·obtain ⟨n,hn⟩:=Option.isSome_iff_exists.mp (show (Wr x).isSome=true from c)
   have e2:tell (.count t) d = .ok (.int n):=by simp only [tell,ex,Yx hn];rfl
   rw [e2] at q
   cases x with
   | list ds =>
    obtain ⟨a1,vs,rfl,h1,l1,d1⟩:=hv.ilst
    cases hn
    exact .inl ⟨a1,rfl,vs,.inl (SqL.of h1),by rw [d1.length];exact q _ _ k1 b1 ⟨[],.int _⟩⟩
   | tuple ds =>
    obtain ⟨a1,vs,rfl,h1,l1,d1⟩:=hv.itup
    cases hn
    exact .inl ⟨a1,rfl,vs,.inr (SqT.of h1),by rw [d1.length];exact q _ _ k1 b1 ⟨[],.int _⟩⟩
   | str z =>
    obtain ⟨rfl,_⟩:=hv.istr
    cases hn
    exact .inr ⟨z,rfl,Ybx hpk hok ex,q _ _ k1 b1 ⟨[],.int _⟩⟩
   | _=>cases hn
 | sum t =>
  obtain ⟨a,u,rfl,h,ht⟩:=hat
  walk_at "rd"
  refine ⟨_,SqT.of h,_,rfl,?_⟩
  walk_at "rd"
  refine ⟨_,SqT.of h,_,rfl,?_⟩
  repeat refine Yv (by decide) ?_
  walk_at "rd"
  refine fun f1 hf1=>⟨_,u,th,f1,t,d,Wz,rfl,hA.sub ht hok (Nat.le_refl _),fun e _=>XS hf1,Xu q (fun m e=>by simp only [tell,e];rfl) (fun x e c=>?_) fun x ex c r H1 k1 b1 hv=>?_⟩
  ·have:(fun x=>(YF x).bind Xb) x=none:=by simpa [Wz] using c
   simp only [tell,e];rw [YI this];rfl
  ·obtain ⟨s,hs⟩:=Option.isSome_iff_exists.mp (show ((YF x).bind Xb).isSome=true from c)
   have e2:tell (.sum t) d = .ok (.int s):=by simp only [tell,ex];rw [Yx (f:=fun x=>(YF x).bind Xb) hs];rfl
   rw [e2] at q
   cases x with
   | list ds =>
    obtain ⟨a1,vs,rfl,h1,l1,d1⟩:=hv.ilst
    obtain ⟨ns,rfl,hn⟩:=Vn d1 hs
    exact .inl ⟨a1,rfl,ns,SqL.of h1,q _ _ k1 b1 (by rw [hn];exact ⟨[],.int _⟩)⟩
   | tuple ds =>
    obtain ⟨a1,vs,rfl,h1,l1,d1⟩:=hv.itup
    obtain ⟨ns,rfl,hn⟩:=Vn d1 hs
    exact .inr ⟨a1,rfl,ns,SqT.of h1,q _ _ k1 b1 (by rw [hn];exact ⟨[],.int _⟩)⟩
   | _=>cases hs
 | not t =>
  obtain ⟨a,u,rfl,h,ht⟩:=hat
  walk_at "rd"
  refine ⟨_,SqT.of h,_,rfl,?_⟩
  walk_at "rd"
  refine ⟨_,SqT.of h,_,rfl,?_⟩
  repeat refine Yv (by decide) ?_
  walk_at "rd"
  refine fun f1 hf1=>⟨_,u,th,f1,t,d,isB,rfl,hA.sub ht hok (Nat.le_refl _),fun e _=>XA hf1,Xu q (fun m e=>by simp only [tell,e];rfl) (fun x e c=>by simp only [tell,e,YI (Xh c)];rfl) fun x ex c r H1 k1 b1 hv=>?_⟩
  obtain ⟨i,rfl⟩:=Xp c
  cases hv.ibl
  simp only [tell,ex,Yx (show Y4 (.bool i)=some i from rfl)] at q
  exact ⟨i,rfl,q _ _ k1 b1 ⟨[],.bl _⟩⟩
 | turned t =>
  obtain ⟨a,u,rfl,h,ht⟩:=hat
  walk_at "rd"
  refine ⟨_,SqT.of h,_,rfl,?_⟩
  walk_at "rd"
  refine ⟨_,SqT.of h,_,rfl,?_⟩
  repeat refine Yv (by decide) ?_
  unfold Yb2
  walk_at "rd"
  refine fun f1 hf1=>⟨_,u,th,f1,t,d,XQ,rfl,hA.sub ht hok (Nat.le_refl _),fun e _=>XS hf1,Xu q (fun m e=>by simp only [tell,e];rfl) (fun x e c=>?_) fun x ex c r H1 k1 b1 hv=>?_⟩
  ·have:VY x=none:=by cases x<;>first | rfl | (simp [XQ,Wr] at c)
   simp only [tell,e,YI this]
  ·simp only [tell,ex] at q
   cases x with
   | list ds =>
    obtain ⟨a1,vs,rfl,h1,l1,d1⟩:=hv.ilst
    refine .inl ⟨a1,rfl,vs,SqL.of h1,fun p hp=>?_⟩
    have s3:=Yf.upd_new hp (HO.lst vs.reverse)
    exact q _ _ (k1.trans (Y5 s3)) (b1.keep s3) (.lst Yh (by rw [List.length_reverse];exact l1) (d1.reverse.keep s3))
   | tuple ds =>
    obtain ⟨a1,vs,rfl,h1,l1,d1⟩:=hv.itup
    refine .inr (.inl ⟨a1,rfl,vs,SqT.of h1,fun p hp=>?_⟩)
    have s3:=Yf.upd_new hp (HO.tup vs.reverse)
    exact q _ _ (k1.trans (Y5 s3)) (b1.keep s3) (.tup Yh (by rw [List.length_reverse];exact l1) (d1.reverse.keep s3))
   | str z =>
    obtain ⟨rfl,o1⟩:=hv.istr
    exact .inr (.inr ⟨z,rfl,Ybx hpk hok ex,q _ _ k1 b1 ⟨[],.str _ (Qs o1)⟩⟩)
   | _=>cases c
 | same a b =>
  obtain ⟨c,p,u,w,rfl,h,hp,h1,h2⟩:=hat
  walk_at "rd"
  refine ⟨_,SqT.of h,_,rfl,?_⟩
  walk_at "rd"
  refine ⟨_,SqT.of h,_,rfl,?_⟩
  repeat refine Yv (by decide) ?_
  exact ⟨p,u,w,th,a,b,d,rfl,hp,hA.sub h1 hok.1 (by simp only [Tm.dep];omega),hA.sub h2 hok.2 (by simp only [Tm.dep];omega),q⟩
 | both a b =>
  obtain ⟨c,p,u,w,rfl,h,hp,h1,h2⟩:=hat
  walk_at "rd"
  refine ⟨_,SqT.of h,_,rfl,?_⟩
  walk_at "rd"
  refine ⟨_,SqT.of h,_,rfl,?_⟩
  repeat refine Yv (by decide) ?_
  exact ⟨p,u,w,th,a,b,d,rfl,hp,hA.sub h1 hok.1 (by simp only [Tm.dep];omega),hA.sub h2 hok.2 (by simp only [Tm.dep];omega),q⟩
 | when a b c =>
  obtain ⟨z,p,u,w,y,rfl,h,hp,h1,h2,h3⟩:=hat
  walk_at "rd"
  refine ⟨_,SqT.of h,_,rfl,?_⟩
  walk_at "rd"
  refine ⟨_,SqT.of h,_,rfl,?_⟩
  repeat refine Yv (by decide) ?_
  exact ⟨p,u,w,y,th,a,b,c,d,rfl,hp,hA.sub h1 hok.1 (by simp only [Tm.dep];omega),hA.sub h2 hok.2.1 (by simp only [Tm.dep];omega),hA.sub h3 hok.2.2 (by simp only [Tm.dep];omega),q⟩
 | each a b =>
  obtain ⟨c,p,u,w,rfl,h,hp,h1,h2⟩:=hat
  walk_at "rd"
  refine ⟨_,SqT.of h,_,rfl,?_⟩
  walk_at "rd"
  refine ⟨_,SqT.of h,_,rfl,?_⟩
  repeat refine Yv (by decide) ?_
  exact ⟨p,u,w,th,a,b,d,rfl,hp,hA.sub h1 hok.1 (by simp only [Tm.dep];omega),hA.sub h2 hok.2 (by simp only [Tm.dep];omega),q⟩
 | joined a b =>
  obtain ⟨c,p,u,w,rfl,h,hp,h1,h2⟩:=hat
  walk_at "rd"
  refine ⟨_,SqT.of h,_,rfl,?_⟩
  walk_at "rd"
  refine ⟨_,SqT.of h,_,rfl,?_⟩
  repeat refine Yv (by decide) ?_
  exact ⟨p,u,w,th,a,b,d,rfl,hp,hA.sub h1 hok.1 (by simp only [Tm.dep];omega),hA.sub h2 hok.2 (by simp only [Tm.dep];omega),hpk,q⟩
 | plus a b =>
  obtain ⟨c,p,u,w,rfl,h,hp,h1,h2⟩:=hat
  walk_at "rd"
  refine ⟨_,SqT.of h,_,rfl,?_⟩
  walk_at "rd"
  refine ⟨_,SqT.of h,_,rfl,?_⟩
  repeat refine Yv (by decide) ?_
  exact ⟨_,_,p,u,w,th,a,b,d,rfl,hp,.inl ⟨rfl,rfl⟩,hA.sub h1 hok.1 (by simp only [Tm.dep];omega),hA.sub h2 hok.2 (by simp only [Tm.dep];omega),q⟩
 | times a b =>
  obtain ⟨c,p,u,w,rfl,h,hp,h1,h2⟩:=hat
  walk_at "rd"
  refine ⟨_,SqT.of h,_,rfl,?_⟩
  walk_at "rd"
  refine ⟨_,SqT.of h,_,rfl,?_⟩
  repeat refine Yv (by decide) ?_
  exact ⟨_,_,p,u,w,th,a,b,d,rfl,hp,.inr (.inl ⟨rfl,rfl⟩),hA.sub h1 hok.1 (by simp only [Tm.dep];omega),hA.sub h2 hok.2 (by simp only [Tm.dep];omega),q⟩
 | less a b =>
  obtain ⟨c,p,u,w,rfl,h,hp,h1,h2⟩:=hat
  walk_at "rd"
  refine ⟨_,SqT.of h,_,rfl,?_⟩
  walk_at "rd"
  refine ⟨_,SqT.of h,_,rfl,?_⟩
  repeat refine Yv (by decide) ?_
  exact ⟨_,_,p,u,w,th,a,b,d,rfl,hp,.inr (.inr ⟨rfl,rfl⟩),hA.sub h1 hok.1 (by simp only [Tm.dep];omega),hA.sub h2 hok.2 (by simp only [Tm.dep];omega),q⟩
def Z13 (m:Nat):Sp:=fun vs H Q _=>∃ v d,vs=[v]∧DV H v d∧d.depth<m∧∀ v' H' L',Yf H H'→OwD H H' v' d L'→Q v' H'
theorem Yc9 {vs:List V} {H:Hp} {Q:VK} {E:XK} (h:Z13 0 vs H Q E):False:=by
 obtain ⟨v,d,_,_,h,_⟩:=h
 omega
theorem Z0S {k:Nat} {Z0 Z1:Addr} {c_part_told P_part_told:Addr} (R:g.Raw "copied" "copied" Uw ["thing"]) (Z1o:g.Fn k "copied" ["thing"] (Z13 m)) (b_dict:g.mg "dict"=none) (Z2:g.mg "isinstance"=none) (b_list:g.mg "list"=none) (Z3:g.mg "tuple"=none):g.Fn (k+1) "copied" ["thing"] (Z13 (m+1)):=by
 refine R.fn Yc4 (fun vs H Q E h=>by obtain ⟨v,d,rfl,hv,hdp,q⟩:=h;rfl) fun f_ cdv A outer s H vs Q E hr h=>?_
 obtain ⟨v,d,rfl,hv,hdp,q⟩:=h
 refine ⟨_,(@Yd _ _ _ _ _ (@Yo _ _ _ _ _ _ _ _ (@Y1 _ _ _ (@Yz _ _ _ _ _ _ _ _ _ _ Z2 YA (@Ya _ _ _ _ _ (pv 0) (@Ya _ _ _ _ _ (@YG _ _ _ _ ("list") b_list (by decide +kernel) (by rfl) (by rfl) (by decide) (by decide)) Yb (by rfl)) (by rfl)) (by decide +kernel) (by rfl) (by rfl) (by decide) (by decide) (by rfl) (by rfl)) (by intro _;rfl)) (@Ye _ _ _ (@Yg _ _ _ _ (@W0 _ _ _ _ _ _ _ ([none]) ((["each"]:List Str)) _ (YD 0) _ _ (.own .nil) rfl (@WD _ _ _ _ _ (@XG _ _ _ _ (pv 0)) (@WJ _ _ _ _ (pv 0))) (fun cl C s₀ H₀ fp pn=>(@YZ _ _ (0) _ (show List.Nodup (["each"]:List Str) by decide +kernel) rfl (.inl rfl) (.inr rfl))) (fun cl C s₀ H₀ fp pn=>Xw) (fun cl C s₀ H₀ fp pn=>(@Yt _ _ _ _ _ _ _ _ _ _ _ _ Z1o hr (@Ya _ _ _ _ _ (pv 0) Yb (by rfl)) (by omega) (by rfl) (by rfl) (by decide) (by rfl) (by rfl))) (by intro x hx;simp at hx) (by rfl) (by decide) (by decide +kernel) (by intro _;rfl)))) Yj) (@Yd _ _ _ _ _ (@Yo _ _ _ _ _ _ _ _ (@Y1 _ _ _ (@Yz _ _ _ _ _ _ _ _ _ _ Z2 YA (@Ya _ _ _ _ _ (pv 0) (@Ya _ _ _ _ _ (@YG _ _ _ _ ("tuple") Z3 (by decide +kernel) (by rfl) (by rfl) (by decide) (by decide)) Yb (by rfl)) (by rfl)) (by decide +kernel) (by rfl) (by rfl) (by decide) (by decide) (by rfl) (by rfl)) (by intro _;rfl)) (@Ye _ _ _ (@Yg _ _ _ _ (@UL _ _ _ _ _ _ _ _ _ _ Z3 Wx (@Ya _ _ _ _ _ (@W0 _ _ _ _ _ _ _ ([none]) ((["each"]:List Str)) _ (YD 0) _ _ (.own .nil) rfl (@WD _ _ _ _ _ (@XG _ _ _ _ (pv 0)) (@WJ _ _ _ _ (pv 0))) (fun cl C s₀ H₀ fp pn=>(@YZ _ _ (0) _ (show List.Nodup (["each"]:List Str) by decide +kernel) rfl (.inl rfl) (.inr rfl))) (fun cl C s₀ H₀ fp pn=>Xw) (fun cl C s₀ H₀ fp pn=>(@Yt _ _ _ _ _ _ _ _ _ _ _ _ Z1o hr (@Ya _ _ _ _ _ (pv 0) Yb (by rfl)) (by omega) (by rfl) (by rfl) (by decide) (by rfl) (by rfl))) (by intro x hx;simp at hx) (by rfl) (by decide) (by decide +kernel) (by intro _;rfl)) Yb (by rfl)) (by decide +kernel) (by rfl) (by rfl) (by decide) (by decide) (by rfl) (by rfl)))) Yj) (@Yd _ _ _ _ _ (@Yo _ _ _ _ _ _ _ _ (@Y1 _ _ _ (@Yz _ _ _ _ _ _ _ _ _ _ Z2 YA (@Ya _ _ _ _ _ (pv 0) (@Ya _ _ _ _ _ (@YG _ _ _ _ ("dict") b_dict (by decide +kernel) (by rfl) (by rfl) (by decide) (by decide)) Yb (by rfl)) (by rfl)) (by decide +kernel) (by rfl) (by rfl) (by decide) (by decide) (by rfl) (by rfl)) (by intro _;rfl)) (@Ye _ _ _ Ydl) Yj) (@Ye _ _ _ (@Yg _ _ _ _ (pv 0)))))),?_⟩
 have ty:=hv.ty (K:=g.K)
 walk_at "rd"
 cases d with
 | list ds =>
  obtain ⟨a,vs,rfl,h,hl,hds⟩:=hv.ilst
  have e1:=hds.length
  refine ⟨_,rfl,_,ty,true,rfl,VQ (Ua ?_)⟩
  refine YeG (K:=g.K) (b:=a) (xs:=vs) ds (fun R r=>by walk_at "rd";exact r) (SqL.of h) (by omega) hl ?_ (fun D H' L sm ho=>q _ _ _ sm ho)
  intro i x e H' hx he sm R r
  obtain ⟨e',he',hve⟩:=hds.at hx
  rw [he] at he'
  cases he'
  have hme:=YU (List.mem_of_getElem? he)
  walk_at "rd"
  exact ⟨x,e,rfl,hve.keep sm,by rw [PyData.depth] at hdp;omega,fun v' H'' L'' s' ho=>r v' H'' L'' s' ho⟩
 | tuple ds =>
  obtain ⟨a,vs,rfl,h,hl,hds⟩:=hv.itup
  have e1:=hds.length
  refine ⟨_,rfl,_,ty,false,rfl,XR ⟨_,rfl,_,ty,true,rfl,VQ (Ub ?_)⟩⟩
  refine YdR (K:=g.K) (b:=a) (xs:=vs) ds (fun R r=>by walk_at "rd";exact r) (SqT.of h) (by omega) hl ?_ ?_
  ·intro i x e H' hx he sm R r
   obtain ⟨e',he',hve⟩:=hds.at hx
   rw [he] at he'
   cases he'
   have hme:=YU (List.mem_of_getElem? he)
   walk_at "rd"
   exact ⟨x,e,rfl,hve.keep sm,by rw [PyData.depth] at hdp;omega,fun v' H'' L'' s' ho=>r v' H'' L'' s' ho⟩
  ·intro D H' L sm ho
   obtain ⟨ys,L1,_,h1,h2,h3,_,_⟩:=ho.inv
   exact ⟨_,rfl,_,.inl ⟨SqL.of h1,fun p hp=>q _ _ _ (sm.trans (.upd_new hp _)) (YeH h3 h2 hp)⟩⟩
 | dict xs=>obtain ⟨L,h⟩:=hv;cases h
 | int i=>cases hv.iint;exact ⟨_,rfl,_,ty,false,rfl,XR ⟨_,rfl,_,ty,false,rfl,XR ⟨_,rfl,_,ty,false,rfl,XR (q _ _ _ (.refl _) (Vy (.int _)))⟩⟩⟩
 | bool i=>cases hv.ibl;exact ⟨_,rfl,_,ty,false,rfl,XR ⟨_,rfl,_,ty,false,rfl,XR ⟨_,rfl,_,ty,false,rfl,XR (q _ _ _ (.refl _) (Vy (.bl _)))⟩⟩⟩
 | str x=>obtain ⟨rfl,o⟩:=hv.istr;exact ⟨_,rfl,_,ty,false,rfl,XR ⟨_,rfl,_,ty,false,rfl,XR ⟨_,rfl,_,ty,false,rfl,XR (q _ _ _ (.refl _) (Vy (.str _ o)))⟩⟩⟩
 | none=>cases inon hv;exact ⟨_,rfl,_,ty,false,rfl,XR ⟨_,rfl,_,ty,false,rfl,XR ⟨_,rfl,_,ty,false,rfl,XR (q _ _ _ (.refl _) (Vy .non))⟩⟩⟩
def OutS (C P:Addr) (H:Hp) (Q:VK) (E:XK):Say→Prop
 | .ok e=>∀ r H0 H' L,Kt H H0→Yf H0 H'→Tb P H'→OwD H0 H' r e L→Q r H'
 | .error mk=>∀ H' d,Kt H H'→Tb P H'→H' d=none→E (.ref C) (some d) (upd H' d (X6 d [("mark",.str mk)]))
def Yby (P C:Addr):Sp:=fun vs H Q E=>∃ v th t d,vs=[v,th]∧Ask P H 8 t v d th∧OutS C P H Q E (tell t d)
theorem YeR {k:Nat} {Z0 Z1:Addr} {c_part_told P_part_told:Addr} (R:g.Raw "said" "said" Yaq ["term","thing"]) (Z1o:g.Fn k "copied" ["thing"] (Z13 5)) (F_told:g.FnX k "told" ["term","thing"] (WF P_part_told Z1 8)):g.FnX (k+1) "said" ["term","thing"] (Yby P_part_told Z1):=by
 refine R.fnX YeL (fun vs H Q E h=>by obtain ⟨v,th,t,d,rfl,hA,q⟩:=h;rfl) fun f_ cdv A outer s H vs Q E hr h=>?_
 obtain ⟨v,th,t,d,rfl,hA,q⟩:=h
 refine ⟨_,(@Ye _ _ _ (@Yg _ _ _ _ (@Yt _ _ _ _ _ _ _ _ _ _ _ _ Z1o hr (@Ya _ _ _ _ _ (@YY _ _ _ _ _ _ _ _ _ _ _ _ _ F_told hr Y3 (@Ya _ _ _ _ _ (pv 0) (@Ya _ _ _ _ _ (pv 1) Yb (by rfl)) (by rfl)) (by omega) (by rfl) (by rfl) (by decide) (by rfl) (by rfl)) Yb (by rfl)) (by omega) (by rfl) (by rfl) (by decide) (by rfl) (by rfl)))),?_⟩
 walk_at "rd"
 refine ⟨v,th,t,d,rfl,hA,?_⟩
 cases e:tell t d with
 | error mk=>rw [e] at q;exact q
 | ok x =>
  rw [e] at q
  intro r H1 k1 b1 hv
  have:=hA.depth e
  exact ⟨r,x,rfl,hv,by omega,fun v' H' L' s' ho=>q v' H1 H' L' k1 s' (b1.keep s') ho⟩
abbrev hd (c:Addr) (H:Hp):Hp:=off H [c]
theorem Xr {c a:Addr} {H:Hp} (h:a≠c):hd c H a=H a:=YS (by simpa using h)
theorem Uc {c:Addr} {H:Hp}:hd c H c=none:=Wt (by simp)
theorem UX {c a:Addr} {H:Hp} {o:HO} (h:hd c H a=some o):H a=some o∧a≠c:=by
 obtain ⟨h1,h2⟩:=YcS h
 exact ⟨h1,by simpa using h2⟩
theorem Ud {c:Addr} {H:Hp}:Yf (hd c H) H:=fun a o h=>(UX h).1
theorem Yfl {c:Addr} {H:Hp} {o:HO}:hd c (upd H c o)=hd c H:=by
 funext a
 by_cases h:a=c
 ·subst h;rw [Uc,Uc]
 ·rw [Xr h,Xr h,Ym h]
theorem XY {c:Addr} {H H':Hp} (s:Yf H H'):Yf (hd c H) (hd c H'):=fun a o h=>by
 obtain ⟨h1,h2⟩:=UX h
 rw [Xr h2]
 exact s _ _ h1
theorem Yda {c p:Addr} {H:Hp} {o o':HO} (h:H p=none) (hc:H c=some o'):hd c (upd H p o)=upd (hd c H) p o∧hd c H p=none:=by
 have n:p≠c:=fun z=>by rw [z,hc] at h;cases h
 refine ⟨?_,by rw [Xr n];exact h⟩
 funext a
 by_cases ha:a=c
 ·subst ha;rw [Uc,Ym (Ne.symm n),Uc]
 ·rw [Xr ha]
  by_cases hp:a=p
  ·subst hp;rw [Yh,Yh]
  ·rw [Ym hp,Ym hp,Xr ha]
def Cs (H:Hp) (c:Addr):Prop:=∃ ms:List Int,H c=some (.lst (ms.map V.int))∧ms.length≤63
theorem Cs.keep {H H':Hp} {c:Addr} (h:Cs H c) (s:Yf H H'):Cs H' c:=by
 obtain ⟨ms,h1,h2⟩:=h
 exact ⟨ms,s _ _ h1,h2⟩
def Z14:Sp:=fun vs H Q _=>∃ (c:Addr) (mn:Int),vs=[.ref c,.int mn]∧Cs H c∧0<mn∧∀ (z:Nat) H',Yf (hd c H) (hd c H')→Cs H' c→(z:Int)<mn→Q (.int z) H'
theorem Ycb (ys:List Int):PyData.eqv (.list (ys.map .int)) (.list [])=ys.isEmpty:=by rw [PyData.eqv];cases ys<;>simp [PyData.eqvAll]
theorem Ya0 {Z0 Z1:Addr} {c_part_told P_part_told:Addr} (R:g.Raw "_law_take" "_law_take" Z1k ["_law_cells","_law_many"]):g.Fn (1) "_law_take" ["_law_cells","_law_many"] (Z14):=by
 refine R.fn YaY (fun vs H Q E h=>by obtain ⟨c,mn,rfl,⟨ys,hcl,hyl⟩,hmn,q⟩:=h;rfl) fun f_ cdv A outer s H vs Q E hr h=>?_
 obtain ⟨c,mn,rfl,⟨ys,hcl,hyl⟩,hmn,q⟩:=h
 refine ⟨_,(@Yd _ _ _ _ _ (@Yo _ _ _ _ _ _ _ _ (@Yk _ _ _ _ _ _ _ _ (Vf hr.units) (pv 0) (@UD _ _ _ _ Yb) (Yl _)) (@Ye _ _ _ (@Yg _ _ _ _ Yc)) Yj) (@Ye _ _ _ (@Yg _ _ _ _ (@Ys _ _ _ _ _ _ _ _ Xd (@UG _ _ _ _ _ _ _ _ _ _ _ _ PySem.F.plainAttrs_list PySem.F.slot_list_pop PySem.F.type_list_pop Ydr (pv 0) (@Ya _ _ _ _ _ Yc Yb (by rfl)) (by rfl) (by rfl) (by rfl) (by rfl) (by rfl)) (pv 1))))),?_⟩
 walk_at "rd"
 refine ⟨few (by decide),fun p hp=>?_⟩
 have s1:=Yf.upd_new hp (.lst [])
 refine ⟨.list (ys.map .int),.lst (SqL.of (s1 _ _ hcl)) (Dens.ints ys),.list [],.lst (SqL.of Yh) .nil,?_,?_⟩
 ·rw [PyData.depth];have:=UM ys;omega
 rw [Ycb]
 refine YB (fun c=>q 0 _ (XY s1) ⟨ys,s1 _ _ hcl,hyl⟩ hmn) fun c'=>?_
 match ys,hcl,hyl,c' with
 | y::ys,hcl,hyl,_ =>
  have hc1:=s1 _ _ hcl
  refine ⟨.inl ⟨rfl,_,SqL.of hc1⟩,c,_,0,0,.int y,rfl,rfl,hc1,by decide,by decide,?_,rfl,y,rfl,hmn,?_⟩
  ·rw [List.length_map,List.length_cons]
   simp [seqIndex?]
  obtain ⟨z,hz,hz2⟩:=Qd y hmn
  rw [hz]
  exact q z _ (by rw [Yfl];exact XY s1) ⟨ys,Yh,by simp at hyl;omega⟩ hz2
def Z1p (m:Nat):Sp:=fun vs H Q _=>∃ (c:Addr) (n:Nat),vs=[.ref c,.int n]∧n<m∧Cs H c∧∀ v d L H',Yf (hd c H) (hd c H')→Cs H' c→OwD (hd c H) (hd c H') v d L→L2.hb d→d.depth≤n→Shw n d→Q v H'
theorem YdV {vs:List V} {H:Hp} {Q:VK} {E:XK} (h:Z1p 0 vs H Q E):False:=by
 obtain ⟨c,n,_,h,_⟩:=h
 omega
theorem Ydb {H H':Hp} {i:Int}:OwD H H' (.int i) (.int i) []:=⟨.int i,.nil,fun a h=>by cases h⟩
theorem ow_bl {H H':Hp} {i:Bool}:OwD H H' (.bl i) (.bool i) []:=⟨.bl i,.nil,fun a h=>by cases h⟩
theorem Yfm {H H':Hp}:OwD H H' .non .none []:=⟨.non,.nil,fun a h=>by cases h⟩
theorem Yfn {H H':Hp} {x:Str} (h:PyData.strOk x=true):OwD H H' (.str x) (.str x) []:=⟨.str x h,.nil,fun a h=>by cases h⟩
theorem WS {i:Int} (h:i.natAbs<10^45):IB 0 i:=by
 refine ⟨Nat.lt_trans h ?_⟩
 have e2:2^(200*2^0)=(1606938044258990275541962092341162602522202993782792835301376:Nat):=by decide +kernel
 rw [e2]
 decide +kernel
def abA (i:Int):Nat:=(atI ("abA9 ":Str).cps.toList (i%5)).getD 0
theorem YaE (i:Int):atI (Str.ofString "abA9 ").cps.toList (i%5)=some (abA i)∧abA i<1000:=by
 unfold abA
 have h:∀ n:Nat,n<5→∃ c,atI (Str.ofString "abA9 ").cps.toList (n:Int)=some c∧c<1000:=by
  intro n hn
  match n,hn with
  | 0,_=>exact ⟨_,rfl,by decide⟩
  | 1,_=>exact ⟨_,rfl,by decide⟩
  | 2,_=>exact ⟨_,rfl,by decide⟩
  | 3,_=>exact ⟨_,rfl,by decide⟩
  | 4,_=>exact ⟨_,rfl,by decide⟩
 obtain ⟨c,h1,h2⟩:=h (i%5).toNat (by omega)
 rw [show (((i%5).toNat:Nat):Int)=i%5 by omega] at h1
 rw [h1]
 exact ⟨rfl,h2⟩
theorem YdW {l:List Nat} (h:∀ c∈l,c<1000):PyData.strOk (S l)=true:=by
 simp only [PyData.strOk,S,Array.all_eq_true',decide_eq_true_eq]
 intro x hx
 have:=h x (by simpa using hx)
 omega
theorem Qt:∀ cs:List Nat,QJ [] (cs.map fun c=>[c])=cs
 | []=>rfl
 | [x]=>rfl
 | x::y::r=>by
  have:=Qt (y::r)
  show [x]++[]++QJ [] ((y::r).map fun c=>[c])=_
  rw [this];rfl
theorem Ycc (cs:List Nat):Txt.join ("":Str) (cs.map fun c=>S [c])=S cs:=by
 have:=Ye8 [] (cs.map fun c=>[c])
 rw [List.map_map,Qt] at this
 exact this
theorem Qu:∀ cs:List Nat,((cs.map fun c=>S [c]).map (·.length)).sum=cs.length
 | []=>rfl
 | c::cs=>by rw [List.map_cons,List.map_cons,List.sum_cons,Qu cs];show 1+cs.length=_;rw [List.length_cons];omega
theorem UY {c p:Addr} {H:Hp} {o:HO} (n:p≠c):hd c (upd H p o)=upd (hd c H) p o:=by
 funext a
 by_cases ha:a=c
 ·subst ha;rw [Uc,Ym (Ne.symm n),Uc]
 ·rw [Xr ha]
  by_cases hp:a=p
  ·subst hp;rw [Yh,Yh]
  ·rw [Ym hp,Ym hp,Xr ha]
theorem Cs.upd {H:Hp} {c p:Addr} {o:HO} (h:Cs H c) (n:p≠c):Cs (upd H p o) c:=by
 obtain ⟨ms,h1,h2⟩:=h
 exact ⟨ms,by rw [Ym (Ne.symm n)];exact h1,h2⟩
def Uy (c:Addr) (n:Nat) (H1:Hp) (D:Addr) (i:Nat) (zs:List V) (H':Hp):Prop:=zs.length=i∧H' D=some (.lst zs)∧D≠c∧Cs H' c∧Yf (hd c H1) (hd c H')∧∃ ds L,OwDs (hd c H1) (hd c H') zs ds L∧(∀ a∈L,a≠D)∧∀ d∈ds,L2.hb d∧d.depth≤n∧Shw n d
theorem Uy.start {c:Addr} {n:Nat} {H1:Hp} {D:Addr} (hc:Cs H1 c) (hD:H1 D=none):Uy c n H1 D 0 [] (upd H1 D (.lst [])):=by
 have nc:D≠c:=fun z=>by obtain ⟨ms,h,_⟩:=hc;rw [z,h] at hD;cases hD
 refine ⟨rfl,Yh,nc,hc.upd nc,XY (.upd_new hD _),[],[],⟨.nil,.nil,fun a h=>by cases h⟩,(fun a h=>by cases h),(fun d h=>by cases h)⟩
theorem Uy.put {c:Addr} {n i:Nat} {H1 H' H'':Hp} {D:Addr} {zs:List V} {y:V} {d:PyData} {L':List Addr} (hD:H1 D=none) (h:Uy c n H1 D i zs H') (s:Yf (hd c H') (hd c H'')) (hc:Cs H'' c) (o:OwD (hd c H') (hd c H'') y d L') (hb':L2.hb d) (hd':d.depth≤n) (hs':Shw n d):H'' D=some (.lst zs)∧Uy c n H1 D (i+1) (zs++[y]) (upd H'' D (.lst (zs++[y]))):=by
 obtain ⟨h1,h2,h3,h4,h5,ds,L,h6,h7,h8⟩:=h
 have e1:hd c H' D=some (.lst zs):=by rw [Xr h3];exact h2
 have e2:H'' D=some (.lst zs):=(UX (s _ _ e1)).1
 obtain ⟨p1,p2⟩:=h6.put (zs':=zs++[y]) h7 h5 s o e1
 refine ⟨e2,by simp [h1],Yh,h3,hc.upd h3,?_,ds++[d],L++L',by rw [UY h3];exact p1,p2,fun z hz=>?_⟩
 ·rw [UY h3]
  exact .upd_over (by rw [Xr h3];exact hD) (h5.trans s) _
 ·rcases List.mem_append.mp hz with hz | hz
  ·exact h8 z hz
  ·cases List.mem_singleton.mp hz;exact ⟨hb',hd',hs'⟩
theorem Z0F {k:Nat} {Z0 Z1:Addr} {c_part_told P_part_told:Addr} (R:g.Raw "_law_thing" "_law_thing" Z1a ["_law_cells","_law_left"]) (ZY:g.Fn k "_law_take" ["_law_cells","_law_many"] (Z14)) (Z0P:g.Fn k "_law_thing" ["_law_cells","_law_left"] (Z1p m)) (Zd:g.mg "range"=none) (Z3:g.mg "tuple"=none):g.Fn (k+1) "_law_thing" ["_law_cells","_law_left"] (Z1p (m+1)):=by
 refine R.fn Z05 (fun vs H Q E h=>by obtain ⟨c,n,rfl,hn,hc,q⟩:=h;rfl) fun f_ cdv A outer s H vs Q E hr h=>?_
 obtain ⟨c,n,rfl,hn,hc,q⟩:=h
 refine ⟨_,(@Yd _ _ _ _ _ (@YJ _ _ (2) _ _ _ _ Z05.nd rfl (.inl rfl) (@Yt _ _ _ _ _ _ _ _ _ _ _ _ ZY hr (@Ya _ _ _ _ _ (pv 0) (@Ya _ _ _ _ _ (@Ys _ _ _ _ _ _ _ _ VM Yc Yc) Yb (by rfl)) (by rfl)) (by omega) (by rfl) (by rfl) (by decide) (by rfl) (by rfl)) (by rfl) (by first | exact .inl rfl | exact .inr rfl | assumption)) (@Yd _ _ _ _ _ (@YJ _ _ (3) _ _ _ _ Z05.nd rfl (.inr rfl) (@Ys _ _ _ _ _ _ _ _ Xz (pv 2) Yc) (by rfl) (by first | exact .inl rfl | exact .inr rfl | assumption)) (@Yd _ _ _ _ _ (@YJ _ _ (4) _ _ _ _ Z05.nd rfl (.inl rfl) (@Ys _ _ _ _ _ _ _ _ Xd (pv 2) Yc) (by rfl) (by first | exact .inl rfl | exact .inr rfl | assumption)) (@Yd _ _ _ _ _ (@Yo _ _ _ _ _ _ _ _ (@XW _ _ _ _ _ _ _ (@Yk _ _ _ _ _ _ _ _ Yq (pv 4) Yc (Yl _)) (@XI _ _ _ _ (@Yk _ _ _ _ _ _ _ _ Yq (pv 1) Yc (Yl _)))).pt (@Ye _ _ _ (@Yg _ _ _ _ (@Ys _ _ _ _ _ _ _ _ YX (@Ys _ _ _ _ _ _ _ _ Xd (pv 3) Yc) Yc))) Yj) (@Yd _ _ _ _ _ (@Yo _ _ _ _ _ _ _ _ (@Yk _ _ _ _ _ _ _ _ Yq (pv 4) Yc (Yl _)) (@Ye _ _ _ (@Yg _ _ _ _ (@Ys _ _ _ _ _ _ _ _ VJ (@Ys _ _ _ _ _ _ _ _ YX (@Yt _ _ _ _ _ _ _ _ _ _ _ _ ZY hr (@Ya _ _ _ _ _ (pv 0) (@Ya _ _ _ _ _ (@Ys _ _ _ _ _ _ _ _ YX (@Ys _ _ _ _ _ _ _ _ U5 Yc (@Ys _ _ _ _ _ _ _ _ VM Yc Yc)) Yc) Yb (by rfl)) (by rfl)) (by omega) (by rfl) (by rfl) (by decide) (by rfl) (by rfl)) (@Ys _ _ _ _ _ _ _ _ VM Yc Yc)) Yc))) Yj) (@Yd _ _ _ _ _ (@Yo _ _ _ _ _ _ _ _ (@Yk _ _ _ _ _ _ _ _ Yq (pv 4) Yc (Yl _)) (@Ye _ _ _ (@Yg _ _ _ _ (@Xs _ _ _ _ _ _ _ _ Yq (@Ys _ _ _ _ _ _ _ _ Xd (pv 3) Yc) Yc (Yl _)))) Yj) (@Yd _ _ _ _ _ (@Yo _ _ _ _ _ _ _ _ (@Yk _ _ _ _ _ _ _ _ Yq (pv 4) Yc (Yl _)) (@Ye _ _ _ (@Yg _ _ _ _ (@UG _ _ _ _ _ _ _ _ _ _ _ _ PySem.F.plainAttrs_str PySem.F.slot_str_join PySem.F.type_str_join Yeo Yi (@Ya _ _ _ _ _ (@W0 _ _ _ _ _ _ _ ([none,some 3]) ((["_law_k","_law_more"]:List Str)) _ (YD 0) _ _ (.own (.cap (i:=3) rfl rfl (by first | exact .inl rfl | exact .inr rfl) .nil)) rfl (@Ws _ _ _ _ _ _ rfl Zd (@Ya _ _ _ _ _ (@Ys _ _ _ _ _ _ _ _ Xd (pv 3) Yc) Yb (by rfl)) (by rfl)) (fun cl C s₀ H₀ fp pn=>(@YZ _ _ (0) _ (show List.Nodup (["_law_k","_law_more"]:List Str) by decide +kernel) rfl (.inl rfl) (.inr rfl))) (fun cl C s₀ H₀ fp pn=>Xw) (fun cl C s₀ H₀ fp pn=>(@Yy _ _ _ _ _ _ _ Ye2 Yi (@Ys _ _ _ _ _ _ _ _ Xd (@Ys _ _ _ _ _ _ _ _ Xz (pv 1) (@Ys _ _ _ _ _ _ _ _ VJ (pv 0) Yc)) Yc) (fun _ _=>rfl))) (by intro x hx;simp at hx;first | (subst hx;exact .inl rfl) | (rcases hx with rfl | rfl<;>exact .inl rfl) | (rcases hx with rfl | rfl | rfl<;>exact .inl rfl) | (rcases hx with rfl | rfl | rfl | rfl<;>exact .inl rfl) | (rcases hx with rfl | rfl | rfl | rfl | rfl<;>exact .inl rfl)) (by rfl) (by decide) (by decide +kernel) (by intro _;rfl)) Yb (by rfl)) (by rfl) (by rfl) (by rfl) (by rfl) (by rfl)))) Yj) (@Yd _ _ _ _ _ (@Yo _ _ _ _ _ _ _ _ (@Wf _ _ _ _ _ _ _ (@Yk _ _ _ _ _ _ _ _ Yq (pv 4) Yc (Yl _)) (@XV _ _ _ _ (@Yk _ _ _ _ _ _ _ _ Yq (@Ys _ _ _ _ _ _ _ _ Xd (pv 3) Yc) Yc (Yl _)))).pt (@Ye _ _ _ (@Yg _ _ _ _ XZ)) Yj) (@Yd _ _ _ _ _ (@V7 _ (5) _ _ _ _ _ _ _ _ _ ([none,some 0,some 1]) ((["_law_k","_law_cells","_law_left"]:List Str)) _ (YD 0) _ _ Z05.nd rfl (.inl rfl) (.own (.cap (i:=0) rfl rfl (by first | exact .inl rfl | exact .inr rfl) (.cap (i:=1) rfl rfl (by first | exact .inl rfl | exact .inr rfl) .nil))) rfl (@Ws _ _ _ _ _ _ rfl Zd (@Ya _ _ _ _ _ (@Ys _ _ _ _ _ _ _ _ Xd (pv 3) Yc) Yb (by rfl)) (by rfl)) (fun cl C s₀ H₀ fp pn=>(@YZ _ _ (0) _ (show List.Nodup (["_law_k","_law_cells","_law_left"]:List Str) by decide +kernel) rfl (.inl rfl) (.inr rfl))) (fun cl C s₀ H₀ fp pn=>Xw) (fun cl C s₀ H₀ fp pn=>(@Yt _ _ _ _ _ _ _ _ _ _ _ _ Z0P hr (@Ya _ _ _ _ _ (pv 1) (@Ya _ _ _ _ _ (@Ys _ _ _ _ _ _ _ _ YX (pv 2) Yc) Yb (by rfl)) (by rfl)) (by omega) (by rfl) (by rfl) (by decide) (by rfl) (by rfl))) (by intro x hx;simp at hx;first | (subst hx;exact .inl rfl) | (rcases hx with rfl | rfl<;>exact .inl rfl) | (rcases hx with rfl | rfl | rfl<;>exact .inl rfl) | (rcases hx with rfl | rfl | rfl | rfl<;>exact .inl rfl) | (rcases hx with rfl | rfl | rfl | rfl | rfl<;>exact .inl rfl)) (by rfl) (by decide) (by decide +kernel) (by intro _;rfl) (by rfl) (by first | exact .inl rfl | exact .inr rfl | assumption)) (@Yd _ _ _ _ _ (@Yo _ _ _ _ _ _ _ _ (@Yk _ _ _ _ _ _ _ _ Yq (pv 4) Yc (Yl _)) (@Ye _ _ _ (@Yg _ _ _ _ (@UL _ _ _ _ _ _ _ _ _ _ Z3 Wx (@Ya _ _ _ _ _ (pv 5) Yb (by rfl)) (by decide +kernel) (by rfl) (by rfl) (by decide) (by decide) (by rfl) (by rfl)))) Yj) (@Ye _ _ _ (@Yg _ _ _ _ (pv 5))))))))))))),?_⟩
 have cmm:YbP 2 (10^Int.toNat 40) := .inl (cm (m:=2) (n:=200) (by decide) (by decide +kernel))
 refine cut3 (fun σ H'=>∃ z:Nat,σ=[some (.ref c),some (.int n),some (.int z),some (.int ((z:Int) / 7)),some (.int ((z:Int)%7)),none]∧Yf (hd c H) (hd c H')∧Cs H' c∧(z:Int)<10^Int.toNat 18) ?_ ?_
 rotate_left
 ·intro N hN
  walk_at "rd"
  exact ⟨Qc,c,_,rfl,hc,by decide +kernel,fun z H1 s1 c1 hz=>⟨_,rfl,Xg (by decide) (by decide),_,rfl,by decide,hN _ _ ⟨z,rfl,s1,c1,hz⟩⟩⟩
 rintro σ H1 ⟨z,rfl,s1,c1,hz⟩
 refine Xo (fun σ H'=>σ=[some (.ref c),some (.int n),some (.int z),some (.int ((z:Int) / 7)),some (.int ((z:Int)%7)),none]∧H'=H1∧n≠0) ?_ ?_
 rotate_left
 ·intro N hN
  have q0:Q (.int ((z:Int) / 7%9 - 4)) H1:=q _ _ [] _ s1 c1 Ydb (WS (by omega)) (by simp [PyData.depth]) (Ybq (by omega))
  walk_at "rd"
  refine YB (fun c=>⟨by decide,q0⟩) fun c'=>YB (fun c=>⟨by decide,q0⟩) fun c'=>hN _ _ ⟨rfl,rfl,by omega⟩
 rintro σ H1' ⟨rfl,e,hn0⟩
 subst e
 refine Xo (fun σ H'=>σ=[some (.ref c),some (.int n),some (.int z),some (.int ((z:Int) / 7)),some (.int ((z:Int)%7)),none]∧H'=H1') ?_ ?_
 rotate_left
 ·intro N hN
  walk_at "rd"
  refine YB (fun c'=>⟨Qc,cmm,c,_,rfl,c1,by decide +kernel,fun y H2 s2 c2 hy=>⟨Qc,_,rfl,(have hsm:=?_;q _ _ [] _ (s1.trans s2) c2 Ydb (WS hsm) (by simp [PyData.depth]) (Ybq hsm))⟩⟩) fun c'=>hN _ _ ⟨rfl,rfl⟩
  have e:(10:Int)^Int.toNat 40=10000000000000000000000000000000000000000:=by decide +kernel
  have e2:(10:Nat)^45=1000000000000000000000000000000000000000000000:=by decide +kernel
  rw [e] at hy ⊢
  rw [e2]
  omega
 rintro σ H1 ⟨rfl,e⟩
 subst e
 refine Xo (fun σ H'=>σ=[some (.ref c),some (.int n),some (.int z),some (.int ((z:Int) / 7)),some (.int ((z:Int)%7)),none]∧H'=H1) ?_ ?_
 rotate_left
 ·intro N hN
  walk_at "rd"
  exact YB (fun c'=>⟨by decide,q _ _ [] _ s1 c1 ow_bl trivial (by simp [PyData.depth]) (YdT _)⟩) fun c'=>hN _ _ ⟨rfl,rfl⟩
 rintro σ H1' ⟨rfl,e⟩
 subst e
 refine Xo (fun σ H'=>σ=[some (.ref c),some (.int n),some (.int z),some (.int ((z:Int) / 7)),some (.int ((z:Int)%7)),none]∧H'=H1') ?_ ?_
 rotate_left
 ·intro N hN
  walk_at "rd"
  refine YB (fun c'=>⟨rfl,?_⟩) fun c'=>hN _ _ ⟨rfl,rfl⟩
  obtain ⟨r,hr,hr2⟩:=Qd ((z:Int) / 7) (j:=6) (by decide)
  have hr6:r<6:=by omega
  refine YbO (n:=r) ((((List.range r).map fun (i:Nat)=>abA ((z:Int) / 7 / ((i:Int)+1))).map fun c=>S [c]).map V.str) (fun R r=>by walk_at "rd";rw [hr];exact ⟨by decide,r⟩) (by simp) (by omega) ?_ ?_
  ·intro i y H' hi hy sm R rr
   rw [List.map_map,List.map_map,List.getElem?_map,List.getElem?_range hi] at hy
   cases hy
   walk_at "rd"
   exact ⟨Xg (by omega) (by omega),by decide,_,_,_,rfl,rfl,by decide,(YaE _).1,rr _ (.refl _)⟩
  ·intro D H' hD sm hd
   refine ⟨_,D,((List.range r).map fun (i:Nat)=>abA ((z:Int) / 7 / ((i:Int)+1))).map fun c=>S [c],rfl,rfl,SqL.of hd,?_,?_⟩
   ·rw [Qu]
    simp only [List.length_map,List.length_range]
    show _+_*0≤_
    omega
   ·rw [Ycc]
    have ho:PyData.strOk (S ((List.range r).map fun (i:Nat)=>abA ((z:Int) / 7 / ((i:Int)+1))))=true:=YdW fun x hx=>by
     obtain ⟨i,_,rfl⟩:=List.mem_map.mp hx
     exact (YaE _).2
    have hlen:(S ((List.range r).map fun (i:Nat)=>abA ((z:Int) / 7 / ((i:Int)+1)))).length=r:=by simp [S,Str.length]
    refine q _ _ [] _ (s1.trans (XY sm)) (c1.keep sm) (Yfn ho) ?_ (by simp [PyData.depth]) (YeJ (by omega) fun x hx=>?_)
    ·show (S _).length≤64
     omega
    ·have hx:x∈((List.range r).map fun (i:Nat)=>abA ((z:Int) / 7 / ((i:Int)+1))):=by simpa [S] using hx
     obtain ⟨i,_,rfl⟩:=List.mem_map.mp hx
     exact (YaE _).2
 rintro σ H1 ⟨rfl,e⟩
 subst e
 refine Xo (fun σ H'=>σ=[some (.ref c),some (.int n),some (.int z),some (.int ((z:Int) / 7)),some (.int ((z:Int)%7)),none]∧H'=H1) ?_ ?_
 rotate_left
 ·intro N hN
  walk_at "rd"
  refine YB (fun c'=>⟨by decide,YB (fun c'=>q _ _ [] _ s1 c1 Yfm trivial (by simp [PyData.depth]) YdU) fun c'=>hN _ _ ⟨rfl,rfl⟩⟩) fun c'=>hN _ _ ⟨rfl,rfl⟩
 rintro σ H1' ⟨rfl,e⟩
 subst e
 walk_at "rd"
 obtain ⟨r,hr,hr2⟩:=Qd ((z:Int) / 7) (j:=5) (by decide)
 have hr5:r<5:=by omega
 refine UR (n:=r) (Uy c (n - 1) H1') (fun R r=>by walk_at "rd";rw [hr];exact ⟨by decide,r⟩) (by omega) (fun D hD => .start c1 hD) (fun D i zs H' h=>⟨h.1,h.2.1⟩) ?_ ?_
 ·intro D i zs H' hD hi hI R rr
  walk_at "rd"
  refine ⟨c,n - 1,?_,by omega,hI.2.2.2.1,fun v d L' H'' s2 c2 ow hb' hd' hs'=>?_⟩
  ·rw [show ((n - 1:Nat):Int)=(n:Int) - 1 by omega]
  ·obtain ⟨p1,p2⟩:=hI.put hD s2 c2 ow hb' hd' hs'
   exact rr v H'' p1 p2
 ·intro D zs H' hD hI
  obtain ⟨h1,h2,h3,h4,h5,ds,L,h6,h7,h8⟩:=hI
  have hl:=h6.vl.length
  have hdp:PyData.depthAll ds≤n - 1:=X1 fun d hd=>(h8 d hd).2.1
  have hsw:=Yaj (ds:=ds) (n:=n - 1) (by omega) fun d hd=>(h8 d hd).2.2
  rw [show n - 1+1=n by omega] at hsw
  have hbs':hbs ds:=VZ fun d hd=>(h8 d hd).1
  have snew:∀ a∈L,hd c H a=none:=fun a ha=>s1.free (h6.new a ha)
  refine YB (fun c'=>⟨D,rfl,zs,.inl ⟨SqL.of h2,fun l hl'=>?_⟩⟩) fun c'=>?_
  ·obtain ⟨ms,hms,_⟩:=h4
   obtain ⟨e1,e2⟩:=Yda (c:=c) (o := .tup zs) hl' hms
   have s6:Yf (hd c H') (hd c (upd H' l (.tup zs))):=XY (.upd_new hl' _)
   refine q _ (.tuple ds) L _ (s1.trans (h5.trans s6)) (Cs.keep ⟨ms,hms,by assumption⟩ (.upd_new hl' _)) ⟨?_,h6.nd,snew⟩ ⟨by omega,hbs'⟩ (by simp only [PyData.depth];omega) hsw.2
   rw [e1]
   exact .tup Yh (by omega) (h6.vl.keep (.upd_new e2 _))
  ·refine q _ (.list ds) (D::L) _ (s1.trans h5) h4 ⟨.lst (by rw [Xr h3];exact h2) (by omega) h6.vl,List.nodup_cons.mpr ⟨fun hm=>h7 D hm rfl,h6.nd⟩,fun a ha=>?_⟩ ⟨by omega,hbs'⟩ (by simp only [PyData.depth];omega) hsw.1
   rcases List.mem_cons.mp ha with rfl | ha
   ·exact s1.free (by rw [Xr h3];exact hD)
   ·exact snew a ha
def Xx (m:Nat):Sp:=fun vs H Q _=>∃ (c:Addr) (w n:Nat),vs=[.ref c,.int w,.int n]∧w≤3∧n<m∧Cs H c∧∀ v t H',Yf (hd c H) (hd c H')→Cs H' c→Yr (hd c H') t v→t.ok→t.dep≤n+1→Q v H'
theorem Ue {vs:List V} {H:Hp} {Q:VK} {E:XK} (h:Xx 0 vs H Q E):False:=by
 obtain ⟨c,w,n,_,_,h,_⟩:=h
 omega
def WT (m:Nat):Sp:=fun vs H Q _=>∃ (c:Addr) (z n:Nat),vs=[.ref c,.int z,.int n]∧n≤m∧(z:Int)<10^Int.toNat 18∧Cs H c∧∀ v t H',Yf (hd c H) (hd c H')→Cs H' c→Yr (hd c H') t v→t.ok→t.dep≤n+1→Q v H'
theorem Xy {c p:Addr} {H:Hp} {vs:List V} (hc:Cs H c) (hp:H p=none):Yf (hd c H) (hd c (upd H p (.tup vs)))∧hd c (upd H p (.tup vs)) p=some (.tup vs)∧Cs (upd H p (.tup vs)) c:=by
 obtain ⟨ms,h1,h2⟩:=hc
 obtain ⟨e1,e2⟩:=Yda (c:=c) (o := .tup vs) hp h1
 exact ⟨XY (.upd_new hp _),by rw [e1,Yh],Cs.keep ⟨ms,h1,h2⟩ (.upd_new hp _)⟩
def QT (c:Addr) (n:Nat) (H:Hp) (Q:VK):Prop:=∀ v t H',Yf (hd c H) (hd c H')→Cs H' c→Yr (hd c H') t v→t.ok→t.dep≤n+1→Q v H'
theorem V1 {c:Addr} {m n w:Nat} {H1:Hp} {R:VK} (hc:Cs H1 c) (hw:w≤3) (hn0:n≠0) (hn:n≤m) (r:∀ v t H2,Yf (hd c H1) (hd c H2)→Cs H2 c→Yr (hd c H2) t v→t.ok→t.dep≤n→R v H2):Xx m [.ref c,.int w,.int ((n:Int) - 1)] H1 R E0 :=
 ⟨c,w,n - 1,by rw [show ((n - 1:Nat):Int)=(n:Int) - 1 by omega],hw,by omega,hc,fun v t H2 s c2 ht ho hd=>r v t H2 s c2 ht ho (by omega)⟩
theorem QP {c:Addr} {m n w:Nat} {H H1:Hp} {Q:VK} (q:QT c n H Q) (s:Yf (hd c H) (hd c H1)) (hc:Cs H1 c) (hw:w≤3) (hn0:n≠0) (hn:n≤m) {mk:Str} (K:Tm→Tm) (hK:∀ H' p v t,H' p=some (.tup [.str mk,v])→Yr H' t v→Yr H' (K t) (.ref p)) (ho:∀ t,t.ok→(K t).ok) (hd:∀ t,(K t).dep=t.dep+1) :
  Xx m [.ref c,.int w,.int ((n:Int) - 1)] H1 (fun x H2=>2≤sizeLine∧∀ p,H2 p=none→Q (.ref p) (upd H2 p (.tup [.str mk,x]))) E0 :=
 V1 hc hw hn0 hn fun v t H2 s2 c2 ht hok hdp=>⟨by decide,fun p hp=>by
  obtain ⟨m1,m2,m3⟩:=Xy (vs:=[.str mk,v]) c2 hp
  exact q _ (K t) _ (s.trans (s2.trans m1)) m3 (hK _ _ _ _ m2 (ht.keep (Y5 m1))) (ho t hok) (by rw [hd];omega)⟩
theorem VD {c:Addr} {m n w w':Nat} {H H1:Hp} {Q:VK} (q:QT c n H Q) (s:Yf (hd c H) (hd c H1)) (hc:Cs H1 c) (hw:w≤3) (hw':w'≤3) (hn0:n≠0) (hn:n≤m) {mk:V} (K:Tm→Tm→Tm) (hK:∀ H' p p' v v' t t',H' p=some (.tup [mk,.ref p'])→H' p'=some (.tup [v,v'])→Yr H' t v→Yr H' t' v'→Yr H' (K t t') (.ref p)) (ho:∀ t t',t.ok→t'.ok→(K t t').ok) (hd:∀ t t',(K t t').dep=max t.dep t'.dep+1) :
  Xx m [.ref c,.int w,.int ((n:Int) - 1)] H1 (fun x H2=>Xx m [.ref c,.int w',.int ((n:Int) - 1)] H2 (fun x_1 H3=>2≤sizeLine∧∀ p,H3 p=none→2≤sizeLine∧∀ p_1,upd H3 p (.tup [x,x_1]) p_1=none→Q (.ref p_1) (upd (upd H3 p (.tup [x,x_1])) p_1 (.tup [mk,.ref p]))) E0) E0 :=
 V1 hc hw hn0 hn fun v t H2 s2 c2 ht hok hdp=>V1 c2 hw' hn0 hn fun v' t' H3 s3 c3 ht' hok' hdp'=>⟨by decide,fun p hp=>⟨by decide,fun p1 hp1=>by
  obtain ⟨m1,m2,m3⟩:=Xy (vs:=[v,v']) c3 hp
  obtain ⟨n1,n2,n3⟩:=Xy (vs:=[mk,.ref p]) m3 hp1
  exact q _ (K t t') _ (s.trans ((s2.trans s3).trans (m1.trans n1))) n3 (hK _ _ _ _ _ _ _ n2 (n1 _ _ m2) (ht.keep (Y5 (s3.trans (m1.trans n1)))) (ht'.keep (Y5 (m1.trans n1)))) (ho t t' hok hok') (by rw [hd];omega)⟩⟩
theorem YaF {c:Addr} {n:Nat} {H:Hp} {Q:VK} (q:QT c n H Q) (hc:Cs H c):0≤sizeLine∧∀ p,H p=none→2≤sizeLine∧∀ p_1,upd H p (.tup []) p_1=none→Q (.ref p_1) (upd (upd H p (.tup [])) p_1 (.tup [.str (Str.ofString "here"),.ref p])) :=
 ⟨by decide,fun p hp=>⟨by decide,fun p1 hp1=>by
  obtain ⟨m1,m2,m3⟩:=Xy (vs:=[]) hc hp
  obtain ⟨n1,n2,n3⟩:=Xy (vs:=[.str (Str.ofString "here"),.ref p]) m3 hp1
  exact q _ .here _ (m1.trans n1) n3 ⟨p1,_,rfl,n2⟩ trivial (by simp [Tm.dep])⟩⟩
theorem Ydc {c:Addr} {m n w:Nat} {k:Int} {H:Hp} {Q:VK} (hk:0≤k) (q:QT c n H Q) (hc:Cs H c) (hw:w≤3) (hn0:n≠0) (hn:n≤m) {A B:Prop} (ha:A) (hb:B) :
  Xx m [.ref c,.int w,.int ((n:Int) - 1)] H (fun x H2=>A∧B∧2≤sizeLine∧∀ p,H2 p=none→2≤sizeLine∧∀ p_1,upd H2 p (.tup [x,.int k]) p_1=none→Q (.ref p_1) (upd (upd H2 p (.tup [x,.int k])) p_1 (.tup [.str (Str.ofString "part"),.ref p]))) E0 :=
 V1 hc hw hn0 hn fun v t H2 s2 c2 ht hok hdp=>⟨ha,hb,by decide,fun p hp=>⟨by decide,fun p1 hp1=>by
  obtain ⟨m1,m2,m3⟩:=Xy (vs:=[v,.int k]) c2 hp
  obtain ⟨n1,n2,n3⟩:=Xy (vs:=[.str (Str.ofString "part"),.ref p]) m3 hp1
  exact q _ (.part t k) _ (s2.trans (m1.trans n1)) n3 ⟨p1,p,v,rfl,n2,n1 _ _ m2,ht.keep (Y5 (m1.trans n1))⟩ ⟨hk,hok⟩ (by simp only [Tm.dep];omega)⟩⟩
theorem ZC {k:Nat} {Z0 Z1:Addr} {c_part_told P_part_told:Addr} (R:g.Raw "_law_row_term" "_law_row_term" Z0N ["_law_cells","_law_first","_law_left"]) (Z6:g.Fn k "_law_term" ["_law_cells","_law_wish","_law_left"] (Xx m)):g.Fn (k+1) "_law_row_term" ["_law_cells","_law_first","_law_left"] (WT m):=by
 refine R.fn Z11 (fun vs H Q E h=>by obtain ⟨c,z,n,rfl,hn,hz,hc,q⟩:=h;rfl) fun f_ cdv A outer s H vs Q E hr h=>?_
 obtain ⟨c,z,n,rfl,hn,hz,hc,q⟩:=h
 refine ⟨_,(@Yd _ _ _ _ _ (@YJ _ _ (3) _ _ _ _ Z11.nd rfl (.inl rfl) (@Ys _ _ _ _ _ _ _ _ Xd (pv 1) Yc) (by rfl) (by first | exact .inl rfl | exact .inr rfl | assumption)) (@Yd _ _ _ _ _ (@Yo _ _ _ _ _ _ _ _ (@XW _ _ _ _ _ _ _ (@Yk _ _ _ _ _ _ _ _ Yq (pv 2) Yc (Yl _)) (@XI _ _ _ _ (@Yk _ _ _ _ _ _ _ _ QE (pv 3) Yc (Yl _)))).pt (@Ye _ _ _ (@Yg _ _ _ _ (@Yp _ _ _ _ _ (@Ya _ _ _ _ _ Yi (@Ya _ _ _ _ _ (@Yp _ _ _ _ _ Yb) Yb (YR _ _ _ _ _)) (by rfl))))) Yj) (@Yd _ _ _ _ _ (@Yo _ _ _ _ _ _ _ _ (@Yk _ _ _ _ _ _ _ _ Yq (pv 3) Yc (Yl _)) (@Ye _ _ _ (@Yg _ _ _ _ (@Yp _ _ _ _ _ (@Ya _ _ _ _ _ Yi (@Ya _ _ _ _ _ (@Yt _ _ _ _ _ _ _ _ _ _ _ _ Z6 hr (@Ya _ _ _ _ _ (pv 0) (@Ya _ _ _ _ _ Yc (@Ya _ _ _ _ _ (@Ys _ _ _ _ _ _ _ _ YX (pv 2) Yc) Yb (by rfl)) (by rfl)) (by rfl)) (by omega) (by rfl) (by rfl) (by decide) (by rfl) (by rfl)) Yb (by rfl)) (by rfl))))) Yj) (@Yd _ _ _ _ _ (@Yo _ _ _ _ _ _ _ _ (@Yk _ _ _ _ _ _ _ _ Yq (pv 3) Yc (Yl _)) (@Ye _ _ _ (@Yg _ _ _ _ (@Yp _ _ _ _ _ (@Ya _ _ _ _ _ Yi (@Ya _ _ _ _ _ (@Yp _ _ _ _ _ (@Ya _ _ _ _ _ (@Yt _ _ _ _ _ _ _ _ _ _ _ _ Z6 hr (@Ya _ _ _ _ _ (pv 0) (@Ya _ _ _ _ _ Yc (@Ya _ _ _ _ _ (@Ys _ _ _ _ _ _ _ _ YX (pv 2) Yc) Yb (by rfl)) (by rfl)) (by rfl)) (by omega) (by rfl) (by rfl) (by decide) (by rfl) (by rfl)) (@Ya _ _ _ _ _ (@Ys _ _ _ _ _ _ _ _ Xd (@Ys _ _ _ _ _ _ _ _ Xz (pv 1) Yc) Yc) Yb (by rfl)) (by rfl))) Yb (YR _ _ _ _ _)) (by rfl))))) Yj) (@Ye _ _ _ (@Yg _ _ _ _ (@Yp _ _ _ _ _ (@Ya _ _ _ _ _ Yi (@Ya _ _ _ _ _ (@Yp _ _ _ _ _ (@Ya _ _ _ _ _ (@Yt _ _ _ _ _ _ _ _ _ _ _ _ Z6 hr (@Ya _ _ _ _ _ (pv 0) (@Ya _ _ _ _ _ Yc (@Ya _ _ _ _ _ (@Ys _ _ _ _ _ _ _ _ YX (pv 2) Yc) Yb (by rfl)) (by rfl)) (by rfl)) (by omega) (by rfl) (by rfl) (by decide) (by rfl) (by rfl)) (@Ya _ _ _ _ _ (@Yt _ _ _ _ _ _ _ _ _ _ _ _ Z6 hr (@Ya _ _ _ _ _ (pv 0) (@Ya _ _ _ _ _ Yc (@Ya _ _ _ _ _ (@Ys _ _ _ _ _ _ _ _ YX (pv 2) Yc) Yb (by rfl)) (by rfl)) (by rfl)) (by omega) (by rfl) (by rfl) (by decide) (by rfl) (by rfl)) Yb (by rfl)) (by rfl))) Yb (YR _ _ _ _ _)) (by rfl))))))))),?_⟩
 have q:QT c n H Q:=q
 walk_at "rd"
 refine ⟨by decide,YB (fun _=>YaF q hc) fun h0=>YB (fun _=>YaF q hc) fun _=>?_⟩
 have hn0:n≠0:=by omega
 refine YB (fun _=>QP (w:=2) q (.refl _) hc (by decide) hn0 hn .turned (fun H' p v t h1 h2=>⟨p,v,rfl,h1,h2⟩) (fun t h=>h) fun t=>rfl) fun _=>YB (fun _=>Ydc (w:=2) (by omega) q hc (by decide) hn0 hn (Xg (by decide) (by decide)) (by decide)) fun _=>?_
 exact VD (w:=2) (w':=2) q (.refl _) hc (by decide) (by decide) hn0 hn .joined (fun H' p p' v v' t t' h1 h2 h3 h4=>⟨p,p',v,v',rfl,h1,h2,h3,h4⟩) (fun t t' h h'=>⟨h,h'⟩) fun t t'=>rfl
theorem Ydd (z:Int):IB 0 (z%10^Int.toNat 12 - 3):=WS (by
 have e:(10:Int)^Int.toNat 12=1000000000000:=by decide +kernel
 have e2:(10:Nat)^45=1000000000000000000000000000000000000000000000:=by decide +kernel
 rw [e,e2]
 omega)
theorem Zj {k:Nat} {Z0 Z1:Addr} {c_part_told P_part_told:Addr} (R:g.Raw "_law_number_term" "_law_number_term" Z0o ["_law_cells","_law_first","_law_left"]) (Z6:g.Fn k "_law_term" ["_law_cells","_law_wish","_law_left"] (Xx m)):g.Fn (k+1) "_law_number_term" ["_law_cells","_law_first","_law_left"] (WT m):=by
 refine R.fn Z0Q (fun vs H Q E h=>by obtain ⟨c,z,n,rfl,hn,hz,hc,q⟩:=h;rfl) fun f_ cdv A outer s H vs Q E hr h=>?_
 obtain ⟨c,z,n,rfl,hn,hz,hc,q⟩:=h
 refine ⟨_,(@Yd _ _ _ _ _ (@YJ _ _ (3) _ _ _ _ Z0Q.nd rfl (.inl rfl) (@Ys _ _ _ _ _ _ _ _ Xd (pv 1) Yc) (by rfl) (by first | exact .inl rfl | exact .inr rfl | assumption)) (@Yd _ _ _ _ _ (@Yo _ _ _ _ _ _ _ _ (@XW _ _ _ _ _ _ _ (@Yk _ _ _ _ _ _ _ _ Yq (pv 2) Yc (Yl _)) (@XI _ _ _ _ (@Yk _ _ _ _ _ _ _ _ Yq (pv 3) Yc (Yl _)))).pt (@Ye _ _ _ (@Yg _ _ _ _ (@Yp _ _ _ _ _ (@Ya _ _ _ _ _ Yi (@Ya _ _ _ _ _ (@Ys _ _ _ _ _ _ _ _ YX (@Ys _ _ _ _ _ _ _ _ Xd (@Ys _ _ _ _ _ _ _ _ Xz (pv 1) Yc) (@Ys _ _ _ _ _ _ _ _ VM Yc Yc)) Yc) Yb (by rfl)) (by rfl))))) Yj) (@Yd _ _ _ _ _ (@Yo _ _ _ _ _ _ _ _ (@Yk _ _ _ _ _ _ _ _ Yq (pv 3) Yc (Yl _)) (@Ye _ _ _ (@Yg _ _ _ _ (@Yp _ _ _ _ _ (@Ya _ _ _ _ _ Yi (@Ya _ _ _ _ _ (@Yp _ _ _ _ _ Yb) Yb (YR _ _ _ _ _)) (by rfl))))) Yj) (@Yd _ _ _ _ _ (@Yo _ _ _ _ _ _ _ _ (@Yk _ _ _ _ _ _ _ _ Yq (pv 3) Yc (Yl _)) (@Ye _ _ _ (@Yg _ _ _ _ (@Yp _ _ _ _ _ (@Ya _ _ _ _ _ Yi (@Ya _ _ _ _ _ (@Yt _ _ _ _ _ _ _ _ _ _ _ _ Z6 hr (@Ya _ _ _ _ _ (pv 0) (@Ya _ _ _ _ _ Yc (@Ya _ _ _ _ _ (@Ys _ _ _ _ _ _ _ _ YX (pv 2) Yc) Yb (by rfl)) (by rfl)) (by rfl)) (by omega) (by rfl) (by rfl) (by decide) (by rfl) (by rfl)) Yb (by rfl)) (by rfl))))) Yj) (@Yd _ _ _ _ _ (@Yo _ _ _ _ _ _ _ _ (@Yk _ _ _ _ _ _ _ _ Yq (pv 3) Yc (Yl _)) (@Ye _ _ _ (@Yg _ _ _ _ (@Yp _ _ _ _ _ (@Ya _ _ _ _ _ Yi (@Ya _ _ _ _ _ (@Yt _ _ _ _ _ _ _ _ _ _ _ _ Z6 hr (@Ya _ _ _ _ _ (pv 0) (@Ya _ _ _ _ _ Yc (@Ya _ _ _ _ _ (@Ys _ _ _ _ _ _ _ _ YX (pv 2) Yc) Yb (by rfl)) (by rfl)) (by rfl)) (by omega) (by rfl) (by rfl) (by decide) (by rfl) (by rfl)) Yb (by rfl)) (by rfl))))) Yj) (@Yd _ _ _ _ _ (@Yo _ _ _ _ _ _ _ _ (@Yk _ _ _ _ _ _ _ _ Yq (pv 3) Yc (Yl _)) (@Ye _ _ _ (@Yg _ _ _ _ (@Yp _ _ _ _ _ (@Ya _ _ _ _ _ Yi (@Ya _ _ _ _ _ (@Yp _ _ _ _ _ (@Ya _ _ _ _ _ (@Yt _ _ _ _ _ _ _ _ _ _ _ _ Z6 hr (@Ya _ _ _ _ _ (pv 0) (@Ya _ _ _ _ _ Yc (@Ya _ _ _ _ _ (@Ys _ _ _ _ _ _ _ _ YX (pv 2) Yc) Yb (by rfl)) (by rfl)) (by rfl)) (by omega) (by rfl) (by rfl) (by decide) (by rfl) (by rfl)) (@Ya _ _ _ _ _ (@Ys _ _ _ _ _ _ _ _ Xd (@Ys _ _ _ _ _ _ _ _ Xz (pv 1) Yc) Yc) Yb (by rfl)) (by rfl))) Yb (YR _ _ _ _ _)) (by rfl))))) Yj) (@Ye _ _ _ (@Yg _ _ _ _ (@Yp _ _ _ _ _ (@Ya _ _ _ _ _ (@Yy _ _ _ _ _ _ _ V6 (@UD _ _ _ _ (@Ya _ _ _ _ _ Yi (@Ya _ _ _ _ _ Yi Yb (by rfl)) (by rfl))) (@Ys _ _ _ _ _ _ _ _ YX (pv 3) Yc) (fun _ _=>rfl)) (@Ya _ _ _ _ _ (@Yp _ _ _ _ _ (@Ya _ _ _ _ _ (@Yt _ _ _ _ _ _ _ _ _ _ _ _ Z6 hr (@Ya _ _ _ _ _ (pv 0) (@Ya _ _ _ _ _ Yc (@Ya _ _ _ _ _ (@Ys _ _ _ _ _ _ _ _ YX (pv 2) Yc) Yb (by rfl)) (by rfl)) (by rfl)) (by omega) (by rfl) (by rfl) (by decide) (by rfl) (by rfl)) (@Ya _ _ _ _ _ (@Yt _ _ _ _ _ _ _ _ _ _ _ _ Z6 hr (@Ya _ _ _ _ _ (pv 0) (@Ya _ _ _ _ _ Yc (@Ya _ _ _ _ _ (@Ys _ _ _ _ _ _ _ _ YX (pv 2) Yc) Yb (by rfl)) (by rfl)) (by rfl)) (by omega) (by rfl) (by rfl) (by decide) (by rfl) (by rfl)) Yb (by rfl)) (by rfl))) Yb (YR _ _ _ _ _)) (by rfl))))))))))),?_⟩
 have q:QT c n H Q:=q
 have tnum:∀ p,H p=none→Q (V.ref p) (upd H p (HO.tup [V.str (Str.ofString "num"),V.int ((z:Int) / 7%10^Int.toNat 12 - 3)])):=fun p hp=>by
  obtain ⟨m1,m2,m3⟩:=Xy (vs:=[V.str (Str.ofString "num"),V.int ((z:Int) / 7%10^Int.toNat 12 - 3)]) hc hp
  exact q _ (.num _) _ m1 m3 ⟨p,rfl,m2⟩ (Ydd _) (by simp [Tm.dep])
 walk_at "rd"
 have sd:Vu (z:Int) 7:=Xg (by decide) (by decide)
 refine ⟨by decide,YB (fun _=>⟨sd,Qc,by decide +kernel,by decide,tnum⟩) fun h0=>YB (fun _=>⟨sd,Qc,by decide +kernel,by decide,tnum⟩) fun _=>YB (fun _=>YaF q hc) fun _=>?_⟩
 have hn0:n≠0:=by omega
 refine YB (fun _=>QP (w:=2) q (.refl _) hc (by decide) hn0 hn .count (fun H' p v t h1 h2=>⟨p,v,rfl,h1,h2⟩) (fun t h=>h) fun t=>rfl) fun _=>YB (fun _=>QP (w:=2) q (.refl _) hc (by decide) hn0 hn .sum (fun H' p v t h1 h2=>⟨p,v,rfl,h1,h2⟩) (fun t h=>h) fun t=>rfl) fun _=>YB (fun _=>Ydc (w:=2) (by omega) q hc (by decide) hn0 hn sd (by decide)) fun _=>⟨by decide,fun p hp=>?_⟩
 have hc1:=hc.keep (.upd_new hp (HO.lst [V.str (Str.ofString "plus"),V.str (Str.ofString "times")]))
 have s1:Yf (hd c H) (hd c (upd H p (HO.lst [V.str (Str.ofString "plus"),V.str (Str.ofString "times")]))):=XY (.upd_new hp _)
 rcases (show (z:Int)%7 - 5=0∨(z:Int)%7 - 5=1 by omega) with e | e
 ·exact ⟨_,SqL.of Yh,_,by rw [e];rfl,VD (w:=0) (w':=0) q s1 hc1 (by decide) (by decide) hn0 hn .plus (fun H' p p' v v' t t' h1 h2 h3 h4=>⟨p,p',v,v',rfl,h1,h2,h3,h4⟩) (fun t t' h h'=>⟨h,h'⟩) fun t t'=>rfl⟩
 ·exact ⟨_,SqL.of Yh,_,by rw [e];rfl,VD (w:=0) (w':=0) q s1 hc1 (by decide) (by decide) hn0 hn .times (fun H' p p' v v' t t' h1 h2 h3 h4=>⟨p,p',v,v',rfl,h1,h2,h3,h4⟩) (fun t t' h h'=>⟨h,h'⟩) fun t t'=>rfl⟩
theorem Zq {k:Nat} {Z0 Z1:Addr} {c_part_told P_part_told:Addr} (R:g.Raw "_law_truth_term" "_law_truth_term" Z0x ["_law_cells","_law_first","_law_left"]) (Z6:g.Fn k "_law_term" ["_law_cells","_law_wish","_law_left"] (Xx m)):g.Fn (k+1) "_law_truth_term" ["_law_cells","_law_first","_law_left"] (WT m):=by
 refine R.fn Z0U (fun vs H Q E h=>by obtain ⟨c,z,n,rfl,hn,hz,hc,q⟩:=h;rfl) fun f_ cdv A outer s H vs Q E hr h=>?_
 obtain ⟨c,z,n,rfl,hn,hz,hc,q⟩:=h
 refine ⟨_,(@Yd _ _ _ _ _ (@YJ _ _ (3) _ _ _ _ Z0U.nd rfl (.inl rfl) (@Ys _ _ _ _ _ _ _ _ Xd (pv 1) Yc) (by rfl) (by first | exact .inl rfl | exact .inr rfl | assumption)) (@Yd _ _ _ _ _ (@Yo _ _ _ _ _ _ _ _ (@XW _ _ _ _ _ _ _ (@Yk _ _ _ _ _ _ _ _ Yq (pv 2) Yc (Yl _)) (@XI _ _ _ _ (@Yk _ _ _ _ _ _ _ _ Yq (pv 3) Yc (Yl _)))).pt (@Ye _ _ _ (@Yg _ _ _ _ (@Yp _ _ _ _ _ (@Ya _ _ _ _ _ Yi (@Ya _ _ _ _ _ (@Yp _ _ _ _ _ (@Ya _ _ _ _ _ (@Yp _ _ _ _ _ (@Ya _ _ _ _ _ Yi (@Ya _ _ _ _ _ (@Ys _ _ _ _ _ _ _ _ Xd (@Ys _ _ _ _ _ _ _ _ Xz (pv 1) Yc) Yc) Yb (by rfl)) (by rfl))) (@Ya _ _ _ _ _ (@Yp _ _ _ _ _ (@Ya _ _ _ _ _ Yi (@Ya _ _ _ _ _ (@Ys _ _ _ _ _ _ _ _ Xd (@Ys _ _ _ _ _ _ _ _ Xz (pv 1) Yc) Yc) Yb (by rfl)) (by rfl))) Yb (YR _ _ _ _ _)) (YR _ _ _ _ _))) Yb (YR _ _ _ _ _)) (by rfl))))) Yj) (@Yd _ _ _ _ _ (@Yo _ _ _ _ _ _ _ _ (@Yk _ _ _ _ _ _ _ _ Yq (pv 3) Yc (Yl _)) (@Ye _ _ _ (@Yg _ _ _ _ (@Yp _ _ _ _ _ (@Ya _ _ _ _ _ Yi (@Ya _ _ _ _ _ (@Yp _ _ _ _ _ (@Ya _ _ _ _ _ (@Yt _ _ _ _ _ _ _ _ _ _ _ _ Z6 hr (@Ya _ _ _ _ _ (pv 0) (@Ya _ _ _ _ _ Yc (@Ya _ _ _ _ _ (@Ys _ _ _ _ _ _ _ _ YX (pv 2) Yc) Yb (by rfl)) (by rfl)) (by rfl)) (by omega) (by rfl) (by rfl) (by decide) (by rfl) (by rfl)) (@Ya _ _ _ _ _ (@Yt _ _ _ _ _ _ _ _ _ _ _ _ Z6 hr (@Ya _ _ _ _ _ (pv 0) (@Ya _ _ _ _ _ Yc (@Ya _ _ _ _ _ (@Ys _ _ _ _ _ _ _ _ YX (pv 2) Yc) Yb (by rfl)) (by rfl)) (by rfl)) (by omega) (by rfl) (by rfl) (by decide) (by rfl) (by rfl)) Yb (by rfl)) (by rfl))) Yb (YR _ _ _ _ _)) (by rfl))))) Yj) (@Yd _ _ _ _ _ (@Yo _ _ _ _ _ _ _ _ (@Yk _ _ _ _ _ _ _ _ Yq (pv 3) Yc (Yl _)) (@Ye _ _ _ (@Yg _ _ _ _ (@Yp _ _ _ _ _ (@Ya _ _ _ _ _ Yi (@Ya _ _ _ _ _ (@Yt _ _ _ _ _ _ _ _ _ _ _ _ Z6 hr (@Ya _ _ _ _ _ (pv 0) (@Ya _ _ _ _ _ Yc (@Ya _ _ _ _ _ (@Ys _ _ _ _ _ _ _ _ YX (pv 2) Yc) Yb (by rfl)) (by rfl)) (by rfl)) (by omega) (by rfl) (by rfl) (by decide) (by rfl) (by rfl)) Yb (by rfl)) (by rfl))))) Yj) (@Yd _ _ _ _ _ (@Yo _ _ _ _ _ _ _ _ (@Yk _ _ _ _ _ _ _ _ Yq (pv 3) Yc (Yl _)) (@Ye _ _ _ (@Yg _ _ _ _ (@Yp _ _ _ _ _ (@Ya _ _ _ _ _ Yi (@Ya _ _ _ _ _ (@Yp _ _ _ _ _ (@Ya _ _ _ _ _ (@Yt _ _ _ _ _ _ _ _ _ _ _ _ Z6 hr (@Ya _ _ _ _ _ (pv 0) (@Ya _ _ _ _ _ Yc (@Ya _ _ _ _ _ (@Ys _ _ _ _ _ _ _ _ YX (pv 2) Yc) Yb (by rfl)) (by rfl)) (by rfl)) (by omega) (by rfl) (by rfl) (by decide) (by rfl) (by rfl)) (@Ya _ _ _ _ _ (@Yt _ _ _ _ _ _ _ _ _ _ _ _ Z6 hr (@Ya _ _ _ _ _ (pv 0) (@Ya _ _ _ _ _ Yc (@Ya _ _ _ _ _ (@Ys _ _ _ _ _ _ _ _ YX (pv 2) Yc) Yb (by rfl)) (by rfl)) (by rfl)) (by omega) (by rfl) (by rfl) (by decide) (by rfl) (by rfl)) Yb (by rfl)) (by rfl))) Yb (YR _ _ _ _ _)) (by rfl))))) Yj) (@Yd _ _ _ _ _ (@Yo _ _ _ _ _ _ _ _ (@Yk _ _ _ _ _ _ _ _ Yq (pv 3) Yc (Yl _)) (@Ye _ _ _ (@Yg _ _ _ _ (@Yp _ _ _ _ _ (@Ya _ _ _ _ _ Yi (@Ya _ _ _ _ _ (@Yp _ _ _ _ _ (@Ya _ _ _ _ _ (@Yt _ _ _ _ _ _ _ _ _ _ _ _ Z6 hr (@Ya _ _ _ _ _ (pv 0) (@Ya _ _ _ _ _ Yc (@Ya _ _ _ _ _ (@Ys _ _ _ _ _ _ _ _ YX (pv 2) Yc) Yb (by rfl)) (by rfl)) (by rfl)) (by omega) (by rfl) (by rfl) (by decide) (by rfl) (by rfl)) (@Ya _ _ _ _ _ (@Yt _ _ _ _ _ _ _ _ _ _ _ _ Z6 hr (@Ya _ _ _ _ _ (pv 0) (@Ya _ _ _ _ _ Yc (@Ya _ _ _ _ _ (@Ys _ _ _ _ _ _ _ _ YX (pv 2) Yc) Yb (by rfl)) (by rfl)) (by rfl)) (by omega) (by rfl) (by rfl) (by decide) (by rfl) (by rfl)) Yb (by rfl)) (by rfl))) Yb (YR _ _ _ _ _)) (by rfl))))) Yj) (@Ye _ _ _ (@Yg _ _ _ _ (@Yp _ _ _ _ _ (@Ya _ _ _ _ _ Yi (@Ya _ _ _ _ _ (@Yp _ _ _ _ _ (@Ya _ _ _ _ _ (@Yt _ _ _ _ _ _ _ _ _ _ _ _ Z6 hr (@Ya _ _ _ _ _ (pv 0) (@Ya _ _ _ _ _ Yc (@Ya _ _ _ _ _ (@Ys _ _ _ _ _ _ _ _ YX (pv 2) Yc) Yb (by rfl)) (by rfl)) (by rfl)) (by omega) (by rfl) (by rfl) (by decide) (by rfl) (by rfl)) (@Ya _ _ _ _ _ (@Yt _ _ _ _ _ _ _ _ _ _ _ _ Z6 hr (@Ya _ _ _ _ _ (pv 0) (@Ya _ _ _ _ _ Yc (@Ya _ _ _ _ _ (@Ys _ _ _ _ _ _ _ _ YX (pv 2) Yc) Yb (by rfl)) (by rfl)) (by rfl)) (by omega) (by rfl) (by rfl) (by decide) (by rfl) (by rfl)) Yb (by rfl)) (by rfl))) Yb (YR _ _ _ _ _)) (by rfl))))))))))),?_⟩
 have q:QT c n H Q:=q
 have sd:Vu (z:Int) 6:=Xg (by decide) (by decide)
 have sd2:Vu (z:Int) 54:=Xg (by decide) (by decide)
 refine Uq (fun σ H'=>σ=[some (.ref c),some (.int z),some (.int n),some (.int ((z:Int)%6))]∧H'=H∧n≠0) ?_ ?_
 rotate_left
 ·intro N hN
  have fin:Vu (z:Int) 6∧(0:Int)<9∧2≤sizeLine∧∀ (p:Addr),H p=none→Vu (z:Int) 54∧(0:Int)<9∧2≤sizeLine∧∀ (p_1:Addr),upd H p (HO.tup [V.str (Str.ofString "num"),V.int ((z:Int) / 6%9)]) p_1=none→2≤sizeLine∧∀ (p_2:Addr),
    upd (upd H p (HO.tup [V.str (Str.ofString "num"),V.int ((z:Int) / 6%9)])) p_1 (HO.tup [V.str (Str.ofString "num"),V.int ((z:Int) / 54%9)]) p_2=none→2≤sizeLine∧∀ (p_3:Addr),
     upd (upd (upd H p (HO.tup [V.str (Str.ofString "num"),V.int ((z:Int) / 6%9)])) p_1 (HO.tup [V.str (Str.ofString "num"),V.int ((z:Int) / 54%9)])) p_2 (HO.tup [V.ref p,V.ref p_1]) p_3=none →
      Q (V.ref p_3) (upd (upd (upd (upd H p (HO.tup [V.str (Str.ofString "num"),V.int ((z:Int) / 6%9)])) p_1 (HO.tup [V.str (Str.ofString "num"),V.int ((z:Int) / 54%9)])) p_2 (HO.tup [V.ref p,V.ref p_1])) p_3 (HO.tup [V.str (Str.ofString "less"),V.ref p_2])):=⟨sd,by decide,by decide,fun p hp=>⟨sd2,by decide,by decide,fun p1 hp1=>⟨by decide,fun p2 hp2=>⟨by decide,fun p3 hp3=>by
   obtain ⟨a1,a2,a3⟩:=Xy (vs:=[V.str (Str.ofString "num"),V.int ((z:Int) / 6%9)]) hc hp
   obtain ⟨b1,b2,b3⟩:=Xy (vs:=[V.str (Str.ofString "num"),V.int ((z:Int) / 54%9)]) a3 hp1
   obtain ⟨d1,d2,d3⟩:=Xy (vs:=[V.ref p,V.ref p1]) b3 hp2
   obtain ⟨e1,e2,e3⟩:=Xy (vs:=[V.str (Str.ofString "less"),V.ref p2]) d3 hp3
   exact q _ (.less (.num _) (.num _)) _ ((a1.trans b1).trans (d1.trans e1)) e3 ⟨p3,p2,_,_,rfl,e2,e1 _ _ d2,⟨p,rfl,e1 _ _ (d1 _ _ (b1 _ _ a2))⟩,⟨p1,rfl,e1 _ _ (d1 _ _ b2)⟩⟩ ⟨WS (by omega),WS (by omega)⟩ (by simp [Tm.dep])⟩⟩⟩⟩
  walk_at "rd"
  exact ⟨by decide,YB (fun _=>fin) fun h0=>YB (fun _=>fin) fun _=>hN _ _ ⟨rfl,rfl,by omega⟩⟩
 rintro σ H1 ⟨rfl,e,hn0⟩
 subst e
 walk_at "rd"
 refine YB (fun _=>VD (w:=3) (w':=3) q (.refl _) hc (by decide) (by decide) hn0 hn .same (fun H' p p' v v' t t' h1 h2 h3 h4=>⟨p,p',v,v',rfl,h1,h2,h3,h4⟩) (fun t t' h h'=>⟨h,h'⟩) fun t t'=>rfl) fun _=>YB (fun _=>QP (w:=1) q (.refl _) hc (by decide) hn0 hn .not (fun H' p v t h1 h2=>⟨p,v,rfl,h1,h2⟩) (fun t h=>h) fun t=>rfl) fun _=>YB (fun _=>VD (w:=1) (w':=1) q (.refl _) hc (by decide) (by decide) hn0 hn .both (fun H' p p' v v' t t' h1 h2 h3 h4=>⟨p,p',v,v',rfl,h1,h2,h3,h4⟩) (fun t t' h h'=>⟨h,h'⟩) fun t t'=>rfl) fun _=>YB (fun _=>VD (w:=2) (w':=1) q (.refl _) hc (by decide) (by decide) hn0 hn .each (fun H' p p' v v' t t' h1 h2 h3 h4=>⟨p,p',v,v',rfl,h1,h2,h3,h4⟩) (fun t t' h h'=>⟨h,h'⟩) fun t t'=>rfl) fun _=>VD (w:=0) (w':=0) q (.refl _) hc (by decide) (by decide) hn0 hn .less (fun H' p p' v v' t t' h1 h2 h3 h4=>⟨p,p',v,v',rfl,h1,h2,h3,h4⟩) (fun t t' h h'=>⟨h,h'⟩) fun t t'=>rfl
def Mt55 (c:Addr) (n:Nat) (H1:Hp) (D:Addr) (i:Nat) (zs:List V) (H':Hp):Prop:=zs.length=i∧H' D=some (.lst zs)∧D≠c∧Cs H' c∧Yf (hd c H1) (hd c H')∧∃ ts:List Tm,ts.length=i∧∀ (j:Nat) v t,zs[j]?=some v→ts[j]?=some t→Yr (hd c H') t v∧t.ok∧t.dep≤n
theorem ZS {k:Nat} {Z0 Z1:Addr} {c_part_told P_part_told:Addr} (R:g.Raw "_law_term" "_law_term" Z1l ["_law_cells","_law_wish","_law_left"]) (ZY:g.Fn k "_law_take" ["_law_cells","_law_many"] (Z14)) (Z30:g.Fn k "_law_row_term" ["_law_cells","_law_first","_law_left"] (WT m)) (Z2i:g.Fn k "_law_number_term" ["_law_cells","_law_first","_law_left"] (WT m)) (Z2q:g.Fn k "_law_truth_term" ["_law_cells","_law_first","_law_left"] (WT m)) (Z6:g.Fn k "_law_term" ["_law_cells","_law_wish","_law_left"] (Xx m)) (Zd:g.mg "range"=none) (Z3:g.mg "tuple"=none):g.Fn (k+1) "_law_term" ["_law_cells","_law_wish","_law_left"] (Xx (m+1)):=by
 refine R.fn ZZ (fun vs H Q E h=>by obtain ⟨c,w,n,rfl,hw,hn,hc,q⟩:=h;rfl) fun f_ cdv A outer s H vs Q E hr h=>?_
 obtain ⟨c,w,n,rfl,hw,hn,hc,q⟩:=h
 refine ⟨_,(@Yd _ _ _ _ _ (@YJ _ _ (3) _ _ _ _ ZZ.nd rfl (.inl rfl) (@Yt _ _ _ _ _ _ _ _ _ _ _ _ ZY hr (@Ya _ _ _ _ _ (pv 0) (@Ya _ _ _ _ _ (@Ys _ _ _ _ _ _ _ _ VM Yc Yc) Yb (by rfl)) (by rfl)) (by omega) (by rfl) (by rfl) (by decide) (by rfl) (by rfl)) (by rfl) (by first | exact .inl rfl | exact .inr rfl | assumption)) (@Yd _ _ _ _ _ (@Yo _ _ _ _ _ _ _ _ (@XW _ _ _ _ _ _ _ (@Yk _ _ _ _ _ _ _ _ Yq (pv 1) Yc (Yl _)) (@XI _ _ _ _ (@Yk _ _ _ _ _ _ _ _ Yq (@Ys _ _ _ _ _ _ _ _ Xd (pv 3) Yc) Yc (Yl _)))).pt (@Ye _ _ _ (@YJ _ _ (1) _ _ _ _ ZZ.nd rfl (.inr rfl) (@Ys _ _ _ _ _ _ _ _ Xd (@Ys _ _ _ _ _ _ _ _ Xz (pv 3) Yc) Yc) (by rfl) (by first | exact .inl rfl | exact .inr rfl | assumption))) Yj) (@Yd _ _ _ _ _ (@YJ _ _ (3) _ _ _ _ ZZ.nd rfl (.inl rfl) (@Ys _ _ _ _ _ _ _ _ Xz (pv 3) Yc) (by rfl) (by first | exact .inl rfl | exact .inr rfl | assumption)) (@Yd _ _ _ _ _ (@Yo _ _ _ _ _ _ _ _ (@Wf _ _ _ _ _ _ _ (@Yk _ _ _ _ _ _ _ _ op_gt (pv 2) Yc (Yl _)) (@XV _ _ _ _ (@Yk _ _ _ _ _ _ _ _ Yq (@Ys _ _ _ _ _ _ _ _ Xd (pv 3) Yc) Yc (Yl _)))).pt (@Yd _ _ _ _ _ (@V7 _ (4) _ _ _ _ _ _ _ _ _ ([none,some 0,some 2,some 1]) ((["_law_k","_law_cells","_law_left","_law_wish"]:List Str)) _ (YD 0) _ _ ZZ.nd rfl (.inl rfl) (.own (.cap (i:=0) rfl rfl (by first | exact .inl rfl | exact .inr rfl) (.cap (i:=2) rfl rfl (by first | exact .inl rfl | exact .inr rfl) (.cap (i:=1) rfl rfl (by first | exact .inl rfl | exact .inr rfl) .nil)))) rfl (@Ws _ _ _ _ _ _ rfl Zd (@Ya _ _ _ _ _ Yc Yb (by rfl)) (by rfl)) (fun cl C s₀ H₀ fp pn=>(@YZ _ _ (0) _ (show List.Nodup (["_law_k","_law_cells","_law_left","_law_wish"]:List Str) by decide +kernel) rfl (.inl rfl) (.inr rfl))) (fun cl C s₀ H₀ fp pn=>Xw) (fun cl C s₀ H₀ fp pn=>(@Yt _ _ _ _ _ _ _ _ _ _ _ _ Z6 hr (@Ya _ _ _ _ _ (pv 1) (@Ya _ _ _ _ _ (@Yy _ _ _ _ _ _ _ (Ydx (K:=g.K)) (@UD _ _ _ _ (@Ya _ _ _ _ _ Yc (@Ya _ _ _ _ _ (pv 3) (@Ya _ _ _ _ _ (pv 3) Yb (by rfl)) (by rfl)) (by rfl))) (pv 0) (fun _ _=>rfl)) (@Ya _ _ _ _ _ (@Ys _ _ _ _ _ _ _ _ YX (pv 2) Yc) Yb (by rfl)) (by rfl)) (by rfl)) (by omega) (by rfl) (by rfl) (by decide) (by rfl) (by rfl))) (by intro x hx;simp at hx;first | (subst hx;exact .inl rfl) | (rcases hx with rfl | rfl<;>exact .inl rfl) | (rcases hx with rfl | rfl | rfl<;>exact .inl rfl) | (rcases hx with rfl | rfl | rfl | rfl<;>exact .inl rfl) | (rcases hx with rfl | rfl | rfl | rfl | rfl<;>exact .inl rfl)) (by rfl) (by decide) (by decide +kernel) (by intro _;rfl) (by rfl) (by first | exact .inl rfl | exact .inr rfl | assumption)) (@Ye _ _ _ (@Yg _ _ _ _ (@Yp _ _ _ _ _ (@Ya _ _ _ _ _ Yi (@Ya _ _ _ _ _ (@UL _ _ _ _ _ _ _ _ _ _ Z3 Wx (@Ya _ _ _ _ _ (pv 4) Yb (by rfl)) (by decide +kernel) (by rfl) (by rfl) (by decide) (by decide) (by rfl) (by rfl)) Yb (by rfl)) (by rfl)))))) Yj) (@Yd _ _ _ _ _ (@YJ _ _ (3) _ _ _ _ ZZ.nd rfl (.inl rfl) (@Ys _ _ _ _ _ _ _ _ Xz (pv 3) Yc) (by rfl) (by first | exact .inl rfl | exact .inr rfl | assumption)) (@Yd _ _ _ _ _ (@Yo _ _ _ _ _ _ _ _ (@Yk _ _ _ _ _ _ _ _ Yq (pv 1) Yc (Yl _)) (@Ye _ _ _ (@Yg _ _ _ _ (@Yt _ _ _ _ _ _ _ _ _ _ _ _ Z2i hr (@Ya _ _ _ _ _ (pv 0) (@Ya _ _ _ _ _ (pv 3) (@Ya _ _ _ _ _ (pv 2) Yb (by rfl)) (by rfl)) (by rfl)) (by omega) (by rfl) (by rfl) (by decide) (by rfl) (by rfl)))) Yj) (@Yd _ _ _ _ _ (@Yo _ _ _ _ _ _ _ _ (@Yk _ _ _ _ _ _ _ _ Yq (pv 1) Yc (Yl _)) (@Ye _ _ _ (@Yg _ _ _ _ (@Yt _ _ _ _ _ _ _ _ _ _ _ _ Z2q hr (@Ya _ _ _ _ _ (pv 0) (@Ya _ _ _ _ _ (pv 3) (@Ya _ _ _ _ _ (pv 2) Yb (by rfl)) (by rfl)) (by rfl)) (by omega) (by rfl) (by rfl) (by decide) (by rfl) (by rfl)))) Yj) (@Ye _ _ _ (@Yg _ _ _ _ (@Yt _ _ _ _ _ _ _ _ _ _ _ _ Z30 hr (@Ya _ _ _ _ _ (pv 0) (@Ya _ _ _ _ _ (pv 3) (@Ya _ _ _ _ _ (pv 2) Yb (by rfl)) (by rfl)) (by rfl)) (by omega) (by rfl) (by rfl) (by decide) (by rfl) (by rfl))))))))))),?_⟩
 have q:QT c n H Q:=q
 refine cut3 (fun σ H'=>∃ w' z:Nat,w'≤3∧(z:Int)<10^Int.toNat 18∧σ=[some (.ref c),some (.int w'),some (.int n),some (.int z),none]∧Yf (hd c H) (hd c H')∧Cs H' c) ?_ ?_
 rotate_left
 ·intro N hN
  walk_at "rd"
  refine ⟨Qc,c,_,rfl,hc,by decide +kernel,fun z H1 s1 c1 hz=>?_⟩
  have e27:(z:Int) / 27=((z / 27:Nat):Int):=by omega
  have e9:(z:Int) / 9%3=((z / 9%3:Nat):Int):=by omega
  have hz27:((z / 27:Nat):Int)<10^Int.toNat 18:=by omega
  have f1:=hN _ _ ⟨z / 9%3,z / 27,by omega,hz27,rfl,s1,c1⟩
  have f2:=hN _ _ ⟨w,z / 27,hw,hz27,rfl,s1,c1⟩
  rw [← e27] at f1 f2
  rw [← e9] at f1
  refine YB (fun _=>⟨_,rfl,Xg (by decide) (by decide),by decide,_,rfl,Xg (by decide) (by decide),f1⟩) fun _=>⟨_,rfl,by decide,YB (fun _=>⟨_,rfl,Xg (by decide) (by decide),by decide,_,rfl,Xg (by decide) (by decide),f1⟩) fun _=>⟨_,rfl,Xg (by decide) (by decide),f2⟩⟩
 rintro σ H1 ⟨w',z,hw',hz,rfl,s1,c1⟩
 refine Xo (fun σ H'=>σ=[some (.ref c),some (.int w'),some (.int n),some (.int z),none]∧H'=H1) ?_ ?_
 rotate_left
 ·intro N hN
  walk_at "rd"
  refine YB (fun h0=>⟨by decide,YB (fun _=>?_) fun _=>hN _ _ ⟨rfl,rfl⟩⟩) fun _=>hN _ _ ⟨rfl,rfl⟩
  have hn0:n≠0:=by omega
  refine UR (n:=3) (Mt55 c n H1) (fun R r=>by walk_at "rd";exact r) (by omega) (fun D hD=>?_) (fun D i zs H' h=>⟨h.1,h.2.1⟩) ?_ ?_
  ·have nc:D≠c:=fun z=>by obtain ⟨ms,h,_⟩:=c1;rw [z,h] at hD;cases hD
   exact ⟨rfl,Yh,nc,c1.upd nc,XY (.upd_new hD _),[],rfl,fun j v t h=>by simp at h⟩
  ·intro D i zs H' hD hi hI R rr
   obtain ⟨h1,h2,h3,h4,h5,ts,h6,h7⟩:=hI
   walk_at "rd"
   refine ⟨by decide,fun p hp=>?_⟩
   have u1:=Yf.upd_new hp (HO.lst [V.int 1,V.int w',V.int w'])
   obtain ⟨w2,hw2,hx⟩:∃ w2:Nat,w2≤3∧atI [V.int 1,V.int w',V.int w'] (i:Int)=some (.int w2):=by
    match i,hi with
    | 0,_=>exact ⟨1,by decide,rfl⟩
    | 1,_=>exact ⟨w',hw',rfl⟩
    | 2,_=>exact ⟨w',hw',rfl⟩
   refine ⟨_,SqL.of Yh,_,hx,V1 (w:=w2) (h4.keep u1) hw2 hn0 (by omega) fun v t H'' s2 c2 ht hok hdp=>?_⟩
   have s3:Yf (hd c H') (hd c H''):=(XY u1).trans s2
   have e1:hd c H' D=some (.lst zs):=by rw [Xr h3];exact h2
   have e2:H'' D=some (.lst zs):=(UX (s3 _ _ e1)).1
   have tp:Tps (hd c H'') (hd c (upd H'' D (.lst (zs++[v])))):=by rw [UY h3];exact .upd_lst (by rw [Xr h3];exact e2)
   refine rr v H'' e2 ⟨by simp [h1],Yh,h3,c2.upd h3,?_,ts++[t],by simp [h6],fun j v' t' g1 g2=>?_⟩
   ·rw [UY h3]
    exact .upd_over (by rw [Xr h3];exact hD) (h5.trans s3) _
   ·by_cases hj:j<i
    ·rw [List.getElem?_append_left (by omega)] at g1 g2
     obtain ⟨y1,y2,y3⟩:=h7 j v' t' g1 g2
     exact ⟨(y1.keep (Y5 s3)).tps tp,y2,y3⟩
    ·have e:j=i:=by
      have:=(List.getElem?_eq_some_iff.mp g1).1
      simp [h1] at this
      omega
     subst e
     rw [← h1,List.getElem?_concat_length] at g1
     rw [← h6,List.getElem?_concat_length] at g2
     cases g1
     cases g2
     exact ⟨ht.tps tp,hok,hdp⟩
  ·intro D zs H' hD hI
   obtain ⟨h1,h2,h3,h4,h5,ts,h6,h7⟩:=hI
   refine ⟨D,rfl,zs,.inl ⟨SqL.of h2,fun l hl'=>⟨by decide,fun p hp=>?_⟩⟩⟩
   obtain ⟨a1,a2,a3⟩:=Xy (vs:=zs) h4 hl'
   obtain ⟨b1,b2,b3⟩:=Xy (vs:=[V.str (Str.ofString "when"),V.ref l]) a3 hp
   match zs,ts,h1,h6 with
   | [v1,v2,v3],[t1,t2,t3],_,_ =>
    obtain ⟨x1,x2,x3⟩:=h7 0 v1 t1 rfl rfl
    obtain ⟨y1,y2,y3⟩:=h7 1 v2 t2 rfl rfl
    obtain ⟨z1,z2,z3⟩:=h7 2 v3 t3 rfl rfl
    have k:=Y5 (a1.trans b1)
    exact q _ (.when t1 t2 t3) _ (s1.trans (h5.trans (a1.trans b1))) b3 ⟨p,l,_,_,_,rfl,b2,b1 _ _ a2,x1.keep k,y1.keep k,z1.keep k⟩ ⟨x2,y2,z2⟩ (by simp only [Tm.dep];omega)
 rintro σ H1' ⟨rfl,e⟩
 subst e
 walk_at "rd"
 have e8:(z:Int) / 8=((z / 8:Nat):Int):=by omega
 have fin:WT m [V.ref c,V.int ((z:Int) / 8),V.int n] H1' Q E0:=by
  rw [e8]
  exact ⟨c,z / 8,n,rfl,by omega,by omega,c1,fun v t H' s' c' ht ho hdp=>q v t H' (s1.trans s') c' ht ho hdp⟩
 exact ⟨Xg (by decide) (by decide),YB (fun _=>fin) fun _=>YB (fun _=>fin) fun _=>fin⟩
theorem YaG {Z0 Z1:Addr} {c_part_told P_part_told:Addr} (R:g.Raw "_law_whole" "_law_whole" Z1b ["_law_thing_here"]) (b_bool:g.mg "bool"=none) (b_int:g.mg "int"=none) (Z2:g.mg "isinstance"=none):g.Fn (1) "_law_whole" ["_law_thing_here"] (Xf isI):=by
 refine R.fn Yar (fun vs H Q E h=>by obtain ⟨v,d,rfl,hd,q⟩:=h;rfl) fun f_ cdv A outer s H vs Q E hr h=>?_
 obtain ⟨v,d,rfl,hd,q⟩:=h
 refine ⟨_,(@Ye _ _ _ (@Yg _ _ _ _ (@XF _ _ _ _ _ _ _ (@Yz _ _ _ _ _ _ _ _ _ _ Z2 YA (@Ya _ _ _ _ _ (pv 0) (@Ya _ _ _ _ _ (@YG _ _ _ _ ("int") b_int (by decide +kernel) (by rfl) (by rfl) (by decide) (by decide)) Yb (by rfl)) (by rfl)) (by decide +kernel) (by rfl) (by rfl) (by decide) (by decide) (by rfl) (by rfl)) (@XE _ _ _ _ _ (@UA _ _ _ _ (@Yz _ _ _ _ _ _ _ _ _ _ Z2 YA (@Ya _ _ _ _ _ (pv 0) (@Ya _ _ _ _ _ (@YG _ _ _ _ ("bool") b_bool (by decide +kernel) (by rfl) (by rfl) (by decide) (by decide)) Yb (by rfl)) (by rfl)) (by decide +kernel) (by rfl) (by rfl) (by decide) (by decide) (by rfl) (by rfl))))))),?_⟩
 walk_at "rd"
 have ty:=hd.ty (K:=g.K)
 cases d with
 | bool b=>exact ⟨_,rfl,_,ty,true,rfl,VQ ⟨_,rfl,_,ty,true,rfl,q⟩⟩
 | int i=>exact ⟨_,rfl,_,ty,true,rfl,VQ ⟨_,rfl,_,ty,false,rfl,q⟩⟩
 | _=>exact ⟨_,rfl,_,ty,false,rfl,XR q⟩
def Z10 (m:Nat):Sp:=fun vs H Q _=>∃ (v w:V) (d e:PyData),vs=[v,w]∧DV H v d∧DV H w e∧d.depth<m∧d.depth≤64∧∀ H',Yf H H'→Q (.bl (sm d e)) H'
theorem YdX {vs:List V} {H:Hp} {Q:VK} {E:XK} (h:Z10 0 vs H Q E):False:=by
 obtain ⟨v,w,d,e,_,_,_,h,_⟩:=h
 omega
theorem Yde {H:Hp} {v:V} {d:PyData} (h:DV H v d) (xs):d ≠ .dict xs:=by
 rintro rfl
 obtain ⟨L,h⟩:=h
 cases h
theorem YeS {d e:PyData} (hd:∀ xs,d ≠ .dict xs) (hr:¬ (Xl d=true∧Xl e=true)) (hb:isB d=isB e):d.eqv e=sm d e:=by
 cases d<;>cases e<;>first
  | exact Yav _ _
  | exact Ybr _ _
  | exact Ybs _ _
  | (rw [XM];rfl)
  | (exact absurd rfl (hd _))
  | (exact absurd ⟨rfl,rfl⟩ hr)
  | (simp [isB] at hb;done)
  | (rw [W3 (by intro z;cases z)];simp [PyData.eqv])
theorem Ydf (bs:List Bool):bs.all id=true↔∀ (i:Nat) b,bs[i]?=some b→b=true:=by
 rw [List.all_eq_true]
 constructor
 ·intro h i b hb
  exact h b (List.mem_of_getElem? hb)
 ·intro h b hb
  obtain ⟨i,hi⟩:=List.getElem?_of_mem hb
  exact h i b hi
theorem Ydg {ds es:List PyData} (hl:ds.length=es.length):((List.range ds.length).map fun i=>sm (ds.getD i .none) (es.getD i .none)).all id=sm (.list ds) (.list es):=by
 symm
 refine Yah ⟨fun z=>?_,fun z=>?_⟩
 ·have e:ds=es:=by injection z
  subst e
  rw [Ydf]
  intro i b hb
  rw [List.getElem?_map] at hb
  obtain ⟨j,_,rfl⟩:=Option.map_eq_some_iff.mp hb
  exact XM _
 ·rw [Ydf] at z
  have e:ds=es:=by
   refine List.ext_getElem? fun j=>?_
   by_cases c:j<ds.length
   ·have h1:ds[j]?=some ds[j]:=List.getElem?_eq_getElem c
    have h2:es[j]?=some (es[j]'(by omega)):=List.getElem?_eq_getElem _
    have z1:sm (ds.getD j .none) (es.getD j .none)=true:=z j _ (by rw [List.getElem?_map,List.getElem?_range c];rfl)
    rw [List.getD_eq_getElem?_getD,List.getD_eq_getElem?_getD,h1,h2] at z1
    have z2:sm ds[j] (es[j]'(by omega))=true:=by simpa using z1
    rw [h1,h2,VA.mp z2]
   ·rw [List.getElem?_eq_none (by omega),List.getElem?_eq_none (by omega)]
  rw [e]
theorem V2 {K:PySem.W.Frag} (d:PyData):PySem.W.kitAny K (.type (tn8 d)) (List.map Value.type ["list","tuple"])=some (Xl d):=by cases d<;>rfl
theorem Ycd {K:PySem.W.Frag} (d:PyData):PySem.W.kitOne K (.type (tn8 d)) (.type "bool")=some (isB d):=by cases d<;>rfl
theorem QQ {K:PySem.W.Frag} (d:PyData):PySem.W.kitOne K (.type (tn8 d)) (.type "list")=some (isL d):=by cases d<;>rfl
theorem Yec {K:PySem.W.Frag} (d:PyData):PySem.W.kitOne K (.type (tn8 d)) (.type "str")=some (isS d):=by cases d<;>rfl
theorem YeT {K:PySem.W.Frag} (d:PyData):PySem.W.kitAny K (.type (tn8 d)) (List.map Value.type ["list","tuple","str"])=some (XQ d):=by cases d<;>rfl
theorem Yfo {K:PySem.W.Frag} (d:PyData):PySem.W.kitAny K (.type (tn8 d)) (List.map Value.type ["list","str"])=some (Wy d):=by cases d<;>rfl
theorem Uf (a b:Bool):Um (V.bl a) (V.bl b)=true:=by cases a<;>cases b<;>rfl
theorem Z07 {k:Nat} {Z0 Z1:Addr} {c_part_told P_part_told:Addr} (R:g.Raw "_law_alike" "_law_alike" Z1c ["_law_one","_law_other"]) (Z0u:g.Fn k "_law_alike" ["_law_one","_law_other"] (Z10 m)) (b_all:g.mg "all"=none) (b_bool:g.mg "bool"=none) (Z2:g.mg "isinstance"=none) (b_len:g.mg "len"=none) (b_list:g.mg "list"=none) (Z3:g.mg "tuple"=none) (b_zip:g.mg "zip"=none):g.Fn (k+1) "_law_alike" ["_law_one","_law_other"] (Z10 (m+1)):=by
 refine R.fn Yas (fun vs H Q E h=>by obtain ⟨v,w,d,e,rfl,hv,hw,hm,h64,q⟩:=h;rfl) fun f_ cdv A outer s H vs Q E hr h=>?_
 obtain ⟨v,w,d,e,rfl,hv,hw,hm,h64,q⟩:=h
 refine ⟨_,(@Yd _ _ _ _ _ (@Yo _ _ _ _ _ _ _ _ (@Wf _ _ _ _ _ _ _ (@Y1 _ _ _ (@Yz _ _ _ _ _ _ _ _ _ _ Z2 Y6 (@Ya _ _ _ _ _ (pv 0) (@Ya _ _ _ _ _ (@Yp _ _ _ _ _ (@Ya _ _ _ _ _ (@YG _ _ _ _ ("list") b_list (by decide +kernel) (by rfl) (by rfl) (by decide) (by decide)) (@Ya _ _ _ _ _ (@YG _ _ _ _ ("tuple") Z3 (by decide +kernel) (by rfl) (by rfl) (by decide) (by decide)) Yb (by rfl)) (by rfl))) Yb (YR _ _ _ _ _)) (by rfl)) (by decide +kernel) (by rfl) (by rfl) (by decide) (by decide) (by rfl) (by rfl)) (by intro _;rfl)) (@XV _ _ _ _ (@Y1 _ _ _ (@Yz _ _ _ _ _ _ _ _ _ _ Z2 Y6 (@Ya _ _ _ _ _ (pv 1) (@Ya _ _ _ _ _ (@Yp _ _ _ _ _ (@Ya _ _ _ _ _ (@YG _ _ _ _ ("list") b_list (by decide +kernel) (by rfl) (by rfl) (by decide) (by decide)) (@Ya _ _ _ _ _ (@YG _ _ _ _ ("tuple") Z3 (by decide +kernel) (by rfl) (by rfl) (by decide) (by decide)) Yb (by rfl)) (by rfl))) Yb (YR _ _ _ _ _)) (by rfl)) (by decide +kernel) (by rfl) (by rfl) (by decide) (by decide) (by rfl) (by rfl)) (by intro _;rfl)))).pt (@Yd _ _ _ _ _ (@Yo _ _ _ _ _ _ _ _ (@XW _ _ _ _ _ _ _ (@Yk _ _ _ _ _ _ _ _ V5 (@Yz _ _ _ _ _ _ _ _ _ _ Z2 YA (@Ya _ _ _ _ _ (pv 0) (@Ya _ _ _ _ _ (@YG _ _ _ _ ("list") b_list (by decide +kernel) (by rfl) (by rfl) (by decide) (by decide)) Yb (by rfl)) (by rfl)) (by decide +kernel) (by rfl) (by rfl) (by decide) (by decide) (by rfl) (by rfl)) (@Yz _ _ _ _ _ _ _ _ _ _ Z2 YA (@Ya _ _ _ _ _ (pv 1) (@Ya _ _ _ _ _ (@YG _ _ _ _ ("list") b_list (by decide +kernel) (by rfl) (by rfl) (by decide) (by decide)) Yb (by rfl)) (by rfl)) (by decide +kernel) (by rfl) (by rfl) (by decide) (by decide) (by rfl) (by rfl)) (Yl _)) (@XI _ _ _ _ (@Yk _ _ _ _ _ _ _ _ V5 (@Yz _ _ _ _ _ _ _ _ _ _ b_len Xe (@Ya _ _ _ _ _ (pv 0) Yb (by rfl)) (by decide +kernel) (by rfl) (by rfl) (by decide) (by decide) (by rfl) (by rfl)) (@Yz _ _ _ _ _ _ _ _ _ _ b_len Xe (@Ya _ _ _ _ _ (pv 1) Yb (by rfl)) (by decide +kernel) (by rfl) (by rfl) (by decide) (by decide) (by rfl) (by rfl)) (Yl _)))).pt (@Ye _ _ _ (@Yg _ _ _ _ We)) Yj) (@Ye _ _ _ (@Yg _ _ _ _ (@Yz _ _ _ _ _ _ _ _ _ _ b_all (Wj rfl) (@Ya _ _ _ _ _ (@W0 _ _ _ _ _ _ _ ([none,none]) ((["_law_here","_law_there"]:List Str)) _ (WI g.K 2 (Xm (YD 0) (Xm (YD 1) WH))) _ _ (.own (.own .nil)) rfl (@WD _ _ _ _ _ (@Ybg _ _ _ _ _ _ _ _ _ rfl b_zip (@Ya _ _ _ _ _ (pv 0) (@Ya _ _ _ _ _ (pv 1) Yb (by rfl)) (by rfl)) (by rfl) (by rfl)) (@Ybf _ _ _ _ _ _ _ _ _ rfl b_zip (@Ya _ _ _ _ _ (pv 0) (@Ya _ _ _ _ _ (pv 1) Yb (by rfl)) (by rfl)) (by rfl) (by rfl))) (fun cl C s₀ H₀ fp pn=>(@Ycn _ _ _ _ _ (2) rfl (@Vr _ _ _ _ _ (@YZ _ _ (0) _ (show List.Nodup (["_law_here","_law_there"]:List Str) by decide +kernel) rfl (.inl rfl) (.inr rfl)) (@Vr _ _ _ _ _ (@YZ _ _ (1) _ (show List.Nodup (["_law_here","_law_there"]:List Str) by decide +kernel) rfl (.inl rfl) (.inr rfl)) Ya3 (by rfl)) (by rfl)) (by rfl) (by rfl))) (fun cl C s₀ H₀ fp pn=>Xw) (fun cl C s₀ H₀ fp pn=>(@Yt _ _ _ _ _ _ _ _ _ _ _ _ Z0u hr (@Ya _ _ _ _ _ (pv 0) (@Ya _ _ _ _ _ (pv 1) Yb (by rfl)) (by rfl)) (by omega) (by rfl) (by rfl) (by decide) (by rfl) (by rfl))) (by intro x hx;simp at hx) (by rfl) (by decide) (by decide +kernel) (by intro _;rfl)) Yb (by rfl)) (by decide +kernel) (by rfl) (by rfl) (by decide) (by decide) (by rfl) (by rfl))))) Yj) (@Yd _ _ _ _ _ (@Yo _ _ _ _ _ _ _ _ (@Yk _ _ _ _ _ _ _ _ V5 (@Yz _ _ _ _ _ _ _ _ _ _ Z2 YA (@Ya _ _ _ _ _ (pv 0) (@Ya _ _ _ _ _ (@YG _ _ _ _ ("bool") b_bool (by decide +kernel) (by rfl) (by rfl) (by decide) (by decide)) Yb (by rfl)) (by rfl)) (by decide +kernel) (by rfl) (by rfl) (by decide) (by decide) (by rfl) (by rfl)) (@Yz _ _ _ _ _ _ _ _ _ _ Z2 YA (@Ya _ _ _ _ _ (pv 1) (@Ya _ _ _ _ _ (@YG _ _ _ _ ("bool") b_bool (by decide +kernel) (by rfl) (by rfl) (by decide) (by decide)) Yb (by rfl)) (by rfl)) (by decide +kernel) (by rfl) (by rfl) (by decide) (by decide) (by rfl) (by rfl)) (Yl _)) (@Ye _ _ _ (@Yg _ _ _ _ We)) Yj) (@Ye _ _ _ (@Yg _ _ _ _ (@Xs _ _ _ _ _ _ _ _ (Vf hr.units) (pv 0) (pv 1) (Yl _)))))),?_⟩
 refine Xo (fun σ H'=>σ=[some v,some w]∧Yf H H'∧¬ (Xl d=true∧Xl e=true)) ?_ ?_
 rotate_left
 ·intro N hN
  walk_at "rd"
  refine ⟨by decide,fun p hp=>⟨["list","tuple"],Yh,?_⟩⟩
  have s1:=Yf.upd_new hp (HO.tup [V.ty "list",V.ty "tuple"])
  generalize upd H p (HO.tup [V.ty "list",V.ty "tuple"])=H1 at s1 ⊢
  refine ⟨_,(hv.keep s1).ty,_,V2 d,YB (fun c1=>⟨by decide,fun p1 hp1=>⟨["list","tuple"],Yh,?_⟩⟩) fun c1=>hN _ _ ⟨rfl,s1,fun z=>c1 z.1⟩⟩
  have s2:=s1.trans (Yf.upd_new hp1 (HO.tup [V.ty "list",V.ty "tuple"]))
  generalize upd H1 p1 (HO.tup [V.ty "list",V.ty "tuple"])=H2 at s2 ⊢
  have hv2:=hv.keep s2
  have hw2:=hw.keep s2
  refine ⟨_,hw2.ty,_,V2 e,YB (fun c2=>?_) fun c2=>hN _ _ ⟨rfl,s2,fun z=>c2 z.2⟩⟩
  refine ⟨_,rfl,_,hv2.ty,_,QQ d,_,rfl,_,hw2.ty,_,QQ e,Uf _ _,YB (fun c3=>?_) fun c3=>?_⟩
  ·have z:=q _ s2
   rw [Vm isL c3] at z
   exact z
  ·have c3:isL d=isL e:=by simpa using c3
   cases d with
   | list ds =>
    cases e with
    | list es =>
     obtain ⟨a,vs,rfl,ha,hl,hds⟩:=hv2.ilst
     obtain ⟨a',ws,rfl,hb,hl',hes⟩:=hw2.ilst
     have n1:=hds.length
     have n2:=hes.length
     refine ⟨a,rfl,_,.inl (SqL.of ha),a',rfl,_,.inl (SqL.of hb),YB (fun c=>?_) fun c=>?_⟩
     ·have z:=q _ s2
      rw [Vm (fun d=>match d with | .list l=>decide (l.length=ds.length) | _=>false) (by simp;omega)] at z
      exact z
     ·have hll:vs.length=ws.length:=by omega
      refine Ua (YdE (K:=g.K) (xs:=vs) (ys:=ws) (a:=a) (b:=a') (((List.range ds.length).map fun i=>sm (ds.getD i .none) (es.getD i .none)).map V.bl) (fun R r=>by walk_at "rd";exact r) (SqL.of ha) (SqL.of hb) hll (by simp;omega) (by omega) ?_ ?_)
      ·intro i x y z H' hx hy hz sm' R r
       obtain ⟨d1,h1,h2⟩:=hds.at hx
       obtain ⟨e1,h3,h4⟩:=hes.at hy
       have hi:i<ds.length:=(List.getElem?_eq_some_iff.mp h1).1
       rw [List.map_map,List.getElem?_map,List.getElem?_range hi] at hz
       have hz:V.bl (sm (ds.getD i .none) (es.getD i .none))=z:=Option.some.inj hz
       subst hz
       rw [List.getD_eq_getElem?_getD,List.getD_eq_getElem?_getD,h1,h3] at r
       have hme:=YU (List.mem_of_getElem? h1)
       rw [PyData.depth] at hm h64
       walk_at "rd"
       exact ⟨x,y,d1,e1,rfl,h2.keep sm',h4.keep sm',by omega,by omega,fun H'' s''=>r H'' s''⟩
      ·intro D H' hD sm' hd'
       refine ⟨D,rfl,_,SqL.of hd',?_⟩
       rw [Ydg (by omega)]
       exact q H' (s2.trans sm')
    | tuple es=>exact absurd c3 (by simp [isL])
    | _=>exact absurd c2 (by simp [Xl,YF])
   | tuple ds =>
    cases e with
    | tuple es =>
     obtain ⟨a,vs,rfl,ha,hl,hds⟩:=hv2.itup
     obtain ⟨a',ws,rfl,hb,hl',hes⟩:=hw2.itup
     have n1:=hds.length
     have n2:=hes.length
     refine ⟨a,rfl,_,.inr (SqT.of ha),a',rfl,_,.inr (SqT.of hb),YB (fun c=>?_) fun c=>?_⟩
     ·have z:=q _ s2
      rw [Vm (fun d=>match d with | .tuple l=>decide (l.length=ds.length) | _=>false) (by simp;omega)] at z
      exact z
     ·have hll:vs.length=ws.length:=by omega
      refine Ub (YdD (K:=g.K) (xs:=vs) (ys:=ws) (a:=a) (b:=a') (((List.range ds.length).map fun i=>sm (ds.getD i .none) (es.getD i .none)).map V.bl) (fun R r=>by walk_at "rd";exact r) (SqT.of ha) (SqT.of hb) hll (by simp;omega) (by omega) ?_ ?_)
      ·intro i x y z H' hx hy hz sm' R r
       obtain ⟨d1,h1,h2⟩:=hds.at hx
       obtain ⟨e1,h3,h4⟩:=hes.at hy
       have hi:i<ds.length:=(List.getElem?_eq_some_iff.mp h1).1
       rw [List.map_map,List.getElem?_map,List.getElem?_range hi] at hz
       have hz:V.bl (sm (ds.getD i .none) (es.getD i .none))=z:=Option.some.inj hz
       subst hz
       rw [List.getD_eq_getElem?_getD,List.getD_eq_getElem?_getD,h1,h3] at r
       have hme:=YU (List.mem_of_getElem? h1)
       rw [PyData.depth] at hm h64
       walk_at "rd"
       exact ⟨x,y,d1,e1,rfl,h2.keep sm',h4.keep sm',by omega,by omega,fun H'' s''=>r H'' s''⟩
      ·intro D H' hD sm' hd'
       refine ⟨D,rfl,_,SqL.of hd',?_⟩
       rw [Ydg (by omega),show sm (.list ds) (.list es)=sm (.tuple ds) (.tuple es) from Yah (by rw [VA];constructor<;>(intro z;injection z with z;rw [z]))]
       exact q H' (s2.trans sm')
    | list es=>exact absurd c3 (by simp [isL])
    | _=>exact absurd c2 (by simp [Xl,YF])
   | _=>exact absurd c1 (by simp [Xl,YF])
 rintro σ H1 ⟨rfl,s1,hn⟩
 have hv1:=hv.keep s1
 have hw1:=hw.keep s1
 walk_at "rd"
 refine ⟨_,rfl,_,hv1.ty,_,Ycd d,_,rfl,_,hw1.ty,_,Ycd e,Uf _ _,YB (fun c=>?_) fun c=>⟨d,hv1.den,e,hw1.den,h64,?_⟩⟩
 ·have z:=q _ s1
  rw [Vm isB c] at z
  exact z
 ·rw [YeS (Yde hv) hn (by simpa using c)]
  exact q _ s1
def XB (mk:Str) (pl:Nat) (o x:PyData):Bool :=
 if mk="sum" then Wz x
 else if mk="part"∨(mk="each"∧pl=0) then Xl x
 else if mk="count"∨mk="turned" then XQ x
 else if mk="plus"∨mk="times"∨mk="less" then isI x
 else if mk="not"∨mk="both"∨mk="each"∨(mk="when"∧pl=0) then isB x
 else if mk="joined"∧pl=0 then Wy x
 else if mk="joined" then (decide (isL x=isL o)&&decide (isS x=isS o))
 else true
theorem Vo (a:Str):∀ xs:List Str,inV (.str a) (xs.map V.str)=decide (a∈xs)
 | []=>rfl
 | b::xs=>by
  have ih:=Vo a xs
  unfold inV at ih ⊢
  rw [List.map_cons,List.any_cons,ih]
  have:eqV (.str b) (.str a)=decide (b=a):=by
   simp only [eqV]
   by_cases h:b=a
   ·subst h;simp
   ·rw [decide_eq_false h];exact beq_eq_false_iff_ne.mpr h
  rw [this]
  by_cases h1:a=b
  ·subst h1;simp
  ·have h2:¬ b=a:=fun z=>h1 z.symm
   simp [h1,h2]
def Ydh:Sp:=fun vs H Q _=>∃ (mk:Str) (pl:Nat) (v w:V) (o x:PyData),vs=[.str mk,.int pl,v,w]∧DV H v o∧DV H w x∧∀ H',Yf H H'→Q (.bl (XB mk pl o x)) H'
theorem Yce {k:Nat} {Z0 Z1:Addr} {c_part_told P_part_told:Addr} (R:g.Raw "_law_can" "_law_can" Z1S ["_law_mark","_law_place","_law_one","_law_other"]) (Z2m:g.Fn k "_law_whole" ["_law_thing_here"] (Xf isI)) (b_all:g.mg "all"=none) (b_bool:g.mg "bool"=none) (Z2:g.mg "isinstance"=none) (b_list:g.mg "list"=none) (b_str:g.mg "str"=none) (Z3:g.mg "tuple"=none):g.Fn (k+1) "_law_can" ["_law_mark","_law_place","_law_one","_law_other"] (Ydh):=by
 refine R.fn Yb7 (fun vs H Q E h=>by obtain ⟨mk,pl,v,w,o,x,rfl,hv,hw,q⟩:=h;rfl) fun f_ cdv A outer s H vs Q E hr h=>?_
 obtain ⟨mk,pl,v,w,o,x,rfl,hv,hw,q⟩:=h
 refine ⟨_,(@Yd _ _ _ _ _ (@Yo _ _ _ _ _ _ _ _ (@Yk _ _ _ _ _ _ _ _ Yq (pv 0) Yi (Yl _)) (@Ye _ _ _ (@Yg _ _ _ _ (@XF _ _ _ _ _ _ _ (@Yz _ _ _ _ _ _ _ _ _ _ Z2 Y6 (@Ya _ _ _ _ _ (pv 3) (@Ya _ _ _ _ _ (@Yp _ _ _ _ _ (@Ya _ _ _ _ _ (@YG _ _ _ _ ("list") b_list (by decide +kernel) (by rfl) (by rfl) (by decide) (by decide)) (@Ya _ _ _ _ _ (@YG _ _ _ _ ("tuple") Z3 (by decide +kernel) (by rfl) (by rfl) (by decide) (by decide)) Yb (by rfl)) (by rfl))) Yb (YR _ _ _ _ _)) (by rfl)) (by decide +kernel) (by rfl) (by rfl) (by decide) (by decide) (by rfl) (by rfl)) (@XE _ _ _ _ _ (@Yz _ _ _ _ _ _ _ _ _ _ b_all (Wj rfl) (@Ya _ _ _ _ _ (@W0 _ _ _ _ _ _ _ ([none]) ((["_law_each"]:List Str)) _ (YD 0) _ _ (.own .nil) rfl (@WD _ _ _ _ _ (@XG _ _ _ _ (pv 3)) (@WJ _ _ _ _ (pv 3))) (fun cl C s₀ H₀ fp pn=>(@YZ _ _ (0) _ (show List.Nodup (["_law_each"]:List Str) by decide +kernel) rfl (.inl rfl) (.inr rfl))) (fun cl C s₀ H₀ fp pn=>Xw) (fun cl C s₀ H₀ fp pn=>(@Yt _ _ _ _ _ _ _ _ _ _ _ _ Z2m hr (@Ya _ _ _ _ _ (pv 0) Yb (by rfl)) (by omega) (by rfl) (by rfl) (by decide) (by rfl) (by rfl))) (by intro x hx;simp at hx) (by rfl) (by decide) (by decide +kernel) (by intro _;rfl)) Yb (by rfl)) (by decide +kernel) (by rfl) (by rfl) (by decide) (by decide) (by rfl) (by rfl)))))) Yj) (@Yd _ _ _ _ _ (@Yo _ _ _ _ _ _ _ _ (@XW _ _ _ _ _ _ _ (@Yk _ _ _ _ _ _ _ _ Yq (pv 0) Yi (Yl _)) (@XI _ _ _ _ (@Wf _ _ _ _ _ _ _ (@Yk _ _ _ _ _ _ _ _ Yq (pv 0) Yi (Yl _)) (@XV _ _ _ _ (@Yk _ _ _ _ _ _ _ _ Yq (pv 1) Yc (Yl _)))).pt)).pt (@Ye _ _ _ (@Yg _ _ _ _ (@Yz _ _ _ _ _ _ _ _ _ _ Z2 Y6 (@Ya _ _ _ _ _ (pv 3) (@Ya _ _ _ _ _ (@Yp _ _ _ _ _ (@Ya _ _ _ _ _ (@YG _ _ _ _ ("list") b_list (by decide +kernel) (by rfl) (by rfl) (by decide) (by decide)) (@Ya _ _ _ _ _ (@YG _ _ _ _ ("tuple") Z3 (by decide +kernel) (by rfl) (by rfl) (by decide) (by decide)) Yb (by rfl)) (by rfl))) Yb (YR _ _ _ _ _)) (by rfl)) (by decide +kernel) (by rfl) (by rfl) (by decide) (by decide) (by rfl) (by rfl)))) Yj) (@Yd _ _ _ _ _ (@Yo _ _ _ _ _ _ _ _ (@Yk _ _ _ _ _ _ _ _ WX (pv 0) (@Yp _ _ _ _ _ (@Ya _ _ _ _ _ Yi (@Ya _ _ _ _ _ Yi Yb (by rfl)) (by rfl))) rfl) (@Ye _ _ _ (@Yg _ _ _ _ (@Yz _ _ _ _ _ _ _ _ _ _ Z2 Y6 (@Ya _ _ _ _ _ (pv 3) (@Ya _ _ _ _ _ (@Yp _ _ _ _ _ (@Ya _ _ _ _ _ (@YG _ _ _ _ ("list") b_list (by decide +kernel) (by rfl) (by rfl) (by decide) (by decide)) (@Ya _ _ _ _ _ (@YG _ _ _ _ ("tuple") Z3 (by decide +kernel) (by rfl) (by rfl) (by decide) (by decide)) (@Ya _ _ _ _ _ (@YG _ _ _ _ ("str") b_str (by decide +kernel) (by rfl) (by rfl) (by decide) (by decide)) Yb (by rfl)) (by rfl)) (by rfl))) Yb (YR _ _ _ _ _)) (by rfl)) (by decide +kernel) (by rfl) (by rfl) (by decide) (by decide) (by rfl) (by rfl)))) Yj) (@Yd _ _ _ _ _ (@Yo _ _ _ _ _ _ _ _ (@Yk _ _ _ _ _ _ _ _ WX (pv 0) (@Yp _ _ _ _ _ (@Ya _ _ _ _ _ Yi (@Ya _ _ _ _ _ Yi (@Ya _ _ _ _ _ Yi Yb (by rfl)) (by rfl)) (by rfl))) rfl) (@Ye _ _ _ (@Yg _ _ _ _ (@Yt _ _ _ _ _ _ _ _ _ _ _ _ Z2m hr (@Ya _ _ _ _ _ (pv 3) Yb (by rfl)) (by omega) (by rfl) (by rfl) (by decide) (by rfl) (by rfl)))) Yj) (@Yd _ _ _ _ _ (@Yo _ _ _ _ _ _ _ _ (@XW _ _ _ _ _ _ _ (@Yk _ _ _ _ _ _ _ _ WX (pv 0) (@Yp _ _ _ _ _ (@Ya _ _ _ _ _ Yi (@Ya _ _ _ _ _ Yi (@Ya _ _ _ _ _ Yi Yb (by rfl)) (by rfl)) (by rfl))) rfl) (@XI _ _ _ _ (@Wf _ _ _ _ _ _ _ (@Yk _ _ _ _ _ _ _ _ Yq (pv 0) Yi (Yl _)) (@XV _ _ _ _ (@Yk _ _ _ _ _ _ _ _ Yq (pv 1) Yc (Yl _)))).pt)).pt (@Ye _ _ _ (@Yg _ _ _ _ (@Yz _ _ _ _ _ _ _ _ _ _ Z2 YA (@Ya _ _ _ _ _ (pv 3) (@Ya _ _ _ _ _ (@YG _ _ _ _ ("bool") b_bool (by decide +kernel) (by rfl) (by rfl) (by decide) (by decide)) Yb (by rfl)) (by rfl)) (by decide +kernel) (by rfl) (by rfl) (by decide) (by decide) (by rfl) (by rfl)))) Yj) (@Yd _ _ _ _ _ (@Yo _ _ _ _ _ _ _ _ (@Wf _ _ _ _ _ _ _ (@Yk _ _ _ _ _ _ _ _ Yq (pv 0) Yi (Yl _)) (@XV _ _ _ _ (@Yk _ _ _ _ _ _ _ _ Yq (pv 1) Yc (Yl _)))).pt (@Ye _ _ _ (@Yg _ _ _ _ (@Yz _ _ _ _ _ _ _ _ _ _ Z2 Y6 (@Ya _ _ _ _ _ (pv 3) (@Ya _ _ _ _ _ (@Yp _ _ _ _ _ (@Ya _ _ _ _ _ (@YG _ _ _ _ ("list") b_list (by decide +kernel) (by rfl) (by rfl) (by decide) (by decide)) (@Ya _ _ _ _ _ (@YG _ _ _ _ ("str") b_str (by decide +kernel) (by rfl) (by rfl) (by decide) (by decide)) Yb (by rfl)) (by rfl))) Yb (YR _ _ _ _ _)) (by rfl)) (by decide +kernel) (by rfl) (by rfl) (by decide) (by decide) (by rfl) (by rfl)))) Yj) (@Yd _ _ _ _ _ (@Yo _ _ _ _ _ _ _ _ (@Yk _ _ _ _ _ _ _ _ Yq (pv 0) Yi (Yl _)) (@Ye _ _ _ (@Yg _ _ _ _ (@XF _ _ _ _ _ _ _ (@Xs _ _ _ _ _ _ _ _ Yq (@Yz _ _ _ _ _ _ _ _ _ _ Z2 YA (@Ya _ _ _ _ _ (pv 3) (@Ya _ _ _ _ _ (@YG _ _ _ _ ("list") b_list (by decide +kernel) (by rfl) (by rfl) (by decide) (by decide)) Yb (by rfl)) (by rfl)) (by decide +kernel) (by rfl) (by rfl) (by decide) (by decide) (by rfl) (by rfl)) (@Yz _ _ _ _ _ _ _ _ _ _ Z2 YA (@Ya _ _ _ _ _ (pv 2) (@Ya _ _ _ _ _ (@YG _ _ _ _ ("list") b_list (by decide +kernel) (by rfl) (by rfl) (by decide) (by decide)) Yb (by rfl)) (by rfl)) (by decide +kernel) (by rfl) (by rfl) (by decide) (by decide) (by rfl) (by rfl)) (Yl _)) (@XE _ _ _ _ _ (@Xs _ _ _ _ _ _ _ _ Yq (@Yz _ _ _ _ _ _ _ _ _ _ Z2 YA (@Ya _ _ _ _ _ (pv 3) (@Ya _ _ _ _ _ (@YG _ _ _ _ ("str") b_str (by decide +kernel) (by rfl) (by rfl) (by decide) (by decide)) Yb (by rfl)) (by rfl)) (by decide +kernel) (by rfl) (by rfl) (by decide) (by decide) (by rfl) (by rfl)) (@Yz _ _ _ _ _ _ _ _ _ _ Z2 YA (@Ya _ _ _ _ _ (pv 2) (@Ya _ _ _ _ _ (@YG _ _ _ _ ("str") b_str (by decide +kernel) (by rfl) (by rfl) (by decide) (by decide)) Yb (by rfl)) (by rfl)) (by decide +kernel) (by rfl) (by rfl) (by decide) (by decide) (by rfl) (by rfl)) (Yl _)))))) Yj) (@Ye _ _ _ (@Yg _ _ _ _ We))))))))),?_⟩
 refine Xo (fun σ H'=>σ=[some (.str mk),some (.int pl),some v,some w]∧Yf H H'∧mk≠"sum") ?_ ?_
 rotate_left
 ·intro N hN
  walk_at "rd"
  refine YB (fun c=>⟨by decide,fun p hp=>⟨["list","tuple"],Yh,?_⟩⟩) fun c=>hN _ _ ⟨rfl,.refl _,c⟩
  have s1:=Yf.upd_new hp (HO.tup [V.ty "list",V.ty "tuple"])
  generalize upd H p (HO.tup [V.ty "list",V.ty "tuple"])=H1 at s1 ⊢
  have hd1:=hw.keep s1
  have hq:∀ H',Yf H H'→Q (.bl (Wz x)) H':=fun H' s'=>by have:=q H' s';rw [XB,if_pos c] at this;exact this
  refine ⟨_,hd1.ty,_,V2 x,?_⟩
  have core:∀ (ds:List PyData),YF x=some ds→(∀ D H2,Yf H1 H2→H2 D=some (.lst ((ds.map isI).map V.bl))→∃ p,V.ref D=V.ref p∧∃ x,SqL g.K H2 p (List.map V.bl x)∧Q (V.bl (x.all id)) H2):=fun ds e D H2 s2 hD=>by
   refine ⟨D,rfl,ds.map isI,SqL.of hD,?_⟩
   have:=hq _ (s1.trans s2)
   have e2:Wz x=(ds.map isI).all id:=by
    unfold Wz
    rw [e,Yat]
    exact WR ds
   rw [e2] at this
   exact this
  cases x with
  | list ds =>
   obtain ⟨a,vs,rfl,ha,hl,hds⟩:=hd1.ilst
   have hlen:=hds.length
   refine YV rfl (Ua (Q6 (K:=g.K) (a:=a) (xs:=vs) ((ds.map isI).map V.bl) (fun R r=>by walk_at "rd";exact r) (SqL.of ha) (by simp [hlen]) (by omega) (fun i x y H' hx hy sm R r=>by
    obtain ⟨e,he,hv⟩:=hds.at hx
    rw [List.map_map,List.getElem?_map,he] at hy
    cases hy
    walk_at "rd"
    exact ⟨x,e,rfl,hv.keep sm,r H' (.refl _)⟩) fun D H2 _ s2 hD=>core ds rfl D H2 s2 hD))
  | tuple ds =>
   obtain ⟨a,vs,rfl,ha,hl,hds⟩:=hd1.itup
   have hlen:=hds.length
   refine YV rfl (Ub (Q7 (K:=g.K) (xs:=vs) ((ds.map isI).map V.bl) (fun R r=>by walk_at "rd";exact r a _ (.refl _) (SqT.of ha)) (by simp [hlen]) (by omega) (fun i x y H' hx hy sm R r=>by
    obtain ⟨e,he,hv⟩:=hds.at hx
    rw [List.map_map,List.getElem?_map,he] at hy
    cases hy
    walk_at "rd"
    exact ⟨x,e,rfl,hv.keep sm,r H' (.refl _)⟩) fun D H2 _ s2 hD=>core ds rfl D H2 s2 hD))
  | _=>exact Yv (by simp [Xl,YF]) (hq _ s1)
 rintro σ H1 ⟨rfl,s1,n1⟩
 refine Xo (fun σ H'=>σ=[some (.str mk),some (.int pl),some v,some w]∧Yf H H'∧¬ (mk="part"∨(mk="each"∧pl=0))) ?_ ?_
 rotate_left
 ·intro N hN
  walk_at "rd"
  have fin:(mk="part"∨(mk="each"∧pl=0))→2≤sizeLine∧∀ (p:Addr),H1 p=none→∃ x,upd H1 p (HO.tup [V.ty "list",V.ty "tuple"]) p=some (HO.tup (List.map V.ty x))∧∃ x_1,TyOf g.K (upd H1 p (HO.tup [V.ty "list",V.ty "tuple"])) w x_1∧∃ x_2,W.kitAny g.K x_1 (List.map Value.type x)=some x_2∧Q (V.bl x_2) (upd H1 p (HO.tup [V.ty "list",V.ty "tuple"])):=fun c=>⟨by decide,fun p hp=>⟨["list","tuple"],Yh,_,(hw.keep (s1.trans (.upd_new hp _))).ty,_,V2 x,by
   have:=q _ (s1.trans (.upd_new hp (HO.tup [V.ty "list",V.ty "tuple"])))
   rw [XB,if_neg n1,if_pos c] at this
   exact this⟩⟩
  refine YB (fun c=>fin (.inl c)) fun c=>YB (fun c'=>YB (fun c2=>fin (.inr ⟨c',by omega⟩)) fun c2=>hN _ _ ⟨rfl,s1,fun z=>z.elim c fun z=>c2 (by have:=z.2;omega)⟩) fun c'=>hN _ _ ⟨rfl,s1,fun z=>z.elim c fun z=>c' z.1⟩
 rintro σ H2 ⟨rfl,s2,n2⟩
 refine Xo (fun σ H'=>σ=[some (.str mk),some (.int pl),some v,some w]∧Yf H H'∧¬ (mk="count"∨mk="turned")) ?_ ?_
 rotate_left
 ·intro N hN
  walk_at "rd"
  refine ⟨by decide,fun p hp=>⟨_,.inr (SqT.of Yh),rfl,rfl,?_⟩⟩
  have u1:=s2.trans (Yf.upd_new hp (HO.tup [V.str (Str.ofString "count"),V.str (Str.ofString "turned")]))
  have ei:inV (.str mk) [V.str (Str.ofString "count"),V.str (Str.ofString "turned")]=decide (mk∈[Str.ofString "count",Str.ofString "turned"]):=Vo mk [Str.ofString "count",Str.ofString "turned"]
  rw [ei]
  refine YB (fun c=>⟨by decide,fun p1 hp1=>⟨["list","tuple","str"],Yh,?_⟩⟩) fun c=>hN _ _ ⟨rfl,u1,fun z=>c (by simpa using z)⟩
  have c:mk="count"∨mk="turned":=by simpa using c
  have u2:=u1.trans (Yf.upd_new hp1 (HO.tup [V.ty "list",V.ty "tuple",V.ty "str"]))
  have:=q _ u2
  rw [XB,if_neg n1,if_neg n2,if_pos c] at this
  exact ⟨_,(hw.keep u2).ty,_,YeT x,this⟩
 rintro σ H3 ⟨rfl,s3,n3⟩
 refine Xo (fun σ H'=>σ=[some (.str mk),some (.int pl),some v,some w]∧Yf H H'∧¬ (mk="plus"∨mk="times"∨mk="less")) ?_ ?_
 rotate_left
 ·intro N hN
  walk_at "rd"
  refine ⟨by decide,fun p hp=>⟨_,.inr (SqT.of Yh),rfl,rfl,?_⟩⟩
  have u1:=s3.trans (Yf.upd_new hp (HO.tup [V.str (Str.ofString "plus"),V.str (Str.ofString "times"),V.str (Str.ofString "less")]))
  have ei:inV (.str mk) [V.str (Str.ofString "plus"),V.str (Str.ofString "times"),V.str (Str.ofString "less")]=decide (mk∈[Str.ofString "plus",Str.ofString "times",Str.ofString "less"]):=Vo mk [Str.ofString "plus",Str.ofString "times",Str.ofString "less"]
  rw [ei]
  refine YB (fun c=>?_) fun c=>hN _ _ ⟨rfl,u1,fun z=>c (by simpa using z)⟩
  have c:mk="plus"∨mk="times"∨mk="less":=by simpa using c
  have:=q _ u1
  rw [XB,if_neg n1,if_neg n2,if_neg n3,if_pos c] at this
  exact ⟨w,x,rfl,hw.keep u1,this⟩
 rintro σ H4 ⟨rfl,s4,n4⟩
 refine Xo (fun σ H'=>σ=[some (.str mk),some (.int pl),some v,some w]∧Yf H H'∧¬ (mk="not"∨mk="both"∨mk="each"∨(mk="when"∧pl=0))) ?_ ?_
 rotate_left
 ·intro N hN
  walk_at "rd"
  refine ⟨by decide,fun p hp=>⟨_,.inr (SqT.of Yh),rfl,rfl,?_⟩⟩
  have u1:=s4.trans (Yf.upd_new hp (HO.tup [V.str (Str.ofString "not"),V.str (Str.ofString "both"),V.str (Str.ofString "each")]))
  have ei:inV (.str mk) [V.str (Str.ofString "not"),V.str (Str.ofString "both"),V.str (Str.ofString "each")]=decide (mk∈[Str.ofString "not",Str.ofString "both",Str.ofString "each"]):=Vo mk [Str.ofString "not",Str.ofString "both",Str.ofString "each"]
  rw [ei]
  generalize upd H4 p (HO.tup [V.str (Str.ofString "not"),V.str (Str.ofString "both"),V.str (Str.ofString "each")])=H5 at u1 ⊢
  have fin:(mk="not"∨mk="both"∨mk="each"∨(mk="when"∧pl=0))→∃ x,Vt (V.ty "bool")=some x∧∃ x_1,TyOf g.K H5 w x_1∧∃ x_2,W.kitOne g.K x_1 x=some x_2∧Q (V.bl x_2) H5:=fun c=>⟨_,rfl,_,(hw.keep u1).ty,_,Ycd x,by
   have:=q _ u1
   rw [XB,if_neg n1,if_neg n2,if_neg n3,if_neg n4,if_pos c] at this
   exact this⟩
  refine YB (fun c=>fin ?_) fun c=>YB (fun c2=>YB (fun c3=>fin (.inr (.inr (.inr ⟨c2,by omega⟩)))) fun c3=>hN _ _ ⟨rfl,u1,fun z=>?_⟩) fun c2=>hN _ _ ⟨rfl,u1,fun z=>?_⟩
  ·have c:mk="not"∨mk="both"∨mk="each":=by simpa using c
   rcases c with c | c | c
   ·exact .inl c
   ·exact .inr (.inl c)
   ·exact .inr (.inr (.inl c))
  ·have c:¬ (mk="not"∨mk="both"∨mk="each"):=by simpa using c
   rcases z with z | z | z | z
   ·exact c (.inl z)
   ·exact c (.inr (.inl z))
   ·exact c (.inr (.inr z))
   ·exact c3 (by have:=z.2;omega)
  ·have c:¬ (mk="not"∨mk="both"∨mk="each"):=by simpa using c
   rcases z with z | z | z | z
   ·exact c (.inl z)
   ·exact c (.inr (.inl z))
   ·exact c (.inr (.inr z))
   ·exact c2 z.1
 rintro σ H5 ⟨rfl,s5,n5⟩
 refine Xo (fun σ H'=>σ=[some (.str mk),some (.int pl),some v,some w]∧Yf H H'∧¬ (mk="joined"∧pl=0)) ?_ ?_
 rotate_left
 ·intro N hN
  walk_at "rd"
  refine YB (fun c=>YB (fun c2=>⟨by decide,fun p1 hp1=>⟨["list","str"],Yh,?_⟩⟩) fun c2=>hN _ _ ⟨rfl,s5,fun z=>c2 (by have:=z.2;omega)⟩) fun c=>hN _ _ ⟨rfl,s5,fun z=>c z.1⟩
  have u2:=s5.trans (Yf.upd_new hp1 (HO.tup [V.ty "list",V.ty "str"]))
  have:=q _ u2
  rw [XB,if_neg n1,if_neg n2,if_neg n3,if_neg n4,if_neg n5,if_pos ⟨c,by omega⟩] at this
  exact ⟨_,(hw.keep u2).ty,_,Yfo x,this⟩
 rintro σ H6 ⟨rfl,s6,n6⟩
 have q6:=q _ s6
 rw [XB,if_neg n1,if_neg n2,if_neg n3,if_neg n4,if_neg n5,if_neg n6] at q6
 have hv6:=hv.keep s6
 have hw6:=hw.keep s6
 walk_at "rd"
 refine YB (fun c=>⟨_,rfl,_,hw6.ty,_,QQ x,_,rfl,_,hv6.ty,_,QQ o,Uf _ _,?_⟩) fun c=>?_
 ·rw [if_pos c] at q6
  refine YB (fun c2=>⟨_,rfl,_,hw6.ty,_,Yec x,_,rfl,_,hv6.ty,_,Yec o,Uf _ _,?_⟩) fun c2=>?_
  ·rw [decide_eq_true c2,Bool.true_and] at q6
   exact q6
  ·rw [decide_eq_false c2,Bool.false_and] at q6
   exact q6
 ·rw [if_neg c] at q6
  exact q6
def RA (H:Hp) (r:V):Say→Prop
 | .ok e=>∃ a v,r = .ref a∧H a=some (.tup [.str "said",v])∧DV H v e
 | .error mk=>∃ a,r = .ref a∧H a=some (.tup [.str "astray",.str mk])
theorem RA.keep {H H':Hp} (s:Yf H H') {r:V} {x:Say} (h:RA H r x):RA H' r x:=by
 cases x with
 | ok e=>obtain ⟨a,v,h1,h2,h3⟩:=h;exact ⟨a,v,h1,s _ _ h2,h3.keep s⟩
 | error mk=>obtain ⟨a,h1,h2⟩:=h;exact ⟨a,h1,s _ _ h2⟩
def UZ (P:Addr) (m:Nat):Sp:=fun vs H Q _=>∃ v th t d,vs=[v,th]∧Ask P H m t v d th∧∀ r H',Yf H H'→RA H' r (tell t d)→Q r H'
theorem Yfp {P:Addr} {vs:List V} {H:Hp} {Q:VK} {E:XK} (h:UZ P 0 vs H Q E):False:=by
 obtain ⟨_,_,_,_,_,h,_⟩:=h
 exact absurd h.dep (by omega)
theorem Ask.same {P:Addr} {H H':Hp} {m:Nat} {t:Tm} {v th:V} {d:PyData} (h:Ask P H m t v d th) (s:Yf H H'):Ask P H' m t v d th:=h.keep (Y5 s) (h.tb.keep s)
def Z1q (P:Addr) (m:Nat):Sp:=fun vs H Q _=>∃ (mk:Str) (pl:Nat) (v th w:V) (t:Tm) (d o:PyData),vs=[.str mk,.int pl,v,th,w]∧Ask P H m t v d th∧DV H w o∧∀ r H',Yf H H'→RA H' r (tk mk (tell t d) (XB mk pl o))→Q r H'
theorem Y7 {H H0:Hp} {Q:VK} {e:PyData} {v:V} (q:∀ r H',Yf H H'→RA H' r (.ok e)→Q r H') (s:Yf H H0) (hv:DV H0 v e):2≤sizeLine∧∀ p,H0 p=none→Q (.ref p) (upd H0 p (.tup [.str (Str.ofString "said"),v])) :=
 ⟨by decide,fun p hp=>q _ _ (s.trans (.upd_new hp _)) ⟨p,v,rfl,Yh,hv.keep (.upd_new hp _)⟩⟩
theorem Uz {H H0:Hp} {Q:VK} {mk:Str} (q:∀ r H',Yf H H'→RA H' r (.error mk)→Q r H') (s:Yf H H0):2≤sizeLine∧∀ p,H0 p=none→Q (.ref p) (upd H0 p (.tup [.str (Str.ofString "astray"),.str mk])) :=
 ⟨by decide,fun p hp=>q _ _ (s.trans (.upd_new hp _)) ⟨p,rfl,Yh⟩⟩
theorem XD (a b:Str):Um (.str a) (.str b)=true:=rfl
theorem ZI {k:Nat} {Z0 Z1:Addr} {c_part_told P_part_told:Addr} (R:g.Raw "_law_asked" "_law_asked" Z1d ["_law_mark","_law_place","_law_term_here","_law_thing_here","_law_one"]) (F_law_can:g.Fn k "_law_can" ["_law_mark","_law_place","_law_one","_law_other"] (Ydh)) (Z21:g.Fn k "_law_due" ["_law_term_here","_law_thing_here"] (UZ P_part_told m)):g.Fn (k+1) "_law_asked" ["_law_mark","_law_place","_law_term_here","_law_thing_here","_law_one"] (Z1q P_part_told m):=by
 refine R.fn Z1T (fun vs H Q E h=>by obtain ⟨mk,pl,v,th,w,t,d,o,rfl,hA,hw,q⟩:=h;rfl) fun f_ cdv A outer s H vs Q E hr h=>?_
 obtain ⟨mk,pl,v,th,w,t,d,o,rfl,hA,hw,q⟩:=h
 refine ⟨_,(@Yd _ _ _ _ _ (@YJ _ _ (5) _ _ _ _ Z1T.nd rfl (.inl rfl) (@Yt _ _ _ _ _ _ _ _ _ _ _ _ Z21 hr (@Ya _ _ _ _ _ (pv 2) (@Ya _ _ _ _ _ (pv 3) Yb (by rfl)) (by rfl)) (by omega) (by rfl) (by rfl) (by decide) (by rfl) (by rfl)) (by rfl) (by first | exact .inl rfl | exact .inr rfl | assumption)) (@Yd _ _ _ _ _ (@Yo _ _ _ _ _ _ _ _ (@Wf _ _ _ _ _ _ _ (@Yk _ _ _ _ _ _ _ _ Yq (@Yy _ _ _ _ _ _ _ Yw (pv 5) Yc (fun _ _=>rfl)) Yi (Yl _)) (@XV _ _ _ _ (@X0 _ _ _ _ (@Y1 _ _ _ (@Yt _ _ _ _ _ _ _ _ _ _ _ _ F_law_can hr (@Ya _ _ _ _ _ (pv 0) (@Ya _ _ _ _ _ (pv 1) (@Ya _ _ _ _ _ (pv 4) (@Ya _ _ _ _ _ (@Yy _ _ _ _ _ _ _ Yw (pv 5) Yc (fun _ _=>rfl)) Yb (by rfl)) (by rfl)) (by rfl)) (by rfl)) (by omega) (by rfl) (by rfl) (by decide) (by rfl) (by rfl)) (by intro _;rfl))))).pt (@Ye _ _ _ (@Yg _ _ _ _ (@Yp _ _ _ _ _ (@Ya _ _ _ _ _ Yi (@Ya _ _ _ _ _ (pv 0) Yb (by rfl)) (by rfl))))) Yj) (@Ye _ _ _ (@Yg _ _ _ _ (pv 5))))),?_⟩
 walk_at "rd"
 refine ⟨v,th,t,d,rfl,hA,fun r H1 s1 hr=>?_⟩
 cases e:tell t d with
 | error mk' =>
  rw [e] at hr q
  obtain ⟨a,rfl,ha⟩:=hr
  exact ⟨a,rfl,_,SqT.of ha,_,rfl,XD _ _,Yv (by intro z;cases z) (q _ _ s1 ⟨a,rfl,ha⟩)⟩
 | ok x =>
  rw [e] at hr q
  obtain ⟨a,u,rfl,ha,hu⟩:=hr
  refine ⟨a,rfl,_,SqT.of ha,_,rfl,XD _ _,YV rfl ⟨a,rfl,_,SqT.of ha,_,rfl,mk,pl,w,u,o,x,rfl,hw.keep s1,hu,fun H2 s2=>⟨_,rfl,?_⟩⟩⟩
  simp only [tk] at q
  cases c:XB mk pl o x with
  | true =>
   rw [c,if_pos rfl] at q
   exact Yv (by decide) (q _ _ (s1.trans s2) ⟨a,u,rfl,s2 _ _ ha,hu.keep s2⟩)
  | false =>
   rw [c,if_neg (by decide)] at q
   exact YV rfl (Uz q (s1.trans s2))
def One (H:Hp) (mk:Str) (b:V) (x:PyData) (s:Say):Prop :=
 (mk="not"∧∃ c,x = .bool c∧s = .ok (.bool !c))∨(mk="count"∧∃ n:Nat,Wr x=some n∧s = .ok (.int n))∨(mk="turned"∧∃ y,VY x=some y∧s = .ok y)∨(mk="sum"∧∃ n,(YF x).bind Xb=some n∧s = .ok (.int n)) ∨
 (mk="part"∧∃ (p:Addr) (u:V) (k:Int),b = .ref p∧H p=some (.tup [u,.int k])∧0≤k∧Xl x=true∧s=take "part" (.ok x) (Xt k))
def Ydi:Sp:=fun vs H Q _=>∃ (mk:Str) (b w:V) (x:PyData) (s:Say),vs=[.str mk,b,w]∧DV H w x∧Pk 7 x∧One H mk b x s∧∀ r H',Yf H H'→RA H' r s→Q r H'
theorem Z2j {Z0 Z1:Addr} {c_part_told P_part_told:Addr} (R:g.Raw "_law_due_of_one" "_law_due_of_one" Z0y ["_law_mark","_law_body","_law_found"]) (b_len:g.mg "len"=none) (b_sum:g.mg "sum"=none):g.Fn (1) "_law_due_of_one" ["_law_mark","_law_body","_law_found"] (Ydi):=by
 refine R.fn Z2e (fun vs H Q E h=>by obtain ⟨mk,b,w,x,s,rfl,hw,hpk,hO,q⟩:=h;rfl) fun f_ cdv A outer s H vs Q E hr h=>?_
 obtain ⟨mk,b,w,x,s,rfl,hw,hpk,hO,q⟩:=h
 refine ⟨_,(@Yd _ _ _ _ _ (@Yo _ _ _ _ _ _ _ _ (@Yk _ _ _ _ _ _ _ _ Yq (pv 0) Yi (Yl _)) (@Ye _ _ _ (@Yg _ _ _ _ (@Yp _ _ _ _ _ (@Ya _ _ _ _ _ Yi (@Ya _ _ _ _ _ (@UA _ _ _ _ (pv 2)) Yb (by rfl)) (by rfl))))) Yj) (@Yd _ _ _ _ _ (@Yo _ _ _ _ _ _ _ _ (@Yk _ _ _ _ _ _ _ _ Yq (pv 0) Yi (Yl _)) (@Ye _ _ _ (@Yg _ _ _ _ (@Yp _ _ _ _ _ (@Ya _ _ _ _ _ Yi (@Ya _ _ _ _ _ (@Yz _ _ _ _ _ _ _ _ _ _ b_len (Vv Xe VP) (@Ya _ _ _ _ _ (pv 2) Yb (by rfl)) (by decide +kernel) (by rfl) (by rfl) (by decide) (by decide) (by rfl) (by rfl)) Yb (by rfl)) (by rfl))))) Yj) (@Yd _ _ _ _ _ (@Yo _ _ _ _ _ _ _ _ (@Yk _ _ _ _ _ _ _ _ Yq (pv 0) Yi (Yl _)) (@Ye _ _ _ (@Yg _ _ _ _ (@Yp _ _ _ _ _ (@Ya _ _ _ _ _ Yi (@Ya _ _ _ _ _ (@Ybo _ _ _ _ _ _ _ (g.K) (pv 2) (@Yd5 _ _ _ _ _ _ Ycr Yc) (by rfl)) Yb (by rfl)) (by rfl))))) Yj) (@Yd _ _ _ _ _ (@Yo _ _ _ _ _ _ _ _ (@Yk _ _ _ _ _ _ _ _ Yq (pv 0) Yi (Yl _)) (@Ye _ _ _ (@Yg _ _ _ _ (@Yp _ _ _ _ _ (@Ya _ _ _ _ _ Yi (@Ya _ _ _ _ _ (@Yz _ _ _ _ _ _ _ _ _ _ b_sum (Vv VF VX) (@Ya _ _ _ _ _ (pv 2) Yb (by rfl)) (by decide +kernel) (by rfl) (by rfl) (by decide) (by decide) (by rfl) (by rfl)) Yb (by rfl)) (by rfl))))) Yj) (@Yd _ _ _ _ _ (@Yo _ _ _ _ _ _ _ _ (@Yk _ _ _ _ _ _ _ _ op_ge (@Yy _ _ _ _ _ _ _ Yw (pv 1) Yc (fun _ _=>rfl)) (@Yz _ _ _ _ _ _ _ _ _ _ b_len Xe (@Ya _ _ _ _ _ (pv 2) Yb (by rfl)) (by decide +kernel) (by rfl) (by rfl) (by decide) (by decide) (by rfl) (by rfl)) (Yl _)) (@Ye _ _ _ (@Yg _ _ _ _ (@Yp _ _ _ _ _ (@Ya _ _ _ _ _ Yi (@Ya _ _ _ _ _ (pv 0) Yb (by rfl)) (by rfl))))) Yj) (@Ye _ _ _ (@Yg _ _ _ _ (@Yp _ _ _ _ _ (@Ya _ _ _ _ _ Yi (@Ya _ _ _ _ _ (@VW _ _ _ _ (@Yy _ _ _ _ _ _ _ V6 (pv 2) (@Yy _ _ _ _ _ _ _ Yw (pv 1) Yc (fun _ _=>rfl)) (fun _ _=>rfl)) (@Yy _ _ _ _ _ _ _ Yw (pv 2) (@Yy _ _ _ _ _ _ _ Yw (pv 1) Yc (fun _ _=>rfl)) (fun _ _=>rfl))) Yb (by rfl)) (by rfl)))))))))),?_⟩
 have sl:∀ z,x = .str z→z.length≤sizeLine:=fun z e=>by
  subst e
  have:z.length≤64*2^7:=hpk
  exact few (by omega)
 rcases hO with ⟨rfl,c,rfl,rfl⟩ | ⟨rfl,n,hn,rfl⟩ | ⟨rfl,y,hy,rfl⟩ | ⟨rfl,n,hn,rfl⟩ | ⟨rfl,p,u,k,rfl,hp,hk,hx,rfl⟩
 ·walk_at "rd"
  exact ⟨c,hw.ibl,Y7 q (.refl _) ⟨[],.bl _⟩⟩
 ·walk_at "rd"
  repeat refine Yv (by decide) ?_
  cases x with
  | list ds =>
   obtain ⟨a,vs,rfl,ha,hl,hds⟩:=hw.ilst
   cases hn
   exact .inl ⟨a,rfl,vs,.inl (SqL.of ha),by rw [hds.length];exact Y7 q (.refl _) ⟨[],.int _⟩⟩
  | tuple ds =>
   obtain ⟨a,vs,rfl,ha,hl,hds⟩:=hw.itup
   cases hn
   exact .inl ⟨a,rfl,vs,.inr (SqT.of ha),by rw [hds.length];exact Y7 q (.refl _) ⟨[],.int _⟩⟩
  | str z =>
   obtain ⟨rfl,_⟩:=hw.istr
   cases hn
   exact .inr ⟨z,rfl,sl z rfl,Y7 q (.refl _) ⟨[],.int _⟩⟩
  | _=>cases hn
 ·unfold Yb2
  walk_at "rd"
  repeat refine Yv (by decide) ?_
  cases x with
  | list ds =>
   obtain ⟨a,vs,rfl,ha,hl,hds⟩:=hw.ilst
   cases hy
   refine .inl ⟨a,rfl,vs,SqL.of ha,fun p hp=>?_⟩
   have s1:=Yf.upd_new hp (HO.lst vs.reverse)
   exact Y7 q s1 (.lst Yh (by rw [List.length_reverse];exact hl) (hds.reverse.keep s1))
  | tuple ds =>
   obtain ⟨a,vs,rfl,ha,hl,hds⟩:=hw.itup
   cases hy
   refine .inr (.inl ⟨a,rfl,vs,SqT.of ha,fun p hp=>?_⟩)
   have s1:=Yf.upd_new hp (HO.tup vs.reverse)
   exact Y7 q s1 (.tup Yh (by rw [List.length_reverse];exact hl) (hds.reverse.keep s1))
  | str z =>
   obtain ⟨rfl,o⟩:=hw.istr
   cases hy
   exact .inr (.inr ⟨z,rfl,sl z rfl,Y7 q (.refl _) ⟨[],.str _ (Qs o)⟩⟩)
  | _=>cases hy
 ·walk_at "rd"
  repeat refine Yv (by decide) ?_
  cases x with
  | list ds =>
   obtain ⟨a,vs,rfl,ha,hl,hds⟩:=hw.ilst
   obtain ⟨ns,rfl,rfl⟩:=Vn hds hn
   exact .inl ⟨a,rfl,ns,SqL.of ha,Y7 q (.refl _) ⟨[],.int _⟩⟩
  | tuple ds =>
   obtain ⟨a,vs,rfl,ha,hl,hds⟩:=hw.itup
   obtain ⟨ns,rfl,rfl⟩:=Vn hds hn
   exact .inr ⟨a,rfl,ns,SqT.of ha,Y7 q (.refl _) ⟨[],.int _⟩⟩
  | _=>cases hn
 ·walk_at "rd"
  repeat refine Yv (by decide) ?_
  refine ⟨_,SqT.of hp,_,rfl,?_⟩
  have go:∀ (ds:List PyData) (vs:List V),YF x=some ds→DVs H vs ds→¬ ((vs.length:Int)≤k)→∃ (n:Nat) (u':V) (y:PyData),k=n∧vs[n]?=some u'∧DV H u' y∧take "part" (.ok x) (Xt k) = .ok y:=fun ds vs e hds c=>by
   have hl:=hds.length
   have hlt:k.toNat<ds.length:=by omega
   have h1:(if 0≤k then ds[k.toNat]? else none)=some ds[k.toNat]:=by rw [if_pos hk,List.getElem?_eq_getElem hlt]
   obtain ⟨n,e1,u',e2,e3⟩:=Qf hds h1
   refine ⟨n,u',_,e1,e2,e3,?_⟩
   have e4:Xt k x=some ds[k.toNat]:=by show (YF x).bind _=_;rw [e];exact h1
   exact Yx e4
  have no:∀ (ds:List PyData) (vs:List V),YF x=some ds→DVs H vs ds→((vs.length:Int)≤k)→take "part" (.ok x) (Xt k) = .error "part":=fun ds vs e hds c=>by
   have hl:=hds.length
   have e4:Xt k x=none:=by
    show (YF x).bind _=_
    rw [e]
    show (if 0≤k then ds[k.toNat]? else none)=none
    rw [if_pos hk,List.getElem?_eq_none (by omega)]
   exact YI e4
  cases x with
  | list ds =>
   obtain ⟨a,vs,rfl,ha,hl,hds⟩:=hw.ilst
   refine ⟨a,rfl,vs,.inl (SqL.of ha),k,rfl,YB (fun c=>?_) fun c=>?_⟩
   ·rw [no ds vs rfl hds c] at q
    exact Uz q (.refl _)
   ·obtain ⟨n,u',y,rfl,h1,h2,h3⟩:=go ds vs rfl hds c
    rw [h3] at q
    refine .inl ?_
    walk_at "rd"
    exact ⟨_,SqT.of hp,_,rfl,_,_,rfl,SqL.of ha,_,Vc h1,Y7 q (.refl _) h2⟩
  | tuple ds =>
   obtain ⟨a,vs,rfl,ha,hl,hds⟩:=hw.itup
   refine ⟨a,rfl,vs,.inr (SqT.of ha),k,rfl,YB (fun c=>?_) fun c=>?_⟩
   ·rw [no ds vs rfl hds c] at q
    exact Uz q (.refl _)
   ·obtain ⟨n,u',y,rfl,h1,h2,h3⟩:=go ds vs rfl hds c
    rw [h3] at q
    refine .inr ?_
    walk_at "rd"
    exact ⟨_,SqT.of hp,_,rfl,_,_,rfl,SqT.of ha,_,Vc h1,Y7 q (.refl _) h2⟩
  | _=>cases hx
def Two (mk:Str) (x y:PyData) (s:Say):Prop :=
 (mk="times"∧∃ i j,x = .int i∧y = .int j∧IB 7 i∧IB 7 j∧s = .ok (.int (i*j)))∨(mk="less"∧∃ i j,x = .int i∧y = .int j∧s = .ok (.bool (decide (i<j))))∨(mk="same"∧s = .ok (.bool (sm x y)))∨(mk="plus"∧∃ i j,x = .int i∧y = .int j∧s = .ok (.int (i+j))) ∨
 (mk="joined"∧((∃ xs ys,x = .list xs∧y = .list ys∧xs.length+ys.length≤10000∧s = .ok (.list (xs++ys)))∨∃ a b,x = .str a∧y = .str b∧a.length+b.length≤10000∧s = .ok (.str (a++b))))
def YaH (K:PySem.W.Frag):Sp:=fun vs H Q _=>∃ (mk:Str) (v w:V) (x y:PyData) (s:Say),vs=[.str mk,v,w]∧DV H v x∧DV H w y∧x.depth≤4∧Two mk x y s∧∀ r H',Yf H H'→RA H' r s→Q r H'
theorem Z2k {k:Nat} {Z0 Z1:Addr} {c_part_told P_part_told:Addr} (R:g.Raw "_law_due_of_two" "_law_due_of_two" Z0z ["_law_mark","_law_one","_law_other"]) (Z0u:g.Fn k "_law_alike" ["_law_one","_law_other"] (Z10 5)):g.Fn (k+1) "_law_due_of_two" ["_law_mark","_law_one","_law_other"] (YaH g.K):=by
 refine R.fn Z2f (fun vs H Q E h=>by obtain ⟨mk,v,w,x,y,s,rfl,hv,hw,hd,hO,q⟩:=h;rfl) fun f_ cdv A outer s H vs Q E hr h=>?_
 obtain ⟨mk,v,w,x,y,s,rfl,hv,hw,hd,hO,q⟩:=h
 refine ⟨_,(@Yd _ _ _ _ _ (@Yo _ _ _ _ _ _ _ _ (@Yk _ _ _ _ _ _ _ _ Yq (pv 0) Yi (Yl _)) (@Ye _ _ _ (@Yg _ _ _ _ (@Yp _ _ _ _ _ (@Ya _ _ _ _ _ Yi (@Ya _ _ _ _ _ (@Ys _ _ _ _ _ _ _ _ U5 (pv 1) (pv 2)) Yb (by rfl)) (by rfl))))) Yj) (@Yd _ _ _ _ _ (@Yo _ _ _ _ _ _ _ _ (@Yk _ _ _ _ _ _ _ _ Yq (pv 0) Yi (Yl _)) (@Ye _ _ _ (@Yg _ _ _ _ (@Yp _ _ _ _ _ (@Ya _ _ _ _ _ Yi (@Ya _ _ _ _ _ (@Xs _ _ _ _ _ _ _ _ QE (pv 1) (pv 2) (Yl _)) Yb (by rfl)) (by rfl))))) Yj) (@Yd _ _ _ _ _ (@Yo _ _ _ _ _ _ _ _ (@Yk _ _ _ _ _ _ _ _ Yq (pv 0) Yi (Yl _)) (@Ye _ _ _ (@Yg _ _ _ _ (@Yp _ _ _ _ _ (@Ya _ _ _ _ _ Yi (@Ya _ _ _ _ _ (@Yt _ _ _ _ _ _ _ _ _ _ _ _ Z0u hr (@Ya _ _ _ _ _ (pv 1) (@Ya _ _ _ _ _ (pv 2) Yb (by rfl)) (by rfl)) (by omega) (by rfl) (by rfl) (by decide) (by rfl) (by rfl)) Yb (by rfl)) (by rfl))))) Yj) (@Ye _ _ _ (@Yg _ _ _ _ (@Yp _ _ _ _ _ (@Ya _ _ _ _ _ Yi (@Ya _ _ _ _ _ (@Ys _ _ _ _ _ _ _ _ (Yag VJ (Yag YcD UC)) (pv 1) (pv 2)) Yb (by rfl)) (by rfl)))))))),?_⟩
 rcases hO with ⟨rfl,i,j,rfl,rfl,hi,hj,rfl⟩ | ⟨rfl,i,j,rfl,rfl,rfl⟩ | ⟨rfl,rfl⟩ | ⟨rfl,i,j,rfl,rfl,rfl⟩ | ⟨rfl,hJ⟩
 ·cases hv.iint
  cases hw.iint
  walk_at "rd"
  exact ⟨Yeb hi hj,Y7 q (.refl _) ⟨[],.int _⟩⟩
 ·cases hv.iint
  cases hw.iint
  walk_at "rd"
  exact Yv (by decide) (Y7 q (.refl _) ⟨[],.bl _⟩)
 ·walk_at "rd"
  exact Yv (by decide) (Yv (by decide) ⟨v,w,x,y,rfl,hv,hw,by omega,by omega,fun H1 s1=>Y7 q s1 ⟨[],.bl _⟩⟩)
 ·cases hv.iint
  cases hw.iint
  walk_at "rd"
  exact Yv (by decide) (Yv (by decide) (Yv (by decide) (.inl (Y7 q (.refl _) ⟨[],.int _⟩))))
 ·walk_at "rd"
  refine Yv (by decide) (Yv (by decide) (Yv (by decide) (.inr ?_)))
  rcases hJ with ⟨xs,ys,rfl,rfl,hl,rfl⟩ | ⟨a,b,rfl,rfl,hl,rfl⟩
  ·obtain ⟨a1,us,rfl,h1,l1,d1⟩:=hv.ilst
   obtain ⟨a2,ws,rfl,h2,l2,d2⟩:=hw.ilst
   have e1:=d1.length
   have e2:=d2.length
   refine .inl ⟨a1,rfl,a2,rfl,us,h1,ws,h2,few (by omega),fun p hp=>?_⟩
   have s1:=Yf.upd_new hp (HO.lst (us++ws))
   exact Y7 q s1 (.lst Yh (by rw [List.length_append];omega) ((d1.append d2).keep s1))
  ·obtain ⟨rfl,o1⟩:=hv.istr
   obtain ⟨rfl,o2⟩:=hw.istr
   exact .inr ⟨a,rfl,b,rfl,few (by omega),Y7 q (.refl _) ⟨[],.str _ (Qr o1 o2)⟩⟩
def Qv (P:Addr) (m:Nat):Sp:=fun vs H Q _=>∃ (v w:V) (b:Tm) (x:PyData) (ds:List PyData),vs=[v,w]∧DV H w x∧YF x=some ds∧Tb P H∧(∀ y∈ds,∀ H' u,Yf H H'→DV H' u y→Ask P H' m b v y u)∧∀ r H',Yf H H'→RA H' r (YW "each" (fun x=>tell b x) ds)→Q r H'
theorem Zs {k:Nat} {Z0 Z1:Addr} {c_part_told P_part_told:Addr} (R:g.Raw "_law_due_each" "_law_due_each" Z0O ["_law_body","_law_rows"]) (Z0v:g.Fn k "_law_asked" ["_law_mark","_law_place","_law_term_here","_law_thing_here","_law_one"] (Z1q P_part_told m)):g.Fn (k+1) "_law_due_each" ["_law_body","_law_rows"] (Qv P_part_told m):=by
 refine R.fn Z0D (fun vs H Q E h=>by obtain ⟨v,w,b,x,ds,rfl,hw,hx,htb,hA,q⟩:=h;rfl) fun f_ cdv A outer s H vs Q E hr h=>?_
 obtain ⟨v,w,b,x,ds,rfl,hw,hx,htb,hA,q⟩:=h
 refine ⟨_,(@Yd _ _ _ _ _ (@Va _ _ _ _ _ _ _ _ PassesOwn.never rfl (@WD _ _ _ _ _ (@XG _ _ _ _ (pv 1)) (@WJ _ _ _ _ (pv 1))) (@YZ _ _ (2) _ Z0D.nd rfl (.inl rfl) (by first | exact .inl rfl | exact .inr rfl | assumption)) (@Yd _ _ _ _ _ (@YJ _ _ (3) _ _ _ _ Z0D.nd rfl (.inl rfl) (@Yt _ _ _ _ _ _ _ _ _ _ _ _ Z0v hr (@Ya _ _ _ _ _ Yi (@Ya _ _ _ _ _ Yc (@Ya _ _ _ _ _ (pv 0) (@Ya _ _ _ _ _ (pv 2) (@Ya _ _ _ _ _ XZ Yb (by rfl)) (by rfl)) (by rfl)) (by rfl)) (by rfl)) (by omega) (by rfl) (by rfl) (by decide) (by rfl) (by rfl)) (by rfl) (by first | exact .inl rfl | exact .inr rfl | assumption)) (@Ye _ _ _ (@Yo _ _ _ _ _ _ _ _ (@XW _ _ _ _ _ _ _ (@Yk _ _ _ _ _ _ _ _ Yq (@Yy _ _ _ _ _ _ _ Yw (pv 3) Yc (fun _ _=>rfl)) Yi (Yl _)) (@XI _ _ _ _ (@X0 _ _ _ _ (@Y1 _ _ _ (@Yy _ _ _ _ _ _ _ Yw (pv 3) Yc (fun _ _=>rfl)) (by intro _;rfl))))).pt (@Ye _ _ _ (@Yg _ _ _ _ (pv 3))) Yj))) (by intro _;rfl)) (@Ye _ _ _ (@Yg _ _ _ _ (@Yp _ _ _ _ _ (@Ya _ _ _ _ _ Yi (@Ya _ _ _ _ _ We Yb (by rfl)) (by rfl)))))),?_⟩
 walk_at "rd"
 cases x with
 | list es =>
  cases hx
  obtain ⟨a,vs,rfl,ha,hl,hds⟩:=hw.ilst
  refine WN (VS (a:=a) (xs:=vs) (fun i σ H'=>Yf H H'∧(∃ o1 o2,σ=[some v,some (.ref a),o1,o2])∧YW "each" (fun x=>tell b x) (ds.drop i)=YW "each" (fun x=>tell b x) ds) (fun R hR=>⟨_,rfl,hR⟩) ⟨.refl _,⟨none,none,rfl⟩,rfl⟩ (fun i σ H' _ z=>SqL.of (z.1 _ _ ha)) (fun i x σ H' hx z=>?_) fun σ H' z=>?_)
  ·obtain ⟨s1,⟨o1,o2,rfl⟩,he⟩:=z
   obtain ⟨y,hy,hv⟩:=hds.at hx
   obtain ⟨hi,ei⟩:=List.getElem?_eq_some_iff.mp hy
   have ed:ds.drop i=y::ds.drop (i+1):=by rw [← ei];exact List.drop_eq_getElem_cons hi
   rw [ed] at he
   walk_at "rd"
   refine ⟨Str.ofString "each",1,v,x,.non,b,y,.none,rfl,hA y (List.mem_of_getElem? hy) H' x s1 (hv.keep s1),⟨[],.non⟩,fun r H2 s2 hr=>?_⟩
   cases e:tell b y with
   | error mk =>
    rw [e] at hr
    obtain ⟨a',rfl,ha'⟩:=hr
    have hq:=q (.ref a') H2 (s1.trans s2)
    rw [← he] at hq
    simp only [YW,e] at hq
    exact ⟨a',rfl,_,SqT.of ha',_,rfl,XD _ _,YV rfl (hq ⟨a',rfl,ha'⟩)⟩
   | ok z =>
    rw [e] at hr
    have ec:XB (Str.ofString "each") 1 .none z=isB z:=rfl
    simp only [tk,ec] at hr
    cases c:isB z with
    | false =>
     rw [c,if_neg (by decide)] at hr
     obtain ⟨a',rfl,ha'⟩:=hr
     have hq:=q (.ref a') H2 (s1.trans s2)
     rw [← he] at hq
     simp only [YW,e,YI (Xh c)] at hq
     exact ⟨a',rfl,_,SqT.of ha',_,rfl,XD _ _,YV rfl (hq ⟨a',rfl,ha'⟩)⟩
    | true =>
     rw [c,if_pos rfl] at hr
     obtain ⟨a',u,rfl,ha',hu⟩:=hr
     obtain ⟨bb,rfl⟩:=Xp c
     cases hu.ibl
     simp only [YW,e,Yx (show Y4 (.bool bb)=some bb from rfl)] at he
     refine ⟨a',rfl,_,SqT.of ha',_,rfl,XD _ _,Yv (by intro z;cases z) ⟨a',rfl,_,SqT.of ha',_,rfl,bb,rfl,?_⟩⟩
     cases bb with
     | true=>exact Yv (by decide) ⟨s1.trans s2,he⟩
     | false =>
      have hq:=q (.ref a') H2 (s1.trans s2)
      rw [← he] at hq
      exact YV rfl (hq ⟨a',.bl false,rfl,ha',hu⟩)
  ·obtain ⟨s1,⟨o1,o2,rfl⟩,he⟩:=z
   rw [hds.length,List.drop_length] at he
   rw [← he] at q
   exact Y7 q s1 ⟨[],.bl _⟩
 | tuple es =>
  cases hx
  obtain ⟨a,vs,rfl,ha,hl,hds⟩:=hw.itup
  refine Us (Q9 (a:=a) (xs:=vs) (fun i σ H'=>Yf H H'∧(∃ o1 o2,σ=[some v,some (.ref a),o1,o2])∧YW "each" (fun x=>tell b x) (ds.drop i)=YW "each" (fun x=>tell b x) ds) (fun R hR=>⟨_,rfl,hR⟩) ⟨.refl _,⟨none,none,rfl⟩,rfl⟩ (fun i σ H' _ z=>SqT.of (z.1 _ _ ha)) (fun i x σ H' hx z=>?_) fun σ H' z=>?_)
  ·obtain ⟨s1,⟨o1,o2,rfl⟩,he⟩:=z
   obtain ⟨y,hy,hv⟩:=hds.at hx
   obtain ⟨hi,ei⟩:=List.getElem?_eq_some_iff.mp hy
   have ed:ds.drop i=y::ds.drop (i+1):=by rw [← ei];exact List.drop_eq_getElem_cons hi
   rw [ed] at he
   walk_at "rd"
   refine ⟨Str.ofString "each",1,v,x,.non,b,y,.none,rfl,hA y (List.mem_of_getElem? hy) H' x s1 (hv.keep s1),⟨[],.non⟩,fun r H2 s2 hr=>?_⟩
   cases e:tell b y with
   | error mk =>
    rw [e] at hr
    obtain ⟨a',rfl,ha'⟩:=hr
    have hq:=q (.ref a') H2 (s1.trans s2)
    rw [← he] at hq
    simp only [YW,e] at hq
    exact ⟨a',rfl,_,SqT.of ha',_,rfl,XD _ _,YV rfl (hq ⟨a',rfl,ha'⟩)⟩
   | ok z =>
    rw [e] at hr
    have ec:XB (Str.ofString "each") 1 .none z=isB z:=rfl
    simp only [tk,ec] at hr
    cases c:isB z with
    | false =>
     rw [c,if_neg (by decide)] at hr
     obtain ⟨a',rfl,ha'⟩:=hr
     have hq:=q (.ref a') H2 (s1.trans s2)
     rw [← he] at hq
     simp only [YW,e,YI (Xh c)] at hq
     exact ⟨a',rfl,_,SqT.of ha',_,rfl,XD _ _,YV rfl (hq ⟨a',rfl,ha'⟩)⟩
    | true =>
     rw [c,if_pos rfl] at hr
     obtain ⟨a',u,rfl,ha',hu⟩:=hr
     obtain ⟨bb,rfl⟩:=Xp c
     cases hu.ibl
     simp only [YW,e,Yx (show Y4 (.bool bb)=some bb from rfl)] at he
     refine ⟨a',rfl,_,SqT.of ha',_,rfl,XD _ _,Yv (by intro z;cases z) ⟨a',rfl,_,SqT.of ha',_,rfl,bb,rfl,?_⟩⟩
     cases bb with
     | true=>exact Yv (by decide) ⟨s1.trans s2,he⟩
     | false =>
      have hq:=q (.ref a') H2 (s1.trans s2)
      rw [← he] at hq
      exact YV rfl (hq ⟨a',.bl false,rfl,ha',hu⟩)
  ·obtain ⟨s1,⟨o1,o2,rfl⟩,he⟩:=z
   rw [hds.length,List.drop_length] at he
   rw [← he] at q
   exact Y7 q s1 ⟨[],.bl _⟩
 | _=>cases hx
def Wo (H:Hp) (t:Tm) (mk:Str) (bd:V) (t1:Tm) (u1:V):Prop:=match t with
 | .num _=>False
 | .here=>False
 | .part s k=>mk="part"∧t1=s∧Yr H s u1∧∃ p,bd = .ref p∧H p=some (.tup [u1,.int k])
 | .when a b c=>mk="when"∧t1=a∧Yr H a u1∧∃ p w q,bd = .ref p∧H p=some (.tup [u1,w,q])∧Yr H b w∧Yr H c q
 | .count s=>mk="count"∧t1=s∧Yr H s u1∧bd=u1
 | .sum s=>mk="sum"∧t1=s∧Yr H s u1∧bd=u1
 | .not s=>mk="not"∧t1=s∧Yr H s u1∧bd=u1
 | .turned s=>mk="turned"∧t1=s∧Yr H s u1∧bd=u1
 | .same a b=>mk="same"∧t1=a∧Yr H a u1∧∃ p w,bd = .ref p∧H p=some (.tup [u1,w])∧Yr H b w
 | .both a b=>mk="both"∧t1=a∧Yr H a u1∧∃ p w,bd = .ref p∧H p=some (.tup [u1,w])∧Yr H b w
 | .each a b=>mk="each"∧t1=a∧Yr H a u1∧∃ p w,bd = .ref p∧H p=some (.tup [u1,w])∧Yr H b w
 | .joined a b=>mk="joined"∧t1=a∧Yr H a u1∧∃ p w,bd = .ref p∧H p=some (.tup [u1,w])∧Yr H b w
 | .plus a b=>mk="plus"∧t1=a∧Yr H a u1∧∃ p w,bd = .ref p∧H p=some (.tup [u1,w])∧Yr H b w
 | .times a b=>mk="times"∧t1=a∧Yr H a u1∧∃ p w,bd = .ref p∧H p=some (.tup [u1,w])∧Yr H b w
 | .less a b=>mk="less"∧t1=a∧Yr H a u1∧∃ p w,bd = .ref p∧H p=some (.tup [u1,w])∧Yr H b w
theorem YeU {H:Hp} {t:Tm} {v:V} (h:Yr H t v):∃ (a:Addr) (mk:Str) (bd:V),v = .ref a∧H a=some (.tup [.str mk,bd])∧((∃ i,t = .num i∧mk="num"∧bd = .int i)∨(t = .here∧mk="here")∨∃ t1 u1,Wo H t mk bd t1 u1):=by
 cases t with
 | num i=>obtain ⟨a,rfl,h⟩:=h;exact ⟨a,_,_,rfl,h,.inl ⟨i,rfl,rfl,rfl⟩⟩
 | here=>obtain ⟨a,r,rfl,h⟩:=h;exact ⟨a,_,_,rfl,h,.inr (.inl ⟨rfl,rfl⟩)⟩
 | part s k=>obtain ⟨a,p,u,rfl,h,hp,ht⟩:=h;exact ⟨a,_,_,rfl,h,.inr (.inr ⟨s,u,rfl,rfl,ht,p,rfl,hp⟩)⟩
 | when x y z=>obtain ⟨a,p,u,w,q,rfl,h,hp,h1,h2,h3⟩:=h;exact ⟨a,_,_,rfl,h,.inr (.inr ⟨x,u,rfl,rfl,h1,p,w,q,rfl,hp,h2,h3⟩)⟩
 | count s=>obtain ⟨a,u,rfl,h,ht⟩:=h;exact ⟨a,_,_,rfl,h,.inr (.inr ⟨s,u,rfl,rfl,ht,rfl⟩)⟩
 | sum s=>obtain ⟨a,u,rfl,h,ht⟩:=h;exact ⟨a,_,_,rfl,h,.inr (.inr ⟨s,u,rfl,rfl,ht,rfl⟩)⟩
 | not s=>obtain ⟨a,u,rfl,h,ht⟩:=h;exact ⟨a,_,_,rfl,h,.inr (.inr ⟨s,u,rfl,rfl,ht,rfl⟩)⟩
 | turned s=>obtain ⟨a,u,rfl,h,ht⟩:=h;exact ⟨a,_,_,rfl,h,.inr (.inr ⟨s,u,rfl,rfl,ht,rfl⟩)⟩
 | same x y=>obtain ⟨a,p,u,w,rfl,h,hp,h1,h2⟩:=h;exact ⟨a,_,_,rfl,h,.inr (.inr ⟨x,u,rfl,rfl,h1,p,w,rfl,hp,h2⟩)⟩
 | both x y=>obtain ⟨a,p,u,w,rfl,h,hp,h1,h2⟩:=h;exact ⟨a,_,_,rfl,h,.inr (.inr ⟨x,u,rfl,rfl,h1,p,w,rfl,hp,h2⟩)⟩
 | each x y=>obtain ⟨a,p,u,w,rfl,h,hp,h1,h2⟩:=h;exact ⟨a,_,_,rfl,h,.inr (.inr ⟨x,u,rfl,rfl,h1,p,w,rfl,hp,h2⟩)⟩
 | joined x y=>obtain ⟨a,p,u,w,rfl,h,hp,h1,h2⟩:=h;exact ⟨a,_,_,rfl,h,.inr (.inr ⟨x,u,rfl,rfl,h1,p,w,rfl,hp,h2⟩)⟩
 | plus x y=>obtain ⟨a,p,u,w,rfl,h,hp,h1,h2⟩:=h;exact ⟨a,_,_,rfl,h,.inr (.inr ⟨x,u,rfl,rfl,h1,p,w,rfl,hp,h2⟩)⟩
 | times x y=>obtain ⟨a,p,u,w,rfl,h,hp,h1,h2⟩:=h;exact ⟨a,_,_,rfl,h,.inr (.inr ⟨x,u,rfl,rfl,h1,p,w,rfl,hp,h2⟩)⟩
 | less x y=>obtain ⟨a,p,u,w,rfl,h,hp,h1,h2⟩:=h;exact ⟨a,_,_,rfl,h,.inr (.inr ⟨x,u,rfl,rfl,h1,p,w,rfl,hp,h2⟩)⟩
theorem Wo.ne {H:Hp} {t t1:Tm} {mk:Str} {bd u1:V} (h:Wo H t mk bd t1 u1):mk≠"num"∧mk≠"here":=by
 cases t<;>first | exact h.elim | (rw [h.1];decide)
theorem Wo.at1 {H:Hp} {t t1:Tm} {mk:Str} {bd u1:V} (h:Wo H t mk bd t1 u1):Yr H t1 u1∧t1.dep+1≤t.dep∧(t.ok→t1.ok):=by
 cases t with
 | num i=>exact h.elim
 | here=>exact h.elim
 | part s k=>obtain ⟨_,rfl,h,_⟩:=h;exact ⟨h,Nat.le_refl _,fun z=>z.2⟩
 | when x y z=>obtain ⟨_,rfl,h,_⟩:=h;exact ⟨h,by simp only [Tm.dep];omega,fun z=>z.1⟩
 | count s=>obtain ⟨_,rfl,h,_⟩:=h;exact ⟨h,Nat.le_refl _,fun z=>z⟩
 | sum s=>obtain ⟨_,rfl,h,_⟩:=h;exact ⟨h,Nat.le_refl _,fun z=>z⟩
 | not s=>obtain ⟨_,rfl,h,_⟩:=h;exact ⟨h,Nat.le_refl _,fun z=>z⟩
 | turned s=>obtain ⟨_,rfl,h,_⟩:=h;exact ⟨h,Nat.le_refl _,fun z=>z⟩
 | same x y=>obtain ⟨_,rfl,h,_⟩:=h;exact ⟨h,by simp only [Tm.dep];omega,fun z=>z.1⟩
 | both x y=>obtain ⟨_,rfl,h,_⟩:=h;exact ⟨h,by simp only [Tm.dep];omega,fun z=>z.1⟩
 | each x y=>obtain ⟨_,rfl,h,_⟩:=h;exact ⟨h,by simp only [Tm.dep];omega,fun z=>z.1⟩
 | joined x y=>obtain ⟨_,rfl,h,_⟩:=h;exact ⟨h,by simp only [Tm.dep];omega,fun z=>z.1⟩
 | plus x y=>obtain ⟨_,rfl,h,_⟩:=h;exact ⟨h,by simp only [Tm.dep];omega,fun z=>z.1⟩
 | times x y=>obtain ⟨_,rfl,h,_⟩:=h;exact ⟨h,by simp only [Tm.dep];omega,fun z=>z.1⟩
 | less x y=>obtain ⟨_,rfl,h,_⟩:=h;exact ⟨h,by simp only [Tm.dep];omega,fun z=>z.1⟩
theorem Wo.inner {H:Hp} {t t1:Tm} {mk:Str} {bd u1:V} (h:Wo H t mk bd t1 u1):(mk∈[Str.ofString "not",Str.ofString "count",Str.ofString "turned",Str.ofString "sum"]∧bd=u1)∨(mk∉[Str.ofString "not",Str.ofString "count",Str.ofString "turned",Str.ofString "sum"]∧∃ p r,bd = .ref p∧H p=some (.tup (u1::r))):=by
 cases t with
 | num i=>exact h.elim
 | here=>exact h.elim
 | part s k=>obtain ⟨rfl,_,_,p,h1,h2⟩:=h;exact .inr ⟨by decide,p,_,h1,h2⟩
 | when x y z=>obtain ⟨rfl,_,_,p,w,q,h1,h2,_⟩:=h;exact .inr ⟨by decide,p,_,h1,h2⟩
 | count s=>obtain ⟨rfl,_,_,h⟩:=h;exact .inl ⟨by decide,h⟩
 | sum s=>obtain ⟨rfl,_,_,h⟩:=h;exact .inl ⟨by decide,h⟩
 | not s=>obtain ⟨rfl,_,_,h⟩:=h;exact .inl ⟨by decide,h⟩
 | turned s=>obtain ⟨rfl,_,_,h⟩:=h;exact .inl ⟨by decide,h⟩
 | same x y=>obtain ⟨rfl,_,_,p,w,h1,h2,_⟩:=h;exact .inr ⟨by decide,p,_,h1,h2⟩
 | both x y=>obtain ⟨rfl,_,_,p,w,h1,h2,_⟩:=h;exact .inr ⟨by decide,p,_,h1,h2⟩
 | each x y=>obtain ⟨rfl,_,_,p,w,h1,h2,_⟩:=h;exact .inr ⟨by decide,p,_,h1,h2⟩
 | joined x y=>obtain ⟨rfl,_,_,p,w,h1,h2,_⟩:=h;exact .inr ⟨by decide,p,_,h1,h2⟩
 | plus x y=>obtain ⟨rfl,_,_,p,w,h1,h2,_⟩:=h;exact .inr ⟨by decide,p,_,h1,h2⟩
 | times x y=>obtain ⟨rfl,_,_,p,w,h1,h2,_⟩:=h;exact .inr ⟨by decide,p,_,h1,h2⟩
 | less x y=>obtain ⟨rfl,_,_,p,w,h1,h2,_⟩:=h;exact .inr ⟨by decide,p,_,h1,h2⟩
theorem Xc {mk m:Str} {s:Say} {f:PyData→Bool} (h:tk mk s f = .error m):s = .error m∨∃ x,s = .ok x∧f x=false∧m=mk:=by
 cases s with
 | error m'=>cases h;exact .inl rfl
 | ok x =>
  simp only [tk] at h
  cases c:f x with
  | true=>rw [c,if_pos rfl] at h;cases h
  | false=>rw [c,if_neg (by decide)] at h;cases h;exact .inr ⟨x,rfl,c,rfl⟩
theorem Yed {mk:Str} {s:Say} {f:PyData→Bool} {x:PyData} (h:tk mk s f = .ok x):s = .ok x∧f x=true:=by
 cases s with
 | error m'=>cases h
 | ok y =>
  simp only [tk] at h
  cases c:f y with
  | true=>rw [c,if_pos rfl] at h;cases h;exact ⟨rfl,c⟩
  | false=>rw [c,if_neg (by decide)] at h;cases h
theorem Wo.err {H:Hp} {t t1:Tm} {mk m:Str} {bd u1:V} {d:PyData} (h:Wo H t mk bd t1 u1) (he:tk mk (tell t1 d) (XB mk 0 .none) = .error m):tell t d = .error m:=by
 cases t with
 | num i=>exact h.elim
 | here=>exact h.elim
 | part s k =>
  obtain ⟨rfl,rfl,_⟩:=h
  rcases Xc he with e | ⟨x,e,c,rfl⟩
  ·simp only [tell,e];rfl
  ·have c:Xl x=false:=c
   simp only [tell,e]
   exact YI (by cases x<;>first | rfl | cases c)
 | count s =>
  obtain ⟨rfl,rfl,_⟩:=h
  rcases Xc he with e | ⟨x,e,c,rfl⟩
  ·simp only [tell,e];rfl
  ·have:Wr x=none:=by simpa [XQ] using (show XQ x=false from c)
   simp only [tell,e,YI this];rfl
 | sum s =>
  obtain ⟨rfl,rfl,_⟩:=h
  rcases Xc he with e | ⟨x,e,c,rfl⟩
  ·simp only [tell,e];rfl
  ·have:(fun x=>(YF x).bind Xb) x=none:=by simpa [Wz] using (show Wz x=false from c)
   simp only [tell,e];rw [YI this];rfl
 | not s =>
  obtain ⟨rfl,rfl,_⟩:=h
  rcases Xc he with e | ⟨x,e,c,rfl⟩
  ·simp only [tell,e];rfl
  ·simp only [tell,e,YI (Xh c)];rfl
 | turned s =>
  obtain ⟨rfl,rfl,_⟩:=h
  rcases Xc he with e | ⟨x,e,c,rfl⟩
  ·simp only [tell,e];rfl
  ·have:VY x=none:=by
    have c:XQ x=false:=c
    cases x<;>first | rfl | (simp [XQ,Wr] at c)
   simp only [tell,e,YI this]
 | same x y =>
  obtain ⟨rfl,rfl,_⟩:=h
  rcases Xc he with e | ⟨x,e,c,rfl⟩
  ·simp only [tell,e]
  ·exact absurd (show true=false from c) (by decide)
 | both x y =>
  obtain ⟨rfl,rfl,_⟩:=h
  rcases Xc he with e | ⟨x,e,c,rfl⟩
  ·simp only [tell,e];rfl
  ·simp only [tell,e,YI (Xh c)]
 | when x y z =>
  obtain ⟨rfl,rfl,_⟩:=h
  rcases Xc he with e | ⟨x,e,c,rfl⟩
  ·simp only [tell,e];rfl
  ·simp only [tell,e,YI (Xh c)]
 | each x y =>
  obtain ⟨rfl,rfl,_⟩:=h
  rcases Xc he with e | ⟨x,e,c,rfl⟩
  ·simp only [tell,e];rfl
  ·have c:Xl x=false:=c
   simp only [tell,e,YI (show YF x=none by cases x<;>first | rfl | cases c)]
 | joined x y =>
  obtain ⟨rfl,rfl,_⟩:=h
  rcases Xc he with e | ⟨x,e,c,rfl⟩
  ·simp only [tell,e]
  ·have c:Wy x=false:=c
   cases x<;>first | (simp only [tell,e];done) | (simp [Wy,isL,isS] at c)
 | plus x y =>
  obtain ⟨rfl,rfl,_⟩:=h
  rcases Xc he with e | ⟨x,e,c,rfl⟩
  ·simp only [tell,e];rfl
  ·simp only [tell,e,YI (XT c)]
 | times x y =>
  obtain ⟨rfl,rfl,_⟩:=h
  rcases Xc he with e | ⟨x,e,c,rfl⟩
  ·simp only [tell,e];rfl
  ·simp only [tell,e,YI (XT c)]
 | less x y =>
  obtain ⟨rfl,rfl,_⟩:=h
  rcases Xc he with e | ⟨x,e,c,rfl⟩
  ·simp only [tell,e];rfl
  ·simp only [tell,e,YI (XT c)]
theorem Wo.same {H H':Hp} (s:Yf H H') {t t1:Tm} {mk:Str} {bd u1:V} (h:Wo H t mk bd t1 u1):Wo H' t mk bd t1 u1:=by
 have k:=Y5 s
 cases t with
 | num i=>exact h.elim
 | here=>exact h.elim
 | part x k'=>obtain ⟨h1,h2,h3,p,h4,h5⟩:=h;exact ⟨h1,h2,h3.keep k,p,h4,s _ _ h5⟩
 | when x y z=>obtain ⟨h1,h2,h3,p,w,q,h4,h5,h6,h7⟩:=h;exact ⟨h1,h2,h3.keep k,p,w,q,h4,s _ _ h5,h6.keep k,h7.keep k⟩
 | count x=>obtain ⟨h1,h2,h3,h4⟩:=h;exact ⟨h1,h2,h3.keep k,h4⟩
 | sum x=>obtain ⟨h1,h2,h3,h4⟩:=h;exact ⟨h1,h2,h3.keep k,h4⟩
 | not x=>obtain ⟨h1,h2,h3,h4⟩:=h;exact ⟨h1,h2,h3.keep k,h4⟩
 | turned x=>obtain ⟨h1,h2,h3,h4⟩:=h;exact ⟨h1,h2,h3.keep k,h4⟩
 | same x y=>obtain ⟨h1,h2,h3,p,w,h4,h5,h6⟩:=h;exact ⟨h1,h2,h3.keep k,p,w,h4,s _ _ h5,h6.keep k⟩
 | both x y=>obtain ⟨h1,h2,h3,p,w,h4,h5,h6⟩:=h;exact ⟨h1,h2,h3.keep k,p,w,h4,s _ _ h5,h6.keep k⟩
 | each x y=>obtain ⟨h1,h2,h3,p,w,h4,h5,h6⟩:=h;exact ⟨h1,h2,h3.keep k,p,w,h4,s _ _ h5,h6.keep k⟩
 | joined x y=>obtain ⟨h1,h2,h3,p,w,h4,h5,h6⟩:=h;exact ⟨h1,h2,h3.keep k,p,w,h4,s _ _ h5,h6.keep k⟩
 | plus x y=>obtain ⟨h1,h2,h3,p,w,h4,h5,h6⟩:=h;exact ⟨h1,h2,h3.keep k,p,w,h4,s _ _ h5,h6.keep k⟩
 | times x y=>obtain ⟨h1,h2,h3,p,w,h4,h5,h6⟩:=h;exact ⟨h1,h2,h3.keep k,p,w,h4,s _ _ h5,h6.keep k⟩
 | less x y=>obtain ⟨h1,h2,h3,p,w,h4,h5,h6⟩:=h;exact ⟨h1,h2,h3.keep k,p,w,h4,s _ _ h5,h6.keep k⟩
theorem ZR {k:Nat} {Z0 Z1:Addr} {c_part_told P_part_told:Addr} (R:g.Raw "_law_due" "_law_due" Z1U ["_law_term_here","_law_thing_here"]) (Z0v:g.Fn k "_law_asked" ["_law_mark","_law_place","_law_term_here","_law_thing_here","_law_one"] (Z1q P_part_told m)) (Z2r:g.Fn k "_law_due_of_one" ["_law_mark","_law_body","_law_found"] (Ydi)) (Z2s:g.Fn k "_law_due_of_two" ["_law_mark","_law_one","_law_other"] (YaH g.K)) (Z31:g.Fn k "_law_due_each" ["_law_body","_law_rows"] (Qv P_part_told m)) (b_int:g.mg "int"=none):g.Fn (k+1) "_law_due" ["_law_term_here","_law_thing_here"] (UZ P_part_told (m+1)):=by
 refine R.fn ZV (fun vs H Q E h=>by obtain ⟨v,th,t,d,rfl,hA,q⟩:=h;rfl) fun f_ cdv A outer s H vs Q E hr h=>?_
 obtain ⟨v,th,t,d,rfl,hA,q⟩:=h
 refine ⟨_,(@Yd _ _ _ _ _ (@YJ _ _ (2) _ _ _ _ ZV.nd rfl (.inl rfl) (@Yy _ _ _ _ _ _ _ Yw (pv 0) Yc (fun _ _=>rfl)) (by rfl) (by first | exact .inl rfl | exact .inr rfl | assumption)) (@Yd _ _ _ _ _ (@YJ _ _ (3) _ _ _ _ ZV.nd rfl (.inl rfl) (@Yy _ _ _ _ _ _ _ Yw (pv 0) Yc (fun _ _=>rfl)) (by rfl) (by first | exact .inl rfl | exact .inr rfl | assumption)) (@Yd _ _ _ _ _ (@Yo _ _ _ _ _ _ _ _ (@Yk _ _ _ _ _ _ _ _ Yq (pv 2) Yi (Yl _)) (@Ye _ _ _ (@Yg _ _ _ _ (@Yp _ _ _ _ _ (@Ya _ _ _ _ _ Yi (@Ya _ _ _ _ _ (pv 3) Yb (by rfl)) (by rfl))))) Yj) (@Yd _ _ _ _ _ (@Yo _ _ _ _ _ _ _ _ (@Yk _ _ _ _ _ _ _ _ Yq (pv 2) Yi (Yl _)) (@Ye _ _ _ (@Yg _ _ _ _ (@Yp _ _ _ _ _ (@Ya _ _ _ _ _ Yi (@Ya _ _ _ _ _ (pv 1) Yb (by rfl)) (by rfl))))) Yj) (@Yd _ _ _ _ _ (@YJ _ _ (4) _ _ _ _ ZV.nd rfl (.inl rfl) (pv 3) (by rfl) (by first | exact .inl rfl | exact .inr rfl | assumption)) (@Yd _ _ _ _ _ (@Yo _ _ _ _ _ _ _ _ (@Yk _ _ _ _ _ _ _ _ Q0 (pv 2) (@Yp _ _ _ _ _ (@Ya _ _ _ _ _ Yi (@Ya _ _ _ _ _ Yi (@Ya _ _ _ _ _ Yi (@Ya _ _ _ _ _ Yi Yb (by rfl)) (by rfl)) (by rfl)) (by rfl))) rfl) (@Ye _ _ _ (@YJ _ _ (4) _ _ _ _ ZV.nd rfl (.inl rfl) (@Yy _ _ _ _ _ _ _ Yw (pv 3) Yc (fun _ _=>rfl)) (by rfl) (by first | exact .inl rfl | exact .inr rfl | assumption))) Yj) (@Yd _ _ _ _ _ (@YJ _ _ (5) _ _ _ _ ZV.nd rfl (.inl rfl) (@Yt _ _ _ _ _ _ _ _ _ _ _ _ Z0v hr (@Ya _ _ _ _ _ (pv 2) (@Ya _ _ _ _ _ Yc (@Ya _ _ _ _ _ (pv 4) (@Ya _ _ _ _ _ (pv 1) (@Ya _ _ _ _ _ XZ Yb (by rfl)) (by rfl)) (by rfl)) (by rfl)) (by rfl)) (by omega) (by rfl) (by rfl) (by decide) (by rfl) (by rfl)) (by rfl) (by first | exact .inl rfl | exact .inr rfl | assumption)) (@Yd _ _ _ _ _ (@Yo _ _ _ _ _ _ _ _ (@Yk _ _ _ _ _ _ _ _ Yq (@Yy _ _ _ _ _ _ _ Yw (pv 5) Yc (fun _ _=>rfl)) Yi (Yl _)) (@Ye _ _ _ (@Yg _ _ _ _ (pv 5))) Yj) (@Yd _ _ _ _ _ (@Yo _ _ _ _ _ _ _ _ (@Yk _ _ _ _ _ _ _ _ WX (pv 2) (@Yp _ _ _ _ _ (@Ya _ _ _ _ _ Yi (@Ya _ _ _ _ _ Yi (@Ya _ _ _ _ _ Yi (@Ya _ _ _ _ _ Yi (@Ya _ _ _ _ _ Yi Yb (by rfl)) (by rfl)) (by rfl)) (by rfl)) (by rfl))) rfl) (@Ye _ _ _ (@Yg _ _ _ _ (@Yt _ _ _ _ _ _ _ _ _ _ _ _ Z2r hr (@Ya _ _ _ _ _ (pv 2) (@Ya _ _ _ _ _ (pv 3) (@Ya _ _ _ _ _ (@Yy _ _ _ _ _ _ _ Yw (pv 5) Yc (fun _ _=>rfl)) Yb (by rfl)) (by rfl)) (by rfl)) (by omega) (by rfl) (by rfl) (by decide) (by rfl) (by rfl)))) Yj) (@Yd _ _ _ _ _ (@Yo _ _ _ _ _ _ _ _ (@Yk _ _ _ _ _ _ _ _ Yq (pv 2) Yi (Yl _)) (@Ye _ _ _ (@Yg _ _ _ _ (@Yt _ _ _ _ _ _ _ _ _ _ _ _ Z31 hr (@Ya _ _ _ _ _ (@Yy _ _ _ _ _ _ _ Yw (pv 3) Yc (fun _ _=>rfl)) (@Ya _ _ _ _ _ (@Yy _ _ _ _ _ _ _ Yw (pv 5) Yc (fun _ _=>rfl)) Yb (by rfl)) (by rfl)) (by omega) (by rfl) (by rfl) (by decide) (by rfl) (by rfl)))) Yj) (@Yd _ _ _ _ _ (@Yo _ _ _ _ _ _ _ _ (@Yk _ _ _ _ _ _ _ _ Yq (pv 2) Yi (Yl _)) (@Ye _ _ _ (@Yg _ _ _ _ (@Yt _ _ _ _ _ _ _ _ _ _ _ _ Z0v hr (@Ya _ _ _ _ _ (pv 2) (@Ya _ _ _ _ _ Yc (@Ya _ _ _ _ _ (@Yy _ _ _ _ _ _ _ Yw (pv 3) (@Ys _ _ _ _ _ _ _ _ YX Yc (@UL _ _ _ _ _ _ _ _ _ _ b_int Ycu (@Ya _ _ _ _ _ (@Yy _ _ _ _ _ _ _ Yw (pv 5) Yc (fun _ _=>rfl)) Yb (by rfl)) (by decide +kernel) (by rfl) (by rfl) (by decide) (by decide) (by rfl) (by rfl))) (fun _ _=>rfl)) (@Ya _ _ _ _ _ (pv 1) (@Ya _ _ _ _ _ XZ Yb (by rfl)) (by rfl)) (by rfl)) (by rfl)) (by rfl)) (by omega) (by rfl) (by rfl) (by decide) (by rfl) (by rfl)))) Yj) (@Yd _ _ _ _ _ (@Yo _ _ _ _ _ _ _ _ (@Wf _ _ _ _ _ _ _ (@Yk _ _ _ _ _ _ _ _ Yq (pv 2) Yi (Yl _)) (@XV _ _ _ _ (@X0 _ _ _ _ (@Y1 _ _ _ (@Yy _ _ _ _ _ _ _ Yw (pv 5) Yc (fun _ _=>rfl)) (by intro _;rfl))))).pt (@Ye _ _ _ (@Yg _ _ _ _ (pv 5))) Yj) (@Yd _ _ _ _ _ (@YJ _ _ (6) _ _ _ _ ZV.nd rfl (.inl rfl) (@Yt _ _ _ _ _ _ _ _ _ _ _ _ Z0v hr (@Ya _ _ _ _ _ (pv 2) (@Ya _ _ _ _ _ Yc (@Ya _ _ _ _ _ (@Yy _ _ _ _ _ _ _ Yw (pv 3) Yc (fun _ _=>rfl)) (@Ya _ _ _ _ _ (pv 1) (@Ya _ _ _ _ _ (@Yy _ _ _ _ _ _ _ Yw (pv 5) Yc (fun _ _=>rfl)) Yb (by rfl)) (by rfl)) (by rfl)) (by rfl)) (by rfl)) (by omega) (by rfl) (by rfl) (by decide) (by rfl) (by rfl)) (by rfl) (by first | exact .inl rfl | exact .inr rfl | assumption)) (@Yd _ _ _ _ _ (@Yo _ _ _ _ _ _ _ _ (@XW _ _ _ _ _ _ _ (@Yk _ _ _ _ _ _ _ _ Yq (@Yy _ _ _ _ _ _ _ Yw (pv 6) Yc (fun _ _=>rfl)) Yi (Yl _)) (@XI _ _ _ _ (@Yk _ _ _ _ _ _ _ _ Yq (pv 2) Yi (Yl _)))).pt (@Ye _ _ _ (@Yg _ _ _ _ (pv 6))) Yj) (@Ye _ _ _ (@Yg _ _ _ _ (@Yt _ _ _ _ _ _ _ _ _ _ _ _ Z2s hr (@Ya _ _ _ _ _ (pv 2) (@Ya _ _ _ _ _ (@Yy _ _ _ _ _ _ _ Yw (pv 5) Yc (fun _ _=>rfl)) (@Ya _ _ _ _ _ (@Yy _ _ _ _ _ _ _ Yw (pv 6) Yc (fun _ _=>rfl)) Yb (by rfl)) (by rfl)) (by rfl)) (by omega) (by rfl) (by rfl) (by decide) (by rfl) (by rfl)))))))))))))))))),?_⟩
 obtain ⟨a,mk,bd,rfl,ha,hD⟩:=YeU hA.at'
 refine Uq (fun σ H'=>σ=[some (.ref a),some th,some (.str mk),some bd,none,none,none]∧H'=H) ?_ ?_
 rotate_left
 ·intro N hN
  walk_at "rd"
  exact ⟨_,SqT.of ha,_,rfl,_,SqT.of ha,_,rfl,hN _ _ ⟨rfl,rfl⟩⟩
 rintro σ H' ⟨rfl,e⟩
 subst e
 refine Uq (fun σ H''=>σ=[some (.ref a),some th,some (.str mk),some bd,none,none,none]∧H''=H'∧∃ t1 u1,Wo H' t mk bd t1 u1) ?_ ?_
 rotate_left
 ·intro N hN
  walk_at "rd"
  rcases hD with ⟨i,rfl,rfl,rfl⟩ | ⟨rfl,rfl⟩ | ⟨t1,u1,hD⟩
  ·exact YV rfl (Y7 q (.refl _) ⟨[],.int _⟩)
  ·exact Yv (by decide) (YV rfl (Y7 q (.refl _) hA.dv))
  ·exact Yv hD.ne.1 (Yv hD.ne.2 (hN _ _ ⟨rfl,rfl,t1,u1,hD⟩))
 rintro σ H1 ⟨rfl,e,t1,u1,hD⟩
 subst e
 obtain ⟨hd1,hd2,hd3⟩:=hD.at1
 have hA1:=hA.sub hd1 (hd3 hA.ok) hd2
 refine Uq (fun σ H''=>σ=[some (.ref a),some th,some (.str mk),some bd,some u1,none,none]∧Yf H1 H'') ?_ ?_
 rotate_left
 ·intro N hN
  walk_at "rd"
  refine ⟨by decide,fun p hp=>⟨_,.inr (SqT.of Yh),rfl,rfl,?_⟩⟩
  have s1:=Yf.upd_new hp (HO.tup [V.str (Str.ofString "not"),V.str (Str.ofString "count"),V.str (Str.ofString "turned"),V.str (Str.ofString "sum")])
  have ei:inV (.str mk) [V.str (Str.ofString "not"),V.str (Str.ofString "count"),V.str (Str.ofString "turned"),V.str (Str.ofString "sum")]=decide (mk∈[Str.ofString "not",Str.ofString "count",Str.ofString "turned",Str.ofString "sum"]):=Vo mk [Str.ofString "not",Str.ofString "count",Str.ofString "turned",Str.ofString "sum"]
  rw [ei]
  rcases hD.inner with ⟨c,rfl⟩ | ⟨c,p',r,rfl,hp'⟩
  ·rw [decide_eq_true c]
   exact Yv (by decide) (hN _ _ ⟨rfl,s1⟩)
  ·rw [decide_eq_false c]
   exact YV rfl ⟨p',rfl,_,SqT.of (s1 _ _ hp'),_,Vc (xs:=u1::r) (j:=0) rfl,hN _ _ ⟨rfl,s1⟩⟩
 rintro σ H2 ⟨rfl,s2⟩
 refine Uq (fun σ H''=>∃ f w x,σ=[some (.ref a),some th,some (.str mk),some bd,some u1,some (.ref f),none]∧Yf H1 H''∧H'' f=some (.tup [.str "said",w])∧DV H'' w x∧tell t1 d = .ok x∧XB mk 0 .none x=true) ?_ ?_
 rotate_left
 ·intro N hN
  walk_at "rd"
  refine ⟨mk,0,u1,th,.non,t1,d,.none,rfl,hA1.same s2,⟨[],.non⟩,fun r H3 s3 hr=>?_⟩
  cases e:tk mk (tell t1 d) (XB mk 0 .none) with
  | error mk' =>
   rw [e] at hr
   obtain ⟨f,rfl,hf⟩:=hr
   have hq:=q (.ref f) H3 (s2.trans s3)
   rw [hD.err e] at hq
   exact ⟨f,rfl,_,SqT.of hf,_,rfl,XD _ _,YV rfl (hq ⟨f,rfl,hf⟩)⟩
  | ok x =>
   rw [e] at hr
   obtain ⟨f,w,rfl,hf,hw⟩:=hr
   obtain ⟨e1,e2⟩:=Yed e
   exact ⟨f,rfl,_,SqT.of hf,_,rfl,XD _ _,Yv (by intro z;cases z) (hN _ _ ⟨f,w,x,rfl,s2.trans s3,hf,hw,e1,e2⟩)⟩
 rintro σ H3 ⟨f,w,x,rfl,s3,hf,hw,ex,hc⟩
 have hD3:=hD.same s3
 have hA3:=hA.same s3
 have hA13:=hA1.same s3
 refine Xo (fun σ H''=>σ=[some (.ref a),some th,some (.str mk),some bd,some u1,some (.ref f),none]∧Yf H3 H''∧mk∉[Str.ofString "not",Str.ofString "count",Str.ofString "turned",Str.ofString "sum",Str.ofString "part"]) ?_ ?_
 rotate_left
 ·intro N hN
  walk_at "rd"
  refine ⟨by decide,fun p hp=>⟨_,.inr (SqT.of Yh),rfl,rfl,?_⟩⟩
  have s4:=Yf.upd_new hp (HO.tup [V.str (Str.ofString "not"),V.str (Str.ofString "count"),V.str (Str.ofString "turned"),V.str (Str.ofString "sum"),V.str (Str.ofString "part")])
  have ei:inV (.str mk) [V.str (Str.ofString "not"),V.str (Str.ofString "count"),V.str (Str.ofString "turned"),V.str (Str.ofString "sum"),V.str (Str.ofString "part")]=decide (mk∈[Str.ofString "not",Str.ofString "count",Str.ofString "turned",Str.ofString "sum",Str.ofString "part"]):=Vo mk [Str.ofString "not",Str.ofString "count",Str.ofString "turned",Str.ofString "sum",Str.ofString "part"]
  rw [ei]
  refine YB (fun c=>⟨_,SqT.of (s4 _ _ hf),_,rfl,mk,bd,w,x,tell t d,rfl,hw.keep s4,?_,?_,fun r H5 s5 hr=>q r H5 (s3.trans (s4.trans s5)) hr⟩) fun c=>hN _ _ ⟨rfl,s4,by simpa using c⟩
  ·obtain ⟨k,hk,hl⟩:=hA1.pk
   exact (Y2 hA1.ok hk ex).1.mono hl
  ·have c:mk∈[Str.ofString "not",Str.ofString "count",Str.ofString "turned",Str.ofString "sum",Str.ofString "part"]:=by simpa using c
   have hDD:=hD3.same s4
   cases t with
   | num i=>exact hDD.elim
   | here=>exact hDD.elim
   | not s =>
    obtain ⟨rfl,rfl,_⟩:=hDD
    obtain ⟨b,rfl⟩:=Xp hc
    exact .inl ⟨rfl,b,rfl,by simp only [tell,ex,Yx (show Y4 (.bool b)=some b from rfl)];rfl⟩
   | count s =>
    obtain ⟨rfl,rfl,_⟩:=hDD
    obtain ⟨n,hn⟩:=Option.isSome_iff_exists.mp (show (Wr x).isSome=true from hc)
    exact .inr (.inl ⟨rfl,n,hn,by simp only [tell,ex,Yx hn];rfl⟩)
   | turned s =>
    obtain ⟨rfl,rfl,_⟩:=hDD
    obtain ⟨y,hy⟩:∃ y,VY x=some y:=by
     have hc:XQ x=true:=hc
     cases x<;>first | exact ⟨_,rfl⟩ | (simp [XQ,Wr] at hc)
    exact .inr (.inr (.inl ⟨rfl,y,hy,by simp only [tell,ex,Yx hy]⟩))
   | sum s =>
    obtain ⟨rfl,rfl,_⟩:=hDD
    obtain ⟨n,hn⟩:=Option.isSome_iff_exists.mp (show ((YF x).bind Xb).isSome=true from hc)
    exact .inr (.inr (.inr (.inl ⟨rfl,n,hn,by simp only [tell,ex];rw [Yx (f:=fun x=>(YF x).bind Xb) hn];rfl⟩)))
   | part s k =>
    obtain ⟨rfl,rfl,_,p,rfl,hp⟩:=hDD
    exact .inr (.inr (.inr (.inr ⟨rfl,p,u1,k,rfl,hp,hA.ok.1,hc,by simp only [tell,ex];rfl⟩)))
   | _=>exact absurd c (by rw [hDD.1];decide)
 rintro σ H4 ⟨rfl,s4,hne⟩
 have s4':=s3.trans s4
 have hD4:=hD3.same s4
 have hf4:=s4 _ _ hf
 have hw4:=hw.keep s4
 have hA14:=hA13.same s4
 have sub2:∀ {t2:Tm} {u2:V},Yr H4 t2 u2→t2.ok→t2.dep+1≤t.dep→Ask P_part_told H4 m t2 u2 d th:=fun h1 h2 h3=>(hA3.same s4).sub h1 h2 h3
 refine Xo (fun σ H''=>σ=[some (.ref a),some th,some (.str mk),some bd,some u1,some (.ref f),none]∧H''=H4∧mk≠"each") ?_ ?_
 rotate_left
 ·intro N hN
  walk_at "rd"
  refine YB (fun c=>?_) fun c=>hN _ _ ⟨rfl,rfl,c⟩
  cases t with
  | num i=>exact hD4.elim
  | here=>exact hD4.elim
  | each x' y =>
   obtain ⟨rfl,rfl,_,p,w2,rfl,hp,h2⟩:=hD4
   obtain ⟨ds,hds⟩:=Option.isSome_iff_exists.mp (show (YF x).isSome=true from hc)
   have hB:=sub2 h2 hA.ok.2 (by simp only [Tm.dep];omega)
   refine ⟨p,rfl,_,SqT.of hp,_,rfl,_,SqT.of hf4,_,rfl,w2,w,y,x,ds,rfl,hw4,hds,hB.tb,fun z hz H' u s' hv=>V0 hA14 hB ex hds z hz H' u (Y5 s') (hB.tb.keep s') hv,fun r H5 s5 hr=>q r H5 (s4'.trans s5) ?_⟩
   simp only [tell,ex,Yx hds]
   exact hr
  | _=>exact absurd c (by rw [hD4.1];decide)
 rintro σ H4' ⟨rfl,e,hne2⟩
 subst e
 refine Xo (fun σ H''=>σ=[some (.ref a),some th,some (.str mk),some bd,some u1,some (.ref f),none]∧H''=H4'∧mk≠"when") ?_ ?_
 rotate_left
 ·intro N hN
  walk_at "rd"
  refine YB (fun c=>?_) fun c=>hN _ _ ⟨rfl,rfl,c⟩
  cases t with
  | num i=>exact hD4.elim
  | here=>exact hD4.elim
  | when x' y z =>
   obtain ⟨rfl,rfl,_,p,w2,w3,rfl,hp,h2,h3⟩:=hD4
   obtain ⟨b,rfl⟩:=Xp hc
   cases hw4.ibl
   refine ⟨_,SqT.of hf4,_,rfl,.inr ⟨b,rfl,p,rfl,_,SqT.of hp,?_⟩⟩
   simp only [tell,ex,Yx (show Y4 (.bool b)=some b from rfl)] at q
   have cw:∀ s:Say,tk "when" s (XB "when" 1 .none)=s:=fun s=>by cases s<;>rfl
   cases b with
   | true=>exact ⟨w2,rfl,Str.ofString "when",1,w2,th,.non,y,d,.none,rfl,sub2 h2 hA.ok.2.1 (by simp only [Tm.dep];omega),⟨[],.non⟩,fun r H5 s5 hr=>q r H5 (s4'.trans s5) (by rw [cw] at hr;exact hr)⟩
   | false=>exact ⟨w3,rfl,Str.ofString "when",1,w3,th,.non,z,d,.none,rfl,sub2 h3 hA.ok.2.2 (by simp only [Tm.dep];omega),⟨[],.non⟩,fun r H5 s5 hr=>q r H5 (s4'.trans s5) (by rw [cw] at hr;exact hr)⟩
  | _=>exact absurd c (by rw [hD4.1];decide)
 rintro σ H4 ⟨rfl,e,hne3⟩
 subst e
 refine Xo (fun σ H''=>σ=[some (.ref a),some th,some (.str mk),some bd,some u1,some (.ref f),none]∧H''=H4∧(mk="both"→x = .bool true)) ?_ ?_
 rotate_left
 ·intro N hN
  walk_at "rd"
  refine YB (fun c=>?_) fun c=>hN _ _ ⟨rfl,rfl,fun z=>absurd z c⟩
  cases t with
  | num i=>exact hD4.elim
  | here=>exact hD4.elim
  | both x' y =>
   obtain ⟨rfl,rfl,_,p,w2,rfl,hp,h2⟩:=hD4
   obtain ⟨b,rfl⟩:=Xp hc
   cases hw4.ibl
   refine ⟨_,SqT.of hf4,_,rfl,b,rfl,?_⟩
   cases b with
   | true=>exact Yv (by decide) (hN _ _ ⟨rfl,rfl,fun _=>rfl⟩)
   | false =>
    have hq:=q (.ref f) H4 s4'
    simp only [tell,ex,Yx (show Y4 (.bool false)=some false from rfl)] at hq
    exact YV rfl (hq ⟨f,_,rfl,hf4,hw4⟩)
  | _=>exact absurd c (by rw [hD4.1];decide)
 rintro σ H4' ⟨rfl,e,hbt⟩
 subst e
 have fin:∀ (y:Tm) (p:Addr) (w2:V),bd = .ref p→H4' p=some (.tup [u1,w2])→Yr H4' y w2→y.ok→y.dep+1≤t.dep→(∀ m',tk mk (tell y d) (XB mk 1 x) = .error m'→tell t d = .error m')→(mk="both"→∀ z,tell y d = .ok z→XB mk 1 x z=true→tell t d = .ok z)→(mk≠"both"→∀ z,tell y d = .ok z→XB mk 1 x z=true→Two mk x z (tell t d)) →
   ∃ p,bd=V.ref p∧∃ x,SqT g.K H4' p x∧∃ x_1,atI x 1=some x_1∧∃ x,SqT g.K H4' f x∧∃ x_2,atI x 1=some x_2∧Z1q P_part_told m [V.str mk,V.int 1,x_1,th,x_2] H4' (fun x H1=>∃ p,x=V.ref p∧∃ x_3,SqT g.K H1 p x_3∧∃ x_4,atI x_3 0=some x_4∧Um x_4 (V.str (Str.ofString "astray"))=true ∧
    if x_4=V.str (Str.ofString "astray") then Q x H1 else if mk=Str.ofString "both" then Q x H1 else ∃ x_5,SqT g.K H1 f x_5∧∃ x_6,atI x_5 1=some x_6∧∃ p,x=V.ref p∧∃ x,SqT g.K H1 p x∧∃ x_7,atI x 1=some x_7∧YaH g.K [V.str mk,x_6,x_7] H1 Q E0) E0:=fun y p w2 hb hp hy ho hdp he hbo htw=>by
  refine ⟨p,hb,_,SqT.of hp,_,rfl,_,SqT.of hf4,_,rfl,mk,1,w2,th,w,y,d,x,rfl,sub2 hy ho hdp,hw4,fun r H5 s5 hr=>?_⟩
  have hq:=fun r H' (s':Yf H5 H')=>q r H' (s4'.trans (s5.trans s'))
  cases e:tk mk (tell y d) (XB mk 1 x) with
  | error m' =>
   rw [e] at hr
   obtain ⟨f2,rfl,hf2⟩:=hr
   rw [he m' e] at hq
   exact ⟨f2,rfl,_,SqT.of hf2,_,rfl,XD _ _,YV rfl (hq _ _ (.refl _) ⟨f2,rfl,hf2⟩)⟩
  | ok z =>
   rw [e] at hr
   obtain ⟨f2,w',rfl,hf2,hw'⟩:=hr
   obtain ⟨e1,e2⟩:=Yed e
   refine ⟨f2,rfl,_,SqT.of hf2,_,rfl,XD _ _,Yv (by intro z;cases z) (YB (fun c=>?_) fun c=>?_)⟩
   ·rw [hbo c z e1 e2] at hq
    exact hq _ _ (.refl _) ⟨f2,w',rfl,hf2,hw'⟩
   ·exact ⟨_,SqT.of (s5 _ _ hf4),_,rfl,f2,rfl,_,SqT.of hf2,_,rfl,mk,w,w',x,z,tell t d,rfl,hw4.keep s5,hw',hA14.depth ex,htw c z e1 e2,hq⟩
 walk_at "rd"
 cases t with
 | num i=>exact hD4.elim
 | here=>exact hD4.elim
 | same x' y =>
  obtain ⟨rfl,rfl,_,p,w2,rfl,hp,h2⟩:=hD4
  refine fin y p w2 rfl hp h2 hA.ok.2 (by simp only [Tm.dep];omega) (fun m' em=>?_) (fun c=>absurd c (by decide)) fun _ z e1 e2 => .inr (.inr (.inl ⟨rfl,by simp only [tell,ex,e1];rfl⟩))
  rcases Xc em with e | ⟨z,e,c,rfl⟩
  ·simp only [tell,ex,e];rfl
  ·exact absurd (show true=false from c) (by decide)
 | both x' y =>
  obtain ⟨rfl,rfl,_,p,w2,rfl,hp,h2⟩:=hD4
  cases hbt rfl
  refine fin y p w2 rfl hp h2 hA.ok.2 (by simp only [Tm.dep];omega) (fun m' em=>?_) (fun _ z e1 e2=>?_) fun c=>absurd rfl c
  ·rcases Xc em with e | ⟨z,e,c,rfl⟩
   ·simp only [tell,ex,e,Yx (show Y4 (.bool true)=some true from rfl)];rfl
   ·simp only [tell,ex,e,Yx (show Y4 (.bool true)=some true from rfl),YI (Xh c)];rfl
  ·obtain ⟨b,rfl⟩:=Xp e2
   simp only [tell,ex,e1,Yx (show Y4 (.bool true)=some true from rfl),Yx (show Y4 (.bool b)=some b from rfl)];rfl
 | joined x' y =>
  obtain ⟨rfl,rfl,_,p,w2,rfl,hp,h2⟩:=hD4
  obtain ⟨k,hk,hkl⟩:=hA.pk
  simp only [Tm.dep] at hkl
  have px:=pk6 hA.ok.1 hk (by omega) ex
  have ec:∀ z,XB "joined" 1 x z=(decide (isL z=isL x)&&decide (isS z=isS x)):=fun z=>rfl
  have hc:Wy x=true:=hc
  refine fin y p w2 rfl hp h2 hA.ok.2 (by simp only [Tm.dep];omega) (fun m' em=>?_) (fun c=>absurd c (by decide)) fun _ z e1 e2=>?_
  ·cases x with
   | list xs =>
    rcases Xc em with e | ⟨z,e,c,rfl⟩
    ·simp only [tell,ex,e];rfl
    ·rw [ec] at c
     simp only [tell,ex,e]
     exact YI (by cases z<;>first | rfl | (simp [isL,isS] at c))
   | str xs =>
    rcases Xc em with e | ⟨z,e,c,rfl⟩
    ·simp only [tell,ex,e];rfl
    ·rw [ec] at c
     simp only [tell,ex,e]
     exact YI (by cases z<;>first | rfl | (simp [isL,isS] at c))
   | _=>simp [Wy,isL,isS] at hc
  ·have pz:=pk6 hA.ok.2 hk (by omega) e1
   rw [ec] at e2
   cases x with
   | list xs =>
    cases z with
    | list ys =>
     have p1:=px.1
     have p2:=pz.1
     exact .inr (.inr (.inr (.inr ⟨rfl,.inl ⟨xs,ys,rfl,rfl,by omega,by simp only [tell,ex,e1];rfl⟩⟩)))
    | _=>simp [isL,isS] at e2
   | str xs =>
    cases z with
    | str ys =>
     have p1:xs.length≤64*2^6:=px
     have p2:ys.length≤64*2^6:=pz
     exact .inr (.inr (.inr (.inr ⟨rfl,.inr ⟨xs,ys,rfl,rfl,by omega,by simp only [tell,ex,e1];rfl⟩⟩)))
    | _=>simp [isL,isS] at e2
   | _=>simp [Wy,isL,isS] at hc
 | plus x' y =>
  obtain ⟨rfl,rfl,_,p,w2,rfl,hp,h2⟩:=hD4
  obtain ⟨i,rfl⟩:=Wa hc
  have hB:=sub2 h2 hA.ok.2 (by simp only [Tm.dep];omega)
  refine fin y p w2 rfl hp h2 hA.ok.2 (by simp only [Tm.dep];omega) (fun m' em=>?_) (fun c=>absurd c (by decide)) fun _ z e1 e2=>?_
  ·rcases Xc em with e | ⟨z,e,c,rfl⟩
   ·simp only [tell,ex,e,Yx (show Xi (.int i)=some i from rfl)];rfl
   ·simp only [tell,ex,e,Yx (show Xi (.int i)=some i from rfl),YI (XT c)];rfl
  ·obtain ⟨j,rfl⟩:=Wa e2
   exact .inr (.inr (.inr (.inl ⟨rfl,i,j,rfl,rfl,by simp only [tell,ex,e1,Yx (show Xi (.int i)=some i from rfl),Yx (show Xi (.int j)=some j from rfl)];rfl⟩)))
 | times x' y =>
  obtain ⟨rfl,rfl,_,p,w2,rfl,hp,h2⟩:=hD4
  obtain ⟨i,rfl⟩:=Wa hc
  have hB:=sub2 h2 hA.ok.2 (by simp only [Tm.dep];omega)
  refine fin y p w2 rfl hp h2 hA.ok.2 (by simp only [Tm.dep];omega) (fun m' em=>?_) (fun c=>absurd c (by decide)) fun _ z e1 e2=>?_
  ·rcases Xc em with e | ⟨z,e,c,rfl⟩
   ·simp only [tell,ex,e,Yx (show Xi (.int i)=some i from rfl)];rfl
   ·simp only [tell,ex,e,Yx (show Xi (.int i)=some i from rfl),YI (XT c)];rfl
  ·obtain ⟨j,rfl⟩:=Wa e2
   exact .inl ⟨rfl,i,j,rfl,rfl,hA1.ib ex,hB.ib e1,by simp only [tell,ex,e1,Yx (show Xi (.int i)=some i from rfl),Yx (show Xi (.int j)=some j from rfl)];rfl⟩
 | less x' y =>
  obtain ⟨rfl,rfl,_,p,w2,rfl,hp,h2⟩:=hD4
  obtain ⟨i,rfl⟩:=Wa hc
  have hB:=sub2 h2 hA.ok.2 (by simp only [Tm.dep];omega)
  refine fin y p w2 rfl hp h2 hA.ok.2 (by simp only [Tm.dep];omega) (fun m' em=>?_) (fun c=>absurd c (by decide)) fun _ z e1 e2=>?_
  ·rcases Xc em with e | ⟨z,e,c,rfl⟩
   ·simp only [tell,ex,e,Yx (show Xi (.int i)=some i from rfl)];rfl
   ·simp only [tell,ex,e,Yx (show Xi (.int i)=some i from rfl),YI (XT c)];rfl
  ·obtain ⟨j,rfl⟩:=Wa e2
   exact .inr (.inl ⟨rfl,i,j,rfl,rfl,by simp only [tell,ex,e1,Yx (show Xi (.int i)=some i from rfl),Yx (show Xi (.int j)=some j from rfl)];rfl⟩)
 | each x' y=>exact absurd hD4.1 hne2
 | when x' y z=>exact absurd hD4.1 hne3
 | _=>exact absurd (show _ from hD4.1) (fun z=>hne (by rw [z];decide))
def Z08 (m:Nat):Sp:=fun vs H Q _=>∃ v d L,vs=[v]∧DL H v d L∧d.depth<m∧L.length≤100000∧∀ D H',H D=none→Yf H H'→H' D=some (.lst (L.map V.ref))→Q (.ref D) H'
theorem YaI {vs:List V} {H:Hp} {Q:VK} {E:XK} (h:Z08 0 vs H Q E):False:=by
 obtain ⟨v,d,L,_,_,h,_⟩:=h
 omega
theorem YdY {H:Hp} {vs:List V} {ds:List PyData} {L:List Addr} {i:Nat} {x:V} (h:DLs H (vs.drop i) (ds.drop i) L) (hx:vs[i]?=some x):∃ d Lx L',ds[i]?=some d∧L=Lx++L'∧DL H x d Lx∧DLs H (vs.drop (i+1)) (ds.drop (i+1)) L':=by
 have hi:=(List.getElem?_eq_some_iff.mp hx).1
 have e1:vs.drop i=x::vs.drop (i+1):=by rw [List.drop_eq_getElem_cons hi,(List.getElem?_eq_some_iff.mp hx).2]
 rw [e1] at h
 generalize hd:ds.drop i=es at h
 cases h with
 | @cons _ d Lx _ es' L' h1 h2 =>
  have hd0:ds[i]?=some d:=by
   have:=congrArg (fun l=>l[0]?) hd
   simpa using this
  have hd1:ds.drop (i+1)=es':=by
   have:=congrArg (List.drop 1) hd
   simpa [List.drop_drop,Nat.add_comm] using this
  exact ⟨d,Lx,L',hd0,rfl,h1,by rw [hd1];exact h2⟩
def hdL (v:V):PyData→List V
 | .list _=>[v]
 | _=>[]
theorem Z09 {k:Nat} {Z0 Z1:Addr} {c_part_told P_part_told:Addr} (R:g.Raw "_law_lists" "_law_lists" Z1e ["_law_value"]) (Z1f:g.Fn k "_law_lists" ["_law_value"] (Z08 m)) (Z2:g.mg "isinstance"=none) (b_list:g.mg "list"=none) (Z3:g.mg "tuple"=none):g.Fn (k+1) "_law_lists" ["_law_value"] (Z08 (m+1)):=by
 refine R.fn Z0Y (fun vs H Q E h=>by obtain ⟨v,d,L,rfl,hv,hdp,hLn,q⟩:=h;rfl) fun f_ cdv A outer s H vs Q E hr h=>?_
 obtain ⟨v,d,L,rfl,hv,hdp,hLn,q⟩:=h
 refine ⟨_,(@Yd _ _ _ _ _ (@YJ _ _ (1) _ _ _ _ Z0Y.nd rfl (.inl rfl) (@UD _ _ _ _ Yb) (by rfl) (by first | exact .inl rfl | exact .inr rfl | assumption)) (@Yd _ _ _ _ _ (@Yo _ _ _ _ _ _ _ _ (@Y1 _ _ _ (@Yz _ _ _ _ _ _ _ _ _ _ Z2 YA (@Ya _ _ _ _ _ (pv 0) (@Ya _ _ _ _ _ (@YG _ _ _ _ ("list") b_list (by decide +kernel) (by rfl) (by rfl) (by decide) (by decide)) Yb (by rfl)) (by rfl)) (by decide +kernel) (by rfl) (by rfl) (by decide) (by decide) (by rfl) (by rfl)) (by intro _;rfl)) (@Ye _ _ _ (@V4 _ _ _ _ (@UG _ _ _ _ _ _ _ _ _ _ _ _ PySem.F.plainAttrs_list PySem.F.slot_list_append PySem.F.type_list_append WY (pv 1) (@Ya _ _ _ _ _ (pv 0) Yb (by rfl)) (by rfl) (by rfl) (by rfl) (by rfl) (by rfl)) (by rfl))) Yj) (@Yd _ _ _ _ _ (@Yo _ _ _ _ _ _ _ _ (@Y1 _ _ _ (@Yz _ _ _ _ _ _ _ _ _ _ Z2 Y6 (@Ya _ _ _ _ _ (pv 0) (@Ya _ _ _ _ _ (@Yp _ _ _ _ _ (@Ya _ _ _ _ _ (@YG _ _ _ _ ("list") b_list (by decide +kernel) (by rfl) (by rfl) (by decide) (by decide)) (@Ya _ _ _ _ _ (@YG _ _ _ _ ("tuple") Z3 (by decide +kernel) (by rfl) (by rfl) (by decide) (by decide)) Yb (by rfl)) (by rfl))) Yb (YR _ _ _ _ _)) (by rfl)) (by decide +kernel) (by rfl) (by rfl) (by decide) (by decide) (by rfl) (by rfl)) (by intro _;rfl)) (@Ye _ _ _ (@Va _ _ _ _ _ _ _ _ PassesOwn.never rfl (@WD _ _ _ _ _ (@XG _ _ _ _ (pv 0)) (@WJ _ _ _ _ (pv 0))) (@YZ _ _ (2) _ Z0Y.nd rfl (.inl rfl) (by first | exact .inl rfl | exact .inr rfl | assumption)) (@Ye _ _ _ (@V4 _ _ _ _ (@UG _ _ _ _ _ _ _ _ _ _ _ _ PySem.F.plainAttrs_list PySem.F.slot_list_extend PySem.F.type_list_extend YcC (pv 1) (@Ya _ _ _ _ _ (@Yt _ _ _ _ _ _ _ _ _ _ _ _ Z1f hr (@Ya _ _ _ _ _ (pv 2) Yb (by rfl)) (by omega) (by rfl) (by rfl) (by decide) (by rfl) (by rfl)) Yb (by rfl)) (by rfl) (by rfl) (by rfl) (by rfl) (by rfl)) (by rfl))) (by intro _;rfl))) Yj) (@Ye _ _ _ (@Yg _ _ _ _ (pv 1)))))),?_⟩
 have h6:100000<sizeLine:=by decide
 refine Uq (fun σ H'=>∃ D,σ=[some v,some (.ref D),none]∧H D=none∧Yf H H'∧H' D=some (.lst (hdL v d))) ?_ ?_
 ·rintro σ H1 ⟨D,rfl,hD,s1,hH⟩
  have ty:=QL (K:=g.K) (hv.keep s1)
  have Pv:∀ (H2:Hp) (s2:Yf H H2) (hH2:H2 D=some (.lst (hdL v d))) (pre:List Addr) (vs:List V) (ds:List PyData) (L0:List Addr),DLs H vs ds L0→PyData.depthAll ds<m→pre.length+L0.length≤100000→L=pre++L0→hdL v d=pre.map V.ref→vs.length≤10000 →
    ∃ Pv:Nat→St→Hp→Prop,Pv 0 [some v,some (V.ref D),none] H2∧(∀ i σ H',Pv i σ H'→Yf H H')∧(∀ i x σ H',vs[i]?=some x→Pv i σ H'→YD 2 x σ H' fun σ2 H2=>QD (tBM g.K "list" Ybc (Wd 1) (WV (UE (Z08 m) [] E0 (WV (Wd 2) Uo)) Uo)) { nx:=Pv (i+1),rt:=Q,bk:=U0 (Wd 1) { nx:=fun x H'=>Q V.non H',rt:=Q },ct:=Pv (i+1) } σ2 H2)∧(∀ σ H',Pv vs.length σ H'→U0 (Wd 1) { nx:=fun x H'=>Q V.non H',rt:=Q } σ H'):=by
   intro H2 s2' hH2 pre vs ds L0 hds hdd hln hL hpre hvl
   refine ⟨fun i σ H'=>∃ o2 L1 L2,σ=[some v,some (.ref D),o2]∧Yf H H'∧H' D=some (.lst ((pre++L1).map V.ref))∧L0=L1++L2∧DLs H (vs.drop i) (ds.drop i) L2,⟨none,[],L0,rfl,s2',by rw [List.append_nil,← hpre];exact hH2,rfl,hds⟩,fun i σ H' ⟨_,_,_,_,s,_⟩=>s,?_,?_⟩
   ·rintro i x σ H' hx ⟨o2,L1,L2,rfl,s2,hd2,rfl,hdr⟩
    obtain ⟨e,Lx,L',he,rfl,hvx,hdr'⟩:=YdY hdr hx
    have hme:=YU (List.mem_of_getElem? he)
    simp only [List.length_append] at hln
    walk_at "rd"
    refine ⟨.inl ⟨rfl,_,SqL.of hd2⟩,x,e,Lx,rfl,hvx.keep s2,by omega,by omega,fun D2 H3 hD2 s3 hd3=>?_⟩
    exact ⟨D,D2,_,_,rfl,rfl,s3 _ _ hd2,hd3,by simp;omega,.upd_over hD (s2.trans s3) _,L1++Lx,by rw [Yh,← List.map_append,List.append_assoc],L',by rw [List.append_assoc],hdr'⟩
   ·rintro σ H' ⟨o2,L1,L2,rfl,s2,hd2,rfl,hdr⟩
    have e1:=hds.length
    rw [List.drop_length,show ds.drop vs.length=[] by rw [e1];exact List.drop_length] at hdr
    cases hdr
    walk_at "rd"
    rw [List.append_nil] at hL
    exact q D H' hD s2 (by rw [hL];exact hd2)
  walk_at "rd"
  refine ⟨by decide,fun p hp=>⟨["list","tuple"],Yh,?_⟩⟩
  have s2:=s1.trans (Yf.upd_new hp (HO.tup [V.ty "list",V.ty "tuple"]))
  have hH2:=(Yf.upd_new hp (HO.tup [V.ty "list",V.ty "tuple"])) _ _ hH
  generalize upd H1 p (HO.tup [V.ty "list",V.ty "tuple"])=H2 at s2 hH2 ⊢
  refine ⟨_,QL (hv.keep s2),_,V2 d,?_⟩
  cases hv with
  | @lst a vs ds L h hl hds =>
   obtain ⟨Pv,p0,ps,p1,p2⟩:=Pv H2 s2 hH2 [a] vs ds L hds (by rw [PyData.depth] at hdp;omega) (by simpa [Nat.add_comm] using hLn) rfl rfl hl
   exact YV rfl (WN (VS (K:=g.K) (a:=a) (xs:=vs) Pv (fun R r=>by walk_at "rd";exact r) p0 (fun i σ H' _ p=>SqL.of ((ps i σ H' p) _ _ h)) p1 p2))
  | @tup a vs ds L h hl hds =>
   obtain ⟨Pv,p0,ps,p1,p2⟩:=Pv H2 s2 hH2 [] vs ds L hds (by rw [PyData.depth] at hdp;omega) (by simpa using hLn) rfl rfl hl
   exact YV rfl (Us (Q9 (K:=g.K) (a:=a) (xs:=vs) Pv (fun R r=>by walk_at "rd";exact r) p0 (fun i σ H' _ p=>SqT.of ((ps i σ H' p) _ _ h)) p1 p2))
  | _=>exact Yv (by simp [Xl,YF]) (q _ _ hD s2 hH2)
 ·intro N hN
  walk_at "rd"
  refine ⟨few (by decide),fun D hD=>?_⟩
  have u:=Yf.upd_new hD (.lst [])
  have ty:=QL (K:=g.K) (hv.keep u)
  cases hv with
  | @lst a vs ds L h hl hds=>exact ⟨_,rfl,_,ty,true,rfl,VQ ⟨.inl ⟨rfl,_,SqL.of Yh⟩,_,Yh,few (by decide),hN _ _ ⟨D,rfl,hD,.upd_over hD u _,Yh⟩⟩⟩
  | _=>exact ⟨_,rfl,_,ty,false,rfl,XR (hN _ _ ⟨D,rfl,hD,u,Yh⟩)⟩
def WA (H:Hp) (a:Addr):Nat:=match H a with
 | some (.lst vs)=>vs.length
 | _=>0
theorem Ybz {H:Hp} {a:Addr} {vs:List V} (h:H a=some (.lst vs)):WA H a=vs.length:=by unfold WA;rw [h]
theorem YaJ {L:List Addr} {i:Nat} {x:V} (h:(L.map V.ref)[i]?=some x):∃ a,L[i]?=some a∧x = .ref a∧a∈L:=by
 rw [List.getElem?_map] at h
 obtain ⟨a,ha,rfl⟩:=Option.map_eq_some_iff.mp h
 exact ⟨a,ha,rfl,List.mem_of_getElem? ha⟩
theorem Qw {K:PySem.W.Frag} {H:Hp} {f:Addr→Int}:∀ (L:List Addr),Dens K H (L.map fun a => .int (f a)) (L.map fun a => .int (f a))
 | [] => .nil
 | a::L => .cons (.int _) (Qw L)
theorem YaK {K:PySem.W.Frag} {H:Hp} {f:Addr→Int} {L:List Addr} {p:Addr} (h:H p=some (.lst (L.map fun a => .int (f a)))):Den K H (.ref p) (.list (L.map fun a => .int (f a))) := .lst (SqL.of h) (Qw L)
theorem Qx {f:Addr→Int}:∀ (L:List Addr),PyData.depthAll (L.map fun a=>PyData.int (f a))≤1
 | []=>by simp [PyData.depthAll]
 | a::L=>by have:=Qx (f:=f) L;simp only [List.map_cons,PyData.depthAll,PyData.depth];omega
theorem Ycf {f:Addr→Int} {L:List Addr}:(PyData.list (L.map fun a=>PyData.int (f a))).depth≤64:=by
 rw [PyData.depth];have:=Qx (f:=f) L;omega
def Z2Q (K:PySem.W.Frag):Sp:=fun vs H Q _=>∃ v d L,vs=[v]∧DL H v d L∧L.Nodup∧d.depth<5∧L.length≤100000∧∀ H',(∀ a o,a∉L→H a=some o→H' a=some o)→Q (.bl true) H'
theorem Ycg {k:Nat} {Z0 Z1:Addr} {c_part_told P_part_told:Addr} (R:g.Raw "_law_own" "_law_own" Z1V ["_law_value"]) (Z1f:g.Fn k "_law_lists" ["_law_value"] (Z08 5)) (b_len:g.mg "len"=none):g.Fn (k+1) "_law_own" ["_law_value"] (Z2Q g.K):=by
 refine R.fn Z0V (fun vs H Q E h=>by obtain ⟨v,d,L,rfl,hv,hnd,hdp,hLn,q⟩:=h;rfl) fun f_ cdv A outer s H vs Q E hr h=>?_
 obtain ⟨v,d,L,rfl,hv,hnd,hdp,hLn,q⟩:=h
 refine ⟨_,(@Yd _ _ _ _ _ (@YJ _ _ (1) _ _ _ _ Z0V.nd rfl (.inl rfl) (@Yt _ _ _ _ _ _ _ _ _ _ _ _ Z1f hr (@Ya _ _ _ _ _ (pv 0) Yb (by rfl)) (by omega) (by rfl) (by rfl) (by decide) (by rfl) (by rfl)) (by rfl) (by first | exact .inl rfl | exact .inr rfl | assumption)) (@Yd _ _ _ _ _ (@V7 _ (2) _ _ _ _ _ _ _ _ _ ([none]) ((["_law_one"]:List Str)) _ (YD 0) _ _ Z0V.nd rfl (.inl rfl) (.own .nil) rfl (@XG _ _ _ _ (pv 1)) (fun cl C s₀ H₀ fp pn=>(@YZ _ _ (0) _ (show List.Nodup (["_law_one"]:List Str) by decide +kernel) rfl (.inl rfl) (.inr rfl))) (fun cl C s₀ H₀ fp pn=>Xw) (fun cl C s₀ H₀ fp pn=>(@Yz _ _ _ _ _ _ _ _ _ _ b_len (VG (K:=g.K)) (@Ya _ _ _ _ _ (pv 0) Yb (by rfl)) (by decide +kernel) (by rfl) (by rfl) (by decide) (by decide) (by rfl) (by rfl))) (by intro x hx;simp at hx) (by rfl) (by decide) (by decide +kernel) (by intro _;rfl) (by rfl) (by first | exact .inl rfl | exact .inr rfl | assumption)) (@Yd _ _ _ _ _ (@Va _ _ _ _ _ _ _ _ PassesOwn.never rfl (@XG _ _ _ _ (pv 1)) (@YZ _ _ (3) _ Z0V.nd rfl (.inl rfl) (by first | exact .inl rfl | exact .inr rfl | assumption)) (@Ye _ _ _ (@V4 _ _ _ _ (@UG _ _ _ _ _ _ _ _ _ _ _ _ PySem.F.plainAttrs_list PySem.F.slot_list_append PySem.F.type_list_append WY (pv 3) (@Ya _ _ _ _ _ XZ Yb (by rfl)) (by rfl) (by rfl) (by rfl) (by rfl) (by rfl)) (by rfl))) (by intro _;rfl)) (@Ye _ _ _ (@Yg _ _ _ _ (@Xs _ _ _ _ _ _ _ _ (Vf hr.units) (@W0 _ _ _ _ _ _ _ ([none]) ((["_law_one"]:List Str)) _ (YD 0) _ _ (.own .nil) rfl (@XG _ _ _ _ (pv 1)) (fun cl C s₀ H₀ fp pn=>(@YZ _ _ (0) _ (show List.Nodup (["_law_one"]:List Str) by decide +kernel) rfl (.inl rfl) (.inr rfl))) (fun cl C s₀ H₀ fp pn=>Xw) (fun cl C s₀ H₀ fp pn=>(@Yz _ _ _ _ _ _ _ _ _ _ b_len (VG (K:=g.K)) (@Ya _ _ _ _ _ (pv 0) Yb (by rfl)) (by decide +kernel) (by rfl) (by rfl) (by decide) (by decide) (by rfl) (by rfl))) (by intro x hx;simp at hx) (by rfl) (by decide) (by decide +kernel) (by intro _;rfl)) (@W0 _ _ _ _ _ _ _ ([none]) ((["_law_size"]:List Str)) _ (YD 0) _ _ (.own .nil) rfl (@XG _ _ _ _ (pv 2)) (fun cl C s₀ H₀ fp pn=>(@YZ _ _ (0) _ (show List.Nodup (["_law_size"]:List Str) by decide +kernel) rfl (.inl rfl) (.inr rfl))) (fun cl C s₀ H₀ fp pn=>Xw) (fun cl C s₀ H₀ fp pn=>(@Ys _ _ _ _ _ _ _ _ VJ (pv 0) Yc)) (by intro x hx;simp at hx) (by rfl) (by decide) (by decide +kernel) (by intro _;rfl)) (Yl _))))))),?_⟩
 have h6:100000<sizeLine:=by decide
 have hm:=hv.mem
 refine Uq (fun σ H'=>∃ D1 D2,σ=[some v,some (.ref D1),some (.ref D2),none]∧Yf H H'∧H D1=none∧H D2=none∧H' D1=some (.lst (L.map V.ref))∧H' D2=some (.lst (L.map fun a => .int (WA H a:Nat)))) ?_ ?_
 ·rintro σ H1 ⟨D1,D2,rfl,s1,n1,n2,h1,h2⟩
  have d1:D1∉L:=fun h=>by obtain ⟨vs,e,_⟩:=hm D1 h;rw [n1] at e;cases e
  have d2:D2∉L:=fun h=>by obtain ⟨vs,e,_⟩:=hm D2 h;rw [n2] at e;cases e
  refine Xo (fun σ H'=>∃ o3,σ=[some v,some (.ref D1),some (.ref D2),o3]∧(∀ a∈L,∃ vs,H a=some (.lst vs)∧H' a=some (.lst (vs++[.non])))∧∀ a o,a∉L→H1 a=some o→H' a=some o) ?_ ?_
  ·rintro σ H2 ⟨o3,rfl,hin,hout⟩
   have k1:=hout _ _ d1 h1
   have k2:=hout _ _ d2 h2
   walk_at "rd"
   refine VT (K:=g.K) (xs:=L.map V.ref) (L.map fun a => .int ((WA H a:Int)+1)) (fun R r=>by walk_at "rd";exact r D1 _ (.refl _) (SqL.of k1)) (by simp) (by rw [List.length_map];omega) ?_ ?_
   ·intro i x y H' hx hy sm R r
    obtain ⟨a,ha,rfl,ham⟩:=YaJ hx
    rw [List.getElem?_map,ha] at hy
    have:V.int ((WA H a:Int)+1)=y:=Option.some.inj hy
    subst this
    obtain ⟨vs,e1,e2⟩:=hin a ham
    walk_at "rd"
    refine ⟨_,.inl (SqL.of (sm _ _ e2)),?_⟩
    rw [Ybz e1] at r
    rw [List.length_append,List.length_singleton,Int.natCast_add]
    exact r H' (.refl _)
   ·intro D3 H3 hD3 s3 h3
    refine VT (K:=g.K) (xs:=L.map fun a => .int (WA H a:Nat)) (L.map fun a => .int ((WA H a:Int)+1)) (fun R r=>by walk_at "rd";exact r D2 _ (.refl _) (SqL.of (s3 _ _ k2))) (by simp) (by rw [List.length_map];omega) ?_ ?_
    ·intro i x y H' hx hy sm R r
     rw [List.getElem?_map] at hx
     obtain ⟨a,ha,rfl⟩:=Option.map_eq_some_iff.mp hx
     rw [List.getElem?_map,ha] at hy
     have:V.int ((WA H a:Int)+1)=y:=Option.some.inj hy
     subst this
     walk_at "rd"
     exact r H' (.refl _)
    ·intro D4 H4 hD4 s4 h4
     have e1:=YaK (K:=g.K) (f:=fun a=>(WA H a:Int)+1) (s4 _ _ h3)
     have e2:=YaK (K:=g.K) (f:=fun a=>(WA H a:Int)+1) h4
     refine ⟨_,e1,_,e2,Ycf,?_⟩
     ·rw [PySem.SeqAt.eqv_refl _ (Den.lay (K:=g.K) e1)]
      exact q _ fun a o ha h=>(s3.trans s4) _ _ (hout a o ha (s1 _ _ h))
  ·intro N hN
   walk_at "rd"
   refine VS (K:=g.K) (a:=D1) (xs:=L.map V.ref) (fun i σ H'=>∃ o3,σ=[some v,some (.ref D1),some (.ref D2),o3]∧(∀ j a,L[j]?=some a→∃ vs,H a=some (.lst vs)∧vs.length≤10000∧H' a=some (.lst (if j<i then vs++[.non] else vs)))∧∀ a o,a∉L→H1 a=some o→H' a=some o) (fun R r=>by walk_at "rd";exact r) ⟨none,rfl,fun j a ha=>?_,fun a o _ h=>h⟩ (fun i σ H' _ ⟨_,_,_,ho⟩=>SqL.of (ho _ _ d1 h1)) ?_ ?_
   ·obtain ⟨vs,e,hl⟩:=hm a (List.mem_of_getElem? ha)
    exact ⟨vs,e,hl,by rw [if_neg (by omega)];exact s1 _ _ e⟩
   ·rintro i x σ H' hx ⟨o3,rfl,hin,hout⟩
    obtain ⟨a,ha,rfl,ham⟩:=YaJ hx
    obtain ⟨vs,e1,e2,e3⟩:=hin i a ha
    rw [if_neg (by omega)] at e3
    walk_at "rd"
    refine ⟨.inl ⟨rfl,_,SqL.of e3⟩,vs,e3,by omega,fun j b hb=>?_,fun b o hb h=>?_⟩
    ·obtain ⟨us,f1,f2,f3⟩:=hin j b hb
     refine ⟨us,f1,f2,?_⟩
     by_cases c:j=i
     ·subst c
      rw [ha] at hb
      cases hb
      rw [e1] at f1
      cases f1
      rw [Yh,if_pos (by omega)]
     ·have hne:b≠a:=fun e=>by
       subst e
       exact c ((List.getElem?_inj (List.getElem?_eq_some_iff.mp hb).1 hnd).mp (hb.trans ha.symm))
      rw [Ym hne,f3]
      by_cases c2:j<i
      ·rw [if_pos c2,if_pos (by omega)]
      ·rw [if_neg c2,if_neg (by omega)]
    ·have hne:b≠a:=fun e=>by subst e;exact hb ham
     rw [Ym hne]
     exact hout b o hb h
   ·rintro σ H' ⟨o3,rfl,hin,hout⟩
    refine hN _ _ ⟨o3,rfl,fun a ha=>?_,hout⟩
    obtain ⟨j,hj⟩:=List.mem_iff_getElem?.mp ha
    obtain ⟨vs,f1,f2,f3⟩:=hin j a hj
    have hjl:=(List.getElem?_eq_some_iff.mp hj).1
    rw [if_pos (by rw [List.length_map];exact hjl)] at f3
    exact ⟨vs,f1,f3⟩
 ·intro N hN
  walk_at "rd"
  refine ⟨v,d,L,rfl,hv,hdp,hLn,fun D1 H1 n1 s1 h1=>?_⟩
  refine VT (K:=g.K) (xs:=L.map V.ref) (L.map fun a => .int (WA H a:Nat)) (fun R r=>by walk_at "rd";exact r D1 _ (.refl _) (SqL.of h1)) (by simp) (by rw [List.length_map];omega) ?_ ?_
  ·intro i x y H' hx hy sm R r
   obtain ⟨a,ha,rfl,ham⟩:=YaJ hx
   rw [List.getElem?_map,ha] at hy
   have:V.int (WA H a:Nat)=y:=Option.some.inj hy
   subst this
   obtain ⟨vs,e1,e2⟩:=hm a ham
   walk_at "rd"
   refine ⟨_,.inl (SqL.of ((s1.trans sm) _ _ e1)),?_⟩
   rw [Ybz e1] at r
   exact r H' (.refl _)
  ·intro D2 H2 hD2 s2 h2
   exact hN _ _ ⟨D1,D2,rfl,s1.trans s2,n1,s1.free hD2,s2 _ _ h1,h2⟩
theorem YeV:PyData.strOk "part"=true:=by decide +kernel
theorem YdZ:PyData.strOk "count"=true:=by decide +kernel
theorem Yfq:PyData.strOk "sum"=true:=by decide +kernel
theorem Yfr:PyData.strOk "not"=true:=by decide +kernel
theorem Ydj:PyData.strOk "turned"=true:=by decide +kernel
theorem YbA:PyData.strOk "both"=true:=by decide +kernel
theorem YeW:PyData.strOk "when"=true:=by decide +kernel
theorem YbB:PyData.strOk "each"=true:=by decide +kernel
theorem Z22:PyData.strOk "joined"=true:=by decide +kernel
theorem YbC:PyData.strOk "plus"=true:=by decide +kernel
theorem YaL:PyData.strOk "times"=true:=by decide +kernel
theorem YbD:PyData.strOk "less"=true:=by decide +kernel
theorem Y0 {α:Type} {mk m:Str} {s:Say} {f:PyData→Option α} (h:take mk s f = .error m) (hk:PyData.strOk mk=true) (hs:∀ m,s = .error m→PyData.strOk m=true):PyData.strOk m=true:=by
 cases s with
 | error m'=>cases h;exact hs _ rfl
 | ok d =>
  simp only [take] at h
  cases e:f d with
  | none=>rw [e] at h;cases h;exact hk
  | some b=>rw [e] at h;cases h
theorem Wc {α β:Type} {s:Except Str α} {f:α→β} {m:Str} (h:s.map f = .error m):s = .error m:=by
 cases s with
 | error m'=>cases h;rfl
 | ok a=>cases h
theorem YaM {mk m:Str} {f:PyData→Say} (hk:PyData.strOk mk=true) (hf:∀ x m,f x = .error m→PyData.strOk m=true):∀ {xs:List PyData},YW mk f xs = .error m→PyData.strOk m=true
 | [],h=>by cases h
 | x::xs,h=>by
  simp only [YW] at h
  split at h
  ·next m' e=>cases h;exact Y0 e hk (hf x)
  ·exact YaM hk hf h
  ·cases h
theorem YO:∀ {t:Tm} {d:PyData} {m:Str},tell t d = .error m→PyData.strOk m=true
 | .num i,d,m,h=>by cases h
 | .here,d,m,h=>by cases h
 | .part t z,d,m,h=>Y0 h YeV fun m e=>YO e
 | .count t,d,m,h=>Y0 (Wc h) YdZ fun m e=>YO e
 | .sum t,d,m,h=>Y0 (Wc h) Yfq fun m e=>YO e
 | .not t,d,m,h=>Y0 (Wc h) Yfr fun m e=>YO e
 | .turned t,d,m,h=>Y0 h Ydj fun m e=>YO e
 | .same a b,d,m,h=>by
  simp only [tell] at h
  split at h
  ·next m' e=>cases h;exact YO e
  ·exact YO (Wc h)
 | .both a b,d,m,h=>by
  simp only [tell] at h
  split at h
  ·next m' e=>cases h;exact Y0 e YbA fun m e=>YO e
  ·cases h
  ·exact Y0 (Wc h) YbA fun m e=>YO e
 | .when a b c,d,m,h=>by
  simp only [tell] at h
  split at h
  ·next m' e=>cases h;exact Y0 e YeW fun m e=>YO e
  ·exact YO h
  ·exact YO h
 | .each a b,d,m,h=>by
  simp only [tell] at h
  split at h
  ·next m' e=>cases h;exact Y0 e YbB fun m e=>YO e
  ·exact YaM YbB (fun x m e=>YO e) h
 | .joined a b,d,m,h=>by
  simp only [tell] at h
  split at h
  ·next m' e=>cases h;exact YO e
  ·exact Y0 h Z22 fun m e=>YO e
  ·exact Y0 h Z22 fun m e=>YO e
  ·cases h;exact Z22
 | .plus a b,d,m,h=>by
  simp only [tell] at h
  split at h
  ·next m' e=>cases h;exact Y0 e YbC fun m e=>YO e
  ·exact Y0 (Wc h) YbC fun m e=>YO e
 | .times a b,d,m,h=>by
  simp only [tell] at h
  split at h
  ·next m' e=>cases h;exact Y0 e YaL fun m e=>YO e
  ·exact Y0 (Wc h) YaL fun m e=>YO e
 | .less a b,d,m,h=>by
  simp only [tell] at h
  split at h
  ·next m' e=>cases h;exact Y0 e YbD fun m e=>YO e
  ·exact Y0 (Wc h) YbD fun m e=>YO e
def OutT (P:Addr) (H:Hp) (Q:VK):Say→Prop
 | .ok e=>∀ a r H0 H' L,Kt H H0→Kt H0 H'→Tb P H'→OwD H0 H' r e L→H' a=some (.tup [.str "said",r])→Q (.ref a) H'
 | .error mk=>∀ a H',Kt H H'→Tb P H'→H' a=some (.tup [.str "astray",.str mk])→Q (.ref a) H'
def YaN (P C:Addr):Sp:=fun vs H Q _=>∃ v th t d,vs=[v,th]∧Ask P H 8 t v d th∧OutT P H Q (tell t d)
theorem Ya1 {k:Nat} {Z0 Z1:Addr} {c_part_told P_part_told:Addr} (R:g.Raw "_law_told" "_law_told" Z1m ["_law_term_here","_law_thing_here"]) (F_said:g.FnX k "said" ["term","thing"] (Yby P_part_told Z1)) (xn_Astray_mark:PySem.W.findIn g.K (.ref Z1) "mark"=some none) (Z0a:g.mg "ValueError"=none) (Z2:g.mg "isinstance"=none) (x_Astray:g.mg "Astray"=some (.ref Z1)) (x_CountError:g.mg "CountError"=some (.ref Z0)) (t_Astray:ExcT g.K Z1) (i_Astray_CountError:PySem.W.kitOne g.K (.ref Z1) (.ref Z0)=some true) (i_Astray_ValueError:PySem.W.kitOne g.K (.ref Z1) (.type "ValueError")=some true) (m_Astray_Astray:PySem.W.exmOne g.K (.ref Z1) (.ref Z1)=some true):g.Fn (k+1) "_law_told" ["_law_term_here","_law_thing_here"] (YaN P_part_told Z1):=by
 refine R.fn Z0t (fun vs H Q E h=>by obtain ⟨v,th,t,d,rfl,hA,q⟩:=h;rfl) fun f_ cdv A outer s H vs Q E hr h=>?_
 obtain ⟨v,th,t,d,rfl,hA,q⟩:=h
 refine ⟨_,(@Yd _ _ _ _ _ (@YJ _ _ (2) _ _ _ _ Z0t.nd rfl (.inl rfl) XZ (by rfl) (by first | exact .inl rfl | exact .inr rfl | assumption)) (@Yd _ _ _ _ _ (@YJ _ _ (3) _ _ _ _ Z0t.nd rfl (.inl rfl) XZ (by rfl) (by first | exact .inl rfl | exact .inr rfl | assumption)) (@Yd _ _ _ _ _ (@Ydz _ _ _ _ (3) (4) _ _ _ _ _ _ _ _ _ _ _ _ _ _ _ _ _ _ _ _ F_said hr Z0t.nd rfl (.inl rfl) rfl rfl (@Ya _ _ _ _ _ (pv 0) (@Ya _ _ _ _ _ (pv 1) Yb (by rfl)) (by rfl)) x_Astray (fun _=>(@Ye _ _ _ (@YJ _ _ (2) _ _ _ _ Z0t.nd rfl (.inl rfl) (pv 4) (by rfl) (by first | exact .inl rfl | exact .inr rfl | assumption)))) (by omega) (by rfl) (by rfl) (by rfl) (by rfl) (by rfl) (by decide) (by decide) (by rfl) (by rfl) (by rfl) (by first | exact .inl rfl | exact .inr rfl)) (@Yd _ _ _ _ _ (@Yo _ _ _ _ _ _ _ _ (@Yk _ _ _ _ _ _ _ _ QW (pv 2) XZ (Yl _)) (@Ye _ _ _ (@Yg _ _ _ _ (@Yp _ _ _ _ _ (@Ya _ _ _ _ _ Yi (@Ya _ _ _ _ _ (pv 3) Yb (by rfl)) (by rfl))))) Yj) (@Yd _ _ _ _ _ (@Yo _ _ _ _ _ _ _ _ (@XW _ _ _ _ _ _ _ (@X0 _ _ _ _ (@Y1 _ _ _ (@Yz _ _ _ _ _ _ _ _ _ _ Z2 (VI (K:=g.K) t_Astray) (@Ya _ _ _ _ _ (pv 2) (@Ya _ _ _ _ _ (@YcP _ _ _ _ _ x_CountError (by rfl) (by rfl) (by decide)) Yb (by rfl)) (by rfl)) (by decide +kernel) (by rfl) (by rfl) (by decide) (by decide) (by rfl) (by rfl)) (by intro _;rfl))) (@XI _ _ _ _ (@X0 _ _ _ _ (@Y1 _ _ _ (@Yz _ _ _ _ _ _ _ _ _ _ Z2 (VI (K:=g.K) t_Astray) (@Ya _ _ _ _ _ (pv 2) (@Ya _ _ _ _ _ (@YG _ _ _ _ ("ValueError") Z0a (by decide +kernel) (by rfl) (by rfl) (by decide) (by decide)) Yb (by rfl)) (by rfl)) (by decide +kernel) (by rfl) (by rfl) (by decide) (by decide) (by rfl) (by rfl)) (by intro _;rfl))))).pt (@Ye _ _ _ (@Yg _ _ _ _ (@Yp _ _ _ _ _ (@Ya _ _ _ _ _ Yi (@Ya _ _ _ _ _ (pv 2) Yb (by rfl)) (by rfl))))) Yj) (@Ye _ _ _ (@Yg _ _ _ _ (@Yp _ _ _ _ _ (@Ya _ _ _ _ _ Yi (@Ya _ _ _ _ _ (@pe_fx _ _ _ _ _ _ _ t_Astray xn_Astray_mark (pv 2) (by rfl) (by rfl)) Yb (by rfl)) (by rfl)))))))))),?_⟩
 walk_at "rd"
 refine ⟨v,th,t,d,rfl,hA,?_⟩
 cases e:tell t d with
 | ok x =>
  rw [e] at q
  intro r H0 H1 L k0 s1 b1 ow
  refine ⟨by decide,fun p hp=>?_⟩
  have s2:=Yf.upd_new hp (HO.tup [V.str (Str.ofString "said"),r])
  exact q p r H0 _ L k0 (Y5 (s1.trans s2)) (b1.keep s2) ⟨ow.vl.keep s2,ow.nd,ow.new⟩ Yh
 | error mk =>
  rw [e] at q
  intro H1 dd k1 b1 hd
  refine ⟨m_Astray_Astray,fun a ha=>Yv (by intro z;cases z) ?_⟩
  have n1:dd≠a:=fun z=>by
   rw [← z,Yh] at ha
   cases ha
  have s2:=Yf.upd_new hd (X6 dd [("mark",.str mk)])
  have s3:=Yf.upd_new ha (W6 a (.ref Z1) (some dd))
  refine ⟨_,rfl,true,_,Yh,i_Astray_CountError,Yv (by decide) ⟨_,rfl,true,_,Yh,i_Astray_ValueError,Yv (by decide) ?_⟩⟩
  refine ⟨_,rfl,a,dd,_,_,rfl,Yh,(Ym n1).trans Yh,rfl,by decide,fun p hp=>?_⟩
  have s4:=(s2.trans s3).trans (Yf.upd_new hp (HO.tup [V.str (Str.ofString "astray"),V.str mk]))
  exact q p _ (k1.trans (Y5 s4)) (b1.keep s4) Yh
theorem Ych {src:List (Option Nat)} {te:TE} {σ:St} {H:Hp} {Q:VK} {ta:TA} (P0:Nat→Hp→Prop) (I:Nat→Hp→Addr→Nat→List V→Hp→Prop) (ha:∀ R:List V→Hp→Prop,(∀ (n:Nat) H1,P0 n H1→R [.int n] H1)→ta σ H R) (hlen:∀ n H1,P0 n H1→n≤100000)
  (i0:∀ n H1 D,P0 n H1→H1 D=none→I n H1 D 0 [] (upd H1 D (.lst []))) (dl:∀ n H1 D i zs H',I n H1 D i zs H'→zs.length=i∧H' D=some (.lst zs))
  (step:∀ n H1 D (i:Nat) zs H',P0 n H1→H1 D=none→i<n→I n H1 D i zs H'→∀ R:VK,(∀ y H'',H'' D=some (.lst zs)→I n H1 D (i+1) (zs++[y]) (upd H'' D (.lst (zs++[y])))→R y H'')→te (some (.int i)::YN src σ) H' R)
  (fin:∀ n H1 D zs H',P0 n H1→H1 D=none→I n H1 D n zs H'→Q (.ref D) H'):tLC (none::src) (UB ta) (YD 0) XN te σ H Q:=by
 have h6:100000<sizeLine:=by decide
 refine ha _ fun n H1 hp=>⟨n,rfl,by have:=hlen n H1 hp;omega,by have:=hlen n H1 hp;omega,fun D hD=>?_⟩
 have hln:=hlen n H1 hp
 refine QI (W5 (lo:=0) (n:=n) (P:=fun _=>True)) (fun i zs σ' H'=>(∃ o,σ'=o::YN src σ)∧i≤n∧I n H1 D i zs H') ⟨⟨none,rfl⟩,Nat.zero_le _,i0 n H1 D hp hD⟩ (fun i zs σ' H' q=>⟨trivial,(dl _ _ _ _ _ _ q.2.2).2⟩) (WB 0) ?_ ?_
 ·rintro i zs σ' H' x hx ⟨⟨o,rfl⟩,_,hI⟩
  have hi:i<n:=by have:=(List.getElem?_eq_some_iff.mp hx).1;simpa using this
  rw [List.getElem?_map,List.getElem?_range hi] at hx
  have e:V.int (0+(i:Int))=x:=Option.some.inj hx
  rw [Int.zero_add] at e
  subst e
  have hl:=(dl _ _ _ _ _ _ hI).1
  show te (some (.int i)::YN src σ) H' _
  exact step n H1 D i zs H' hp hD hi hI _ fun y H'' hd hI'=>⟨hd,by omega,⟨_,rfl⟩,hi,hI'⟩
 ·rintro zs σ' H' ⟨_,_,hI⟩
  exact fin n H1 D zs H' hp hD (by simpa using hI)
theorem tb_hd {P c:Addr} {H:Hp} (h:Tb P H) (hc:Cs H c):Tb P (hd c H):=by
 obtain ⟨ms,hm,_⟩:=hc
 rcases h with h | ⟨x,h,h1⟩
 ·exact .inl (by rw [Xr (Wp h hm (by intro z;cases z))];exact h)
 ·exact .inr ⟨x,by rw [Xr (Wp h hm (by intro z;cases z))];exact h,by rw [Xr (Wp h1 hm (by intro z;cases z))];exact h1⟩
theorem Tb.but {P:Addr} {H H':Hp} {v:V} {e:PyData} {L:List Addr} (h:Tb P H) (hv:DL H v e L) (hk:∀ a o,a∉L→H a=some o→H' a=some o):Tb P H':=by
 have no:∀ {a:Addr} {o:HO},H a=some o→(∀ vs,o ≠ .lst vs)→a∉L:=fun e n hm=>by
  obtain ⟨vs,z,_⟩:=hv.mem _ hm
  rw [z] at e
  exact n _ (Option.some.inj e).symm
 rcases h with h | ⟨x,h,h1⟩
 ·exact .inl (hk _ _ (no h fun vs z=>by cases z) h)
 ·exact .inr ⟨x,hk _ _ (no h fun vs z=>by cases z) h,hk _ _ (no h1 fun vs z=>by cases z) h1⟩
theorem Yd0 {k:Nat} {Z0 Z1:Addr} {c_part_told P_part_told:Addr} (ZY:g.Fn k "_law_take" ["_law_cells","_law_many"] (Z14)) (Z0P:g.Fn k "_law_thing" ["_law_cells","_law_left"] (Z1p 4)) (Z6:g.Fn k "_law_term" ["_law_cells","_law_wish","_law_left"] (Xx 7)) (Z0u:g.Fn k "_law_alike" ["_law_one","_law_other"] (Z10 5)) (Z21:g.Fn k "_law_due" ["_law_term_here","_law_thing_here"] (UZ P_part_told 8)) (F_law_own:g.Fn k "_law_own" ["_law_value"] (Z2Q g.K)) (F_law_told:g.Fn k "_law_told" ["_law_term_here","_law_thing_here"] (YaN P_part_told Z1)) (b_list:g.mg "list"=none) (Zd:g.mg "range"=none) (b_repr:g.mg "repr"=none):Q5 g k ["_law_script","_law_cells","_law_thing_here","_law_kept","_law_term_here","_law_due_here","_law_turn","_law_found"] "law" QN (V8 g.K [("part_told",c_part_told,P_part_told)]):=by
 refine fun f_ cdv A outer s H vs Q E hr h=>?_
 obtain ⟨a,ns,rfl,hS,hl,ht,hQ⟩:=h
 refine ⟨_,(@Yd _ _ _ _ _ (@YJ _ _ (1) _ _ _ _ Wi.nd rfl (.inr rfl) (@UL _ _ _ _ _ _ _ _ _ _ b_list Q1 (@Ya _ _ _ _ _ (@Ydp _ _ _ _ _ _ _ _ _ _ Yem (pv 0) Yei (@Yej _ _ _ Yc)) Yb (by rfl)) (by decide +kernel) (by rfl) (by rfl) (by decide) (by decide) (by rfl) (by rfl)) (by rfl) (by first | exact .inl rfl | exact .inr rfl | assumption)) (@Yd _ _ _ _ _ (@V7 _ (2) _ _ _ _ _ _ _ _ _ ([none,some 1]) ((["_law_k","_law_cells"]:List Str)) _ (YD 0) _ _ Wi.nd rfl (.inl rfl) (.own (.cap (i:=1) rfl rfl (by first | exact .inl rfl | exact .inr rfl) .nil)) rfl (@Ws _ _ _ _ _ _ rfl Zd (@Ya _ _ _ _ _ (@Yt _ _ _ _ _ _ _ _ _ _ _ _ ZY hr (@Ya _ _ _ _ _ (pv 1) (@Ya _ _ _ _ _ Yc Yb (by rfl)) (by rfl)) (by omega) (by rfl) (by rfl) (by decide) (by rfl) (by rfl)) Yb (by rfl)) (by rfl)) (fun cl C s₀ H₀ fp pn=>(@YZ _ _ (0) _ (show List.Nodup (["_law_k","_law_cells"]:List Str) by decide +kernel) rfl (.inl rfl) (.inr rfl))) (fun cl C s₀ H₀ fp pn=>Xw) (fun cl C s₀ H₀ fp pn=>(@Yt _ _ _ _ _ _ _ _ _ _ _ _ Z0P hr (@Ya _ _ _ _ _ (pv 1) (@Ya _ _ _ _ _ Yc Yb (by rfl)) (by rfl)) (by omega) (by rfl) (by rfl) (by decide) (by rfl) (by rfl))) (by intro x hx;simp at hx;first | (subst hx;exact .inl rfl) | (rcases hx with rfl | rfl<;>exact .inl rfl) | (rcases hx with rfl | rfl | rfl<;>exact .inl rfl) | (rcases hx with rfl | rfl | rfl | rfl<;>exact .inl rfl) | (rcases hx with rfl | rfl | rfl | rfl | rfl<;>exact .inl rfl)) (by rfl) (by decide) (by decide +kernel) (by intro _;rfl) (by rfl) (by first | exact .inl rfl | exact .inr rfl | assumption)) (@Yd _ _ _ _ _ (@Yo _ _ _ _ _ _ _ _ (@Yk _ _ _ _ _ _ _ _ Yq (@Yt _ _ _ _ _ _ _ _ _ _ _ _ ZY hr (@Ya _ _ _ _ _ (pv 1) (@Ya _ _ _ _ _ Yc Yb (by rfl)) (by rfl)) (by omega) (by rfl) (by rfl) (by decide) (by rfl) (by rfl)) Yc (Yl _)) (@Ye _ _ _ (@YJ _ _ (2) _ _ _ _ Wi.nd rfl (.inl rfl) (@Yt _ _ _ _ _ _ _ _ _ _ _ _ Z0P hr (@Ya _ _ _ _ _ (pv 1) (@Ya _ _ _ _ _ Yc Yb (by rfl)) (by rfl)) (by omega) (by rfl) (by rfl) (by decide) (by rfl) (by rfl)) (by rfl) (by first | exact .inl rfl | exact .inr rfl | assumption))) Yj) (@Yd _ _ _ _ _ (@YJ _ _ (3) _ _ _ _ Wi.nd rfl (.inl rfl) (@Yz _ _ _ _ _ _ _ _ _ _ b_repr (VC (K:=g.K) hr) (@Ya _ _ _ _ _ (pv 2) Yb (by rfl)) (by decide +kernel) (by rfl) (by rfl) (by decide) (by decide) (by rfl) (by rfl)) (by rfl) (by first | exact .inl rfl | exact .inr rfl | assumption)) (@Yd _ _ _ _ _ (@YJ _ _ (4) _ _ _ _ Wi.nd rfl (.inl rfl) (@Yt _ _ _ _ _ _ _ _ _ _ _ _ Z6 hr (@Ya _ _ _ _ _ (pv 1) (@Ya _ _ _ _ _ Yc (@Ya _ _ _ _ _ Yc Yb (by rfl)) (by rfl)) (by rfl)) (by omega) (by rfl) (by rfl) (by decide) (by rfl) (by rfl)) (by rfl) (by first | exact .inl rfl | exact .inr rfl | assumption)) (@Yd _ _ _ _ _ (@YJ _ _ (5) _ _ _ _ Wi.nd rfl (.inl rfl) (@Yt _ _ _ _ _ _ _ _ _ _ _ _ Z21 hr (@Ya _ _ _ _ _ (pv 4) (@Ya _ _ _ _ _ (pv 2) Yb (by rfl)) (by rfl)) (by omega) (by rfl) (by rfl) (by decide) (by rfl) (by rfl)) (by rfl) (by first | exact .inl rfl | exact .inr rfl | assumption)) (@Yd _ _ _ _ _ (@Va _ _ _ _ _ _ _ _ PassesOwn.never rfl (@Ws _ _ _ _ _ _ rfl Zd (@Ya _ _ _ _ _ Yc Yb (by rfl)) (by rfl)) (@YZ _ _ (6) _ Wi.nd rfl (.inl rfl) (by first | exact .inl rfl | exact .inr rfl | assumption)) (@Yd _ _ _ _ _ (@YJ _ _ (7) _ _ _ _ Wi.nd rfl (.inl rfl) (@Yt _ _ _ _ _ _ _ _ _ _ _ _ F_law_told hr (@Ya _ _ _ _ _ (pv 4) (@Ya _ _ _ _ _ (pv 2) Yb (by rfl)) (by rfl)) (by omega) (by rfl) (by rfl) (by decide) (by rfl) (by rfl)) (by rfl) (by first | exact .inl rfl | exact .inr rfl | assumption)) (@Yd _ _ _ _ _ (@Yo _ _ _ _ _ _ _ _ (@XW _ _ _ _ _ _ _ (@Yk _ _ _ _ _ _ _ _ V5 (@Yy _ _ _ _ _ _ _ Yw (pv 7) Yc (fun _ _=>rfl)) (@Yy _ _ _ _ _ _ _ Yw (pv 5) Yc (fun _ _=>rfl)) (Yl _)) (@XW _ _ _ _ _ _ _ (@X0 _ _ _ _ (@Y1 _ _ _ (@Yt _ _ _ _ _ _ _ _ _ _ _ _ Z0u hr (@Ya _ _ _ _ _ (@Yy _ _ _ _ _ _ _ Yw (pv 7) Yc (fun _ _=>rfl)) (@Ya _ _ _ _ _ (@Yy _ _ _ _ _ _ _ Yw (pv 5) Yc (fun _ _=>rfl)) Yb (by rfl)) (by rfl)) (by omega) (by rfl) (by rfl) (by decide) (by rfl) (by rfl)) (by intro _;rfl))) (@XI _ _ _ _ (@Yk _ _ _ _ _ _ _ _ V5 (@Yz _ _ _ _ _ _ _ _ _ _ b_repr (VC (K:=g.K) hr) (@Ya _ _ _ _ _ (pv 2) Yb (by rfl)) (by decide +kernel) (by rfl) (by rfl) (by decide) (by decide) (by rfl) (by rfl)) (pv 3) (Yl _))))).pt (@Ye _ _ _ (@Yg _ _ _ _ We)) Yj) (@Ye _ _ _ (@Yo _ _ _ _ _ _ _ _ (@Wf _ _ _ _ _ _ _ (@Yk _ _ _ _ _ _ _ _ Yq (@Yy _ _ _ _ _ _ _ Yw (pv 7) Yc (fun _ _=>rfl)) Yi (Yl _)) (@XV _ _ _ _ (@X0 _ _ _ _ (@Y1 _ _ _ (@Yt _ _ _ _ _ _ _ _ _ _ _ _ F_law_own hr (@Ya _ _ _ _ _ (@Yy _ _ _ _ _ _ _ Yw (pv 7) Yc (fun _ _=>rfl)) Yb (by rfl)) (by omega) (by rfl) (by rfl) (by decide) (by rfl) (by rfl)) (by intro _;rfl))))).pt (@Ye _ _ _ (@Yg _ _ _ _ We)) Yj)))) (by intro _;rfl)) (@Ye _ _ _ (@Yg _ _ _ _ (@Xs _ _ _ _ _ _ _ _ Yq (@Yz _ _ _ _ _ _ _ _ _ _ b_repr (VC (K:=g.K) hr) (@Ya _ _ _ _ _ (pv 2) Yb (by rfl)) (by decide +kernel) (by rfl) (by rfl) (by decide) (by decide) (by rfl) (by rfl)) (pv 3) (Yl _))))))))))),?_⟩
 have hTb:Tb P_part_told H := .inl (ht _ (.head _))
 refine Xo (fun σ H'=>∃ c,σ=[some (.ref a),some (.ref c),none,none,none,none,none,none]∧Yf H H'∧Cs H' c) ?_ ?_
 rotate_left
 ·intro N hN
  walk_at "rd"
  refine ⟨_,hS,fun p hp=>⟨_,.inl (SqL.of Yh),fun l hl'=>hN _ _ ⟨l,rfl,(Yf.upd_new hp _).trans (.upd_new hl' _),(ns.take 63),?_,by rw [List.length_take];omega⟩⟩⟩
  rw [Yh]
  have e1:=Yes (ns.map V.int) 63
  rw [List.map_take]
  exact congrArg (fun z=>some (HO.lst z)) e1
 rintro σ H1 ⟨c,rfl,s1,c1⟩
 have b1:=tb_hd (hTb.keep s1) c1
 refine Xo (fun σ H'=>∃ v d L,σ=[some (.ref a),some (.ref c),some v,none,none,none,none,none]∧Yf (hd c H1) (hd c H')∧Cs H' c∧DL (hd c H') v d L∧L2.hb d∧d.depth≤3∧Shw 3 d) ?_ ?_
 rotate_left
 ·intro N hN
  walk_at "rd"
  refine Ych (fun n H'=>n<5∧Yf (hd c H1) (hd c H')∧Cs H' c) (fun n H'=>Uy c 2 H') (fun R r=>?_) (fun n H' h=>by omega) (fun n H' D h hD => .start h.2.2 hD) (fun n H' D i zs H'' h=>⟨h.1,h.2.1⟩) ?_ ?_
  ·walk_at "rd"
   exact ⟨c,5,rfl,c1,by decide,fun z H' s' c' hz=>r z H' ⟨by omega,s',c'⟩⟩
  ·intro n H1' D i zs H' hp hD hi hI R rr
   walk_at "rd"
   refine ⟨c,2,rfl,by decide,hI.2.2.2.1,fun v d L' H'' s2 c2 ow hb' hd' hs'=>?_⟩
   obtain ⟨p1,p2⟩:=hI.put hD s2 c2 ow hb' hd' hs'
   exact rr v H'' p1 p2
  ·intro n H1' D zs H' hp hD hI
   obtain ⟨h1,h2,h3,h4,h5,ds,L,h6,h7,h8⟩:=hI
   have hl:=h6.vl.length
   have hdp:PyData.depthAll ds≤2:=X1 fun d hd=>(h8 d hd).2.1
   have hsw:=Yaj (ds:=ds) (n:=2) (by omega) fun d hd=>(h8 d hd).2.2
   exact hN _ _ ⟨.ref D,.list ds,D::L,rfl,hp.2.1.trans h5,h4,.lst (by rw [Xr h3];exact h2) (by omega) h6.vl,⟨by omega,VZ fun d hd=>(h8 d hd).1⟩,by simp only [PyData.depth];omega,hsw.1⟩
 rintro σ H2 ⟨v,d,L,rfl,s2,c2,hv,hb,hdp,hsw⟩
 refine Xo (fun σ H'=>∃ v d L,σ=[some (.ref a),some (.ref c),some v,none,none,none,none,none]∧Yf (hd c H2) (hd c H')∧Cs H' c∧DL (hd c H') v d L∧L2.hb d∧d.depth≤3∧Shw 3 d) ?_ ?_
 rotate_left
 ·intro N hN
  walk_at "rd"
  refine ⟨c,3,rfl,c2,by decide,fun z H' s' c' hz=>⟨rfl,YB (fun _=>?_) fun _=>hN _ _ ⟨v,d,L,rfl,s',c',hv.keep s',hb,hdp,hsw⟩⟩⟩
  exact ⟨c,3,rfl,by decide,c',fun v d L H'' s'' c'' ow hb' hd' hs'=>hN _ _ ⟨v,d,L,rfl,s'.trans s'',c'',ow.vl,hb',hd',hs'⟩⟩
 rintro σ H3 ⟨v,d,L,rfl,s3,c3,hv,hb,hdp,hsw⟩
 have shn:d.shown.length≤sizeLine:=Nat.le_trans hsw.len (few (by decide))
 refine Xo (fun σ H'=>σ=[some (.ref a),some (.ref c),some v,some (.str d.shown),none,none,none,none]∧H'=H3) ?_ ?_
 rotate_left
 ·intro N hN
  walk_at "rd"
  exact ⟨d,(hv.keep Ud).den,hsw.ok,by omega,shn,hN _ _ ⟨rfl,rfl⟩⟩
 rintro σ H3' ⟨rfl,e⟩
 subst e
 refine Xo (fun σ H'=>∃ u t,σ=[some (.ref a),some (.ref c),some v,some (.str d.shown),some u,none,none,none]∧Yf (hd c H3') (hd c H')∧Yr (hd c H') t u∧t.ok∧t.dep≤7) ?_ ?_
 rotate_left
 ·intro N hN
  walk_at "rd"
  exact ⟨c,3,6,rfl,by decide,by decide,c3,fun u t H' s' c' htm ho hdp'=>hN _ _ ⟨u,t,rfl,s',htm,ho,hdp'⟩⟩
 rintro σ H4 ⟨u,t,rfl,s4,ht4,hok,htd⟩
 have b4:Tb P_part_told H4:=(b1.keep (s2.trans (s3.trans s4))).keep Ud
 have dv4:DV H4 v d:=⟨L,(hv.keep s4).keep Ud⟩
 have tm4:Yr H4 t u:=ht4.keep (Y5 Ud)
 have ask:∀ {H':Hp},Kt H4 H'→Tb P_part_told H'→Ask P_part_told H' 8 t u d v:=fun k b=>⟨tm4.keep k,hok,by omega,dv4.kt k,⟨0,UV hb,by omega⟩,by omega,b⟩
 refine Xo (fun σ H'=>∃ r,σ=[some (.ref a),some (.ref c),some v,some (.str d.shown),some u,some r,none,none]∧Yf H4 H'∧RA H' r (tell t d)) ?_ ?_
 rotate_left
 ·intro N hN
  walk_at "rd"
  exact ⟨u,v,t,d,rfl,ask (.refl _) b4,fun r H' s' hr=>hN _ _ ⟨r,rfl,s',hr⟩⟩
 rintro σ H5 ⟨r,rfl,s5,hr⟩
 have den:∀ {H':Hp},Kt H5 H'→Den g.K H' v d:=fun k=>(dv4.kt ((Y5 s5).trans k)).den
 refine Xo (fun σ H'=>∃ o1 o2,σ=[some (.ref a),some (.ref c),some v,some (.str d.shown),some u,some r,o1,o2]∧Kt H5 H'∧Tb P_part_told H') ?_ ?_
 rotate_left
 ·intro N hN
  walk_at "rd"
  refine YaR (n:=2) (fun j σ H'=>∃ o1 o2,σ=[some (.ref a),some (.ref c),some v,some (.str d.shown),some u,some r,o1,o2]∧Kt H5 H'∧Tb P_part_told H') (fun R r=>r) (by decide) ⟨none,none,rfl,.refl _,b4.keep s5⟩ (fun j σ H' hj z=>?_) fun σ H' z=>hN _ _ z
  obtain ⟨o1,o2,rfl,k,b⟩:=z
  walk_at "rd"
  refine ⟨u,v,t,d,rfl,ask ((Y5 s5).trans k) b,?_⟩
  have hd3:d.depth≤3:=hdp
  cases e:tell t d with
  | error mk =>
   rw [e] at hr
   obtain ⟨ra,rfl,hra⟩:=hr
   have okm:=YO e
   intro f H6 k6 b6 hf
   have hra6:=(k.trans k6).tup hra
   refine ⟨f,rfl,_,SqT.of hf,_,rfl,ra,rfl,_,SqT.of hra6,_,rfl,XD _ _,Yv (by simp) ⟨f,rfl,_,SqT.of hf,_,rfl,ra,rfl,_,SqT.of hra6,_,rfl,_,_,.str mk,.str mk,rfl,⟨[],.str _ okm⟩,⟨[],.str _ okm⟩,by simp [PyData.depth],by simp [PyData.depth],fun H7 s7=>⟨_,rfl,?_⟩⟩⟩
   rw [XM]
   have k7:=(k.trans k6).trans (Y5 s7)
   refine Yv (by decide) ⟨d,den k7,hsw.ok,by omega,shn,Yv (by simp) ?_⟩
   exact ⟨f,rfl,_,SqT.of (s7 _ _ hf),_,rfl,XD _ _,Yv (by intro z;cases z) ⟨k7,b6.keep s7⟩⟩
  | ok x =>
   rw [e] at hr
   obtain ⟨ra,w,rfl,hra,hw⟩:=hr
   intro f rr H0 H6 L6 k0 k6 b6 ow hf
   have kk:=k.trans (k0.trans k6)
   have hra6:=kk.tup hra
   have hdx:x.depth≤3:=by
    have:=(Y2 hok (UV hb) e).2
    omega
   refine ⟨f,rfl,_,SqT.of hf,_,rfl,ra,rfl,_,SqT.of hra6,_,rfl,XD _ _,Yv (by simp) ⟨f,rfl,_,SqT.of hf,_,rfl,ra,rfl,_,SqT.of hra6,_,rfl,_,_,x,x,rfl,⟨_,ow.vl⟩,hw.kt kk,by omega,by omega,fun H7 s7=>⟨_,rfl,?_⟩⟩⟩
   rw [XM]
   have k7:=kk.trans (Y5 s7)
   refine Yv (by decide) ⟨d,den k7,hsw.ok,by omega,shn,Yv (by simp) ?_⟩
   have vl7:=ow.vl.keep s7
   have hcn:L6.length≤100000:=by
    rw [ow.vl.cnt]
    have h1:=X7 e
    have h2:cnt d*2^t.dep≤21*2^7:=Nat.mul_le_mul hsw.cn (VB htd)
    omega
   refine ⟨f,rfl,_,SqT.of (s7 _ _ hf),_,rfl,XD _ _,YV rfl ⟨f,rfl,_,SqT.of (s7 _ _ hf),_,rfl,rr,x,L6,rfl,vl7,ow.nd,by omega,hcn,fun H8 h8=>⟨_,rfl,Yv (by decide) ⟨fun z o n h=>?_,(b6.keep s7).but vl7 h8⟩⟩⟩⟩
   have h0:H0 z=some o:=(k.trans k0) z o n h
   exact h8 z o (fun hm=>by rw [ow.new z hm] at h0;cases h0) (k7 z o n h)
 rintro σ H6 ⟨o1,o2,rfl,k6,b6⟩
 walk_at "rd"
 refine ⟨d,den k6,hsw.ok,by omega,shn,?_⟩
 rw [decide_eq_true rfl]
 exact hQ _
theorem us1 {α:Type} {us:List α} (h:us.length=1):∃ a0,us=[a0]:=by
 match us,h with
 | [a0],_=>exact ⟨_,rfl⟩
theorem us2 {α:Type} {us:List α} (h:us.length=2):∃ a0 a1,us=[a0,a1]:=by
 match us,h with
 | [a0,a1],_=>exact ⟨_,_,rfl⟩
theorem us3 {α:Type} {us:List α} (h:us.length=3):∃ a0 a1 a2,us=[a0,a1,a2]:=by
 match us,h with
 | [a0,a1,a2],_=>exact ⟨_,_,_,rfl⟩
theorem us4 {α:Type} {us:List α} (h:us.length=4):∃ a0 a1 a2 a3,us=[a0,a1,a2,a3]:=by
 match us,h with
 | [a0,a1,a2,a3],_=>exact ⟨_,_,_,_,rfl⟩
theorem us5 {α:Type} {us:List α} (h:us.length=5):∃ a0 a1 a2 a3 a4,us=[a0,a1,a2,a3,a4]:=by
 match us,h with
 | [a0,a1,a2,a3,a4],_=>exact ⟨_,_,_,_,_,rfl⟩
structure Top (K:PySem.W.Frag) (mg:Str→Option Value) (Z0:Addr) (Z1:Addr) (c_part_told P_part_told:Addr):Prop where
 Z0q:∀ P w base,(Gx.mk P w K mg base).Raw "is_whole_number" "is_whole_number" Z0m ["thing"]
 Z1r:∀ P w base,(Gx.mk P w K mg base).Raw "is_truth" "is_truth" Z1i ["thing"]
 Z23:∀ P w base,(Gx.mk P w K mg base).Raw "is_text" "is_text" Z1N ["thing"]
 Z24:∀ P w base,(Gx.mk P w K mg base).Raw "is_list" "is_list" Z1O ["thing"]
 Z0b:∀ P w base,(Gx.mk P w K mg base).Raw "is_list_or_tuple" "is_list_or_tuple" Z04 ["thing"]
 Z0r:∀ P w base,(Gx.mk P w K mg base).Raw "is_list_or_text" "is_list_or_text" Z0n ["thing"]
 ZQ:∀ P w base,(Gx.mk P w K mg base).Raw "is_list_tuple_or_text" "is_list_tuple_or_text" ZP ["thing"]
 Z02:∀ P w base,(Gx.mk P w K mg base).Raw "are_whole_numbers" "are_whole_numbers" Z01 ["thing"]
 Z0w:∀ P w base,(Gx.mk P w K mg base).Raw "same_each" "same_each" Z15 ["one","other"]
 f_same:∀ P w base,(Gx.mk P w K mg base).Raw "same" "same" Yak ["one","other"]
 Z00:∀ P w base,(Gx.mk P w K mg base).Raw "taken" "taken" Qa ["mark","term","thing","can_take"]
 Zv:∀ P w base,(Gx.mk P w K mg base).RawT "part_told" "part_told" Z0s ["body","thing"] c_part_told
 Zf:∀ P w base,(Gx.mk P w K mg base).Raw "numbers_told" "numbers_told" Z0M ["mark","body","thing"]
 Zw:∀ P w base,(Gx.mk P w K mg base).Raw "same_told" "same_told" Z16 ["body","thing"]
 Zx:∀ P w base,(Gx.mk P w K mg base).Raw "both_told" "both_told" Z17 ["body","thing"]
 Zy:∀ P w base,(Gx.mk P w K mg base).Raw "when_told" "when_told" Z18 ["body","thing"]
 Zm:∀ P w base,(Gx.mk P w K mg base).Raw "joined_told" "joined_told" Z0T ["body","thing"]
 Zz:∀ P w base,(Gx.mk P w K mg base).Raw "each_told" "each_told" Z19 ["body","thing"]
 f_told:∀ P w base,(Gx.mk P w K mg base).Raw "told" "told" Yap ["term","thing"]
 Z0c:∀ P w base,(Gx.mk P w K mg base).Raw "copied" "copied" Uw ["thing"]
 f_said:∀ P w base,(Gx.mk P w K mg base).Raw "said" "said" Yaq ["term","thing"]
 Z1s:∀ P w base,(Gx.mk P w K mg base).Raw "_law_take" "_law_take" Z1k ["_law_cells","_law_many"]
 ZT:∀ P w base,(Gx.mk P w K mg base).Raw "_law_thing" "_law_thing" Z1a ["_law_cells","_law_left"]
 Zn:∀ P w base,(Gx.mk P w K mg base).Raw "_law_row_term" "_law_row_term" Z0N ["_law_cells","_law_first","_law_left"]
 Za:∀ P w base,(Gx.mk P w K mg base).Raw "_law_number_term" "_law_number_term" Z0o ["_law_cells","_law_first","_law_left"]
 Ze:∀ P w base,(Gx.mk P w K mg base).Raw "_law_truth_term" "_law_truth_term" Z0x ["_law_cells","_law_first","_law_left"]
 Zo:∀ P w base,(Gx.mk P w K mg base).Raw "_law_term" "_law_term" Z1l ["_law_cells","_law_wish","_law_left"]
 Z1g:∀ P w base,(Gx.mk P w K mg base).Raw "_law_whole" "_law_whole" Z1b ["_law_thing_here"]
 ZL:∀ P w base,(Gx.mk P w K mg base).Raw "_law_alike" "_law_alike" Z1c ["_law_one","_law_other"]
 Z25:∀ P w base,(Gx.mk P w K mg base).Raw "_law_can" "_law_can" Z1S ["_law_mark","_law_place","_law_one","_law_other"]
 ZA:∀ P w base,(Gx.mk P w K mg base).Raw "_law_asked" "_law_asked" Z1d ["_law_mark","_law_place","_law_term_here","_law_thing_here","_law_one"]
 Z0A:∀ P w base,(Gx.mk P w K mg base).Raw "_law_due_of_one" "_law_due_of_one" Z0y ["_law_mark","_law_body","_law_found"]
 Z0B:∀ P w base,(Gx.mk P w K mg base).Raw "_law_due_of_two" "_law_due_of_two" Z0z ["_law_mark","_law_one","_law_other"]
 Zg:∀ P w base,(Gx.mk P w K mg base).Raw "_law_due_each" "_law_due_each" Z0O ["_law_body","_law_rows"]
 ZJ:∀ P w base,(Gx.mk P w K mg base).Raw "_law_due" "_law_due" Z1U ["_law_term_here","_law_thing_here"]
 ZM:∀ P w base,(Gx.mk P w K mg base).Raw "_law_lists" "_law_lists" Z1e ["_law_value"]
 Z26:∀ P w base,(Gx.mk P w K mg base).Raw "_law_own" "_law_own" Z1V ["_law_value"]
 Z1t:∀ P w base,(Gx.mk P w K mg base).Raw "_law_told" "_law_told" Z1m ["_law_term_here","_law_thing_here"]
 Z0a:mg "ValueError"=none
 b_all:mg "all"=none
 b_bool:mg "bool"=none
 b_dict:mg "dict"=none
 b_int:mg "int"=none
 Z2:mg "isinstance"=none
 b_len:mg "len"=none
 b_list:mg "list"=none
 Zd:mg "range"=none
 b_repr:mg "repr"=none
 b_str:mg "str"=none
 b_sum:mg "sum"=none
 Z3:mg "tuple"=none
 b_zip:mg "zip"=none
 x_CountError:mg "CountError"=some (.ref Z0)
 x_Astray:mg "Astray"=some (.ref Z1)
 t_Astray:ExcT K Z1
 xi_Astray:∀ P w base,(Gx.mk P w K mg base).RawX "Astray" Z1 "Astray.__init__" Z0p ["self","mark"]
 xf_Astray:ExFl K Z1 Z0
 xn_Astray_mark:PySem.W.findIn K (.ref Z1) "mark"=some none
 bi_CountError:∀ P w base,BInit (Gx.mk P w K mg base) "CountError" Z0
 i_Astray_CountError:PySem.W.kitOne K (.ref Z1) (.ref Z0)=some true
 i_Astray_ValueError:PySem.W.kitOne K (.ref Z1) (.type "ValueError")=some true
 m_Astray_Astray:PySem.W.exmOne K (.ref Z1) (.ref Z1)=some true
theorem Yd1 {K:PySem.W.Frag} {mg:Str→Option Value} {Z0 Z1:Addr} {c_part_told P_part_told:Addr}  (t:Top K mg Z0 Z1 c_part_told P_part_told) (P:Program) (w:World) (base:Heap) (hB:Bm mg base) (hC_part_told:PySem.W.CodeHd base c_part_told P_part_told) :
  Q5 (Gx.mk P w K mg base) 37 ["_law_script","_law_cells","_law_thing_here","_law_kept","_law_term_here","_law_due_here","_law_turn","_law_found"] "law" QN (V8 K [("part_told",c_part_told,P_part_told)]):=by
 have Zh:=Z1X (g:=Gx.mk P w K mg base) (t.xi_Astray P w base) (t.bi_CountError P w base) t.xf_Astray t.xn_Astray_mark
 have Z8:=Z1Y (g:=Gx.mk P w K mg base) (Z0:=Z0) (Z1:=Z1) (c_part_told:=c_part_told) (P_part_told:=P_part_told) (t.Z0q P w base) t.b_bool t.b_int t.Z2
 have Z4:=YaZ (g:=Gx.mk P w K mg base) (Z0:=Z0) (Z1:=Z1) (c_part_told:=c_part_told) (P_part_told:=P_part_told) (t.Z1r P w base) t.b_bool t.Z2
 have ZN:=Yb8 (g:=Gx.mk P w K mg base) (Z0:=Z0) (Z1:=Z1) (c_part_told:=c_part_told) (P_part_told:=P_part_told) (t.Z23 P w base) t.Z2 t.b_str
 have ZO:=Yb9 (g:=Gx.mk P w K mg base) (Z0:=Z0) (Z1:=Z1) (c_part_told:=c_part_told) (P_part_told:=P_part_told) (t.Z24 P w base) t.Z2 t.b_list
 have Z5:=Z1D (g:=Gx.mk P w K mg base) (Z0:=Z0) (Z1:=Z1) (c_part_told:=c_part_told) (P_part_told:=P_part_told) (t.Z0b P w base) t.Z2 t.b_list t.Z3
 have Zi:=Z1Z (g:=Gx.mk P w K mg base) (Z0:=Z0) (Z1:=Z1) (c_part_told:=c_part_told) (P_part_told:=P_part_told) (t.Z0r P w base) t.Z2 t.b_list t.b_str
 have Z7:=Z0Z (g:=Gx.mk P w K mg base) (Z0:=Z0) (Z1:=Z1) (c_part_told:=c_part_told) (P_part_told:=P_part_told) (t.ZQ P w base) t.Z2 t.b_list t.b_str t.Z3
 have Z9:=Z1n (g:=Gx.mk P w K mg base) (k:=1) (Z0:=Z0) (Z1:=Z1) (c_part_told:=c_part_told) (P_part_told:=P_part_told) (t.Z02 P w base) (Z8.mono (by decide)) (Z5.mono (by decide)) t.b_all
 have GP_same:∀ i:Nat,((Gx.mk P w K mg base).Fn (1+i+1) "same_each" ["one","other"] (Z0E (Gx.mk P w K mg base).K (i+1)))∧((Gx.mk P w K mg base).Fn (1+i+1) "same" ["one","other"] (Vl (Gx.mk P w K mg base).K (i+1))):=by
  intro i
  induction i with
  | zero=>exact ⟨Z20 (g:=Gx.mk P w K mg base) (m:=0) (k:=1) (Z0:=Z0) (Z1:=Z1) (c_part_told:=c_part_told) (P_part_told:=P_part_told) (t.Z0w P w base) ((t.f_same P w base).none (fun _ _ _ _ h=>YeM h)) t.b_len t.b_zip,Ybt (g:=Gx.mk P w K mg base) (m:=0) (k:=1) (Z0:=Z0) (Z1:=Z1) (c_part_told:=c_part_told) (P_part_told:=P_part_told) (t.f_same P w base) (Z8.mono (by omega)) ((t.Z0w P w base).none (fun _ _ _ _ h=>Yau h)) (Z4.mono (by omega)) (ZN.mono (by omega)) (ZO.mono (by omega)) t.Z2 t.Z3⟩
  | succ i ih =>
   obtain ⟨I_same_each,I_same⟩:=ih
   exact ⟨Z20 (g:=Gx.mk P w K mg base) (m:=i+1) (k:=1+i+1) (Z0:=Z0) (Z1:=Z1) (c_part_told:=c_part_told) (P_part_told:=P_part_told) (t.Z0w P w base) I_same t.b_len t.b_zip,Ybt (g:=Gx.mk P w K mg base) (m:=i+1) (k:=1+i+1) (Z0:=Z0) (Z1:=Z1) (c_part_told:=c_part_told) (P_part_told:=P_part_told) (t.f_same P w base) (Z8.mono (by omega)) I_same_each (Z4.mono (by omega)) (ZN.mono (by omega)) (ZO.mono (by omega)) t.Z2 t.Z3⟩
 obtain ⟨G_same_each,G_same⟩:=GP_same 9
 have Z0d:=Z06 (g:=Gx.mk P w K mg base) (m:=0) (k:=11) (Z0:=Z0) (Z1:=Z1) (c_part_told:=c_part_told) (P_part_told:=P_part_told) (t.Z00 P w base) ((t.f_told P w base).noneX (fun _ _ _ _ h=>Qe h)) (by decide) (by decide) Zh (by decide)
 have G_part_told_0:=ZD (g:=Gx.mk P w K mg base) (m:=0) (k:=12) (Z0:=Z0) (Z1:=Z1) (c_part_told:=c_part_told) (P_part_told:=P_part_told) (t.Zv P w base) hB hC_part_told (Z5.mono (by decide)) (Z0d.mono (by decide)) t.b_len
 have Z2t:=Zr (g:=Gx.mk P w K mg base) (m:=0) (k:=12) (Z0:=Z0) (Z1:=Z1) (c_part_told:=c_part_told) (P_part_told:=P_part_told) (t.Zf P w base) (Z8.mono (by decide)) (Z0d.mono (by decide)) (by decide)
 have G_same_told_0:=ZE (g:=Gx.mk P w K mg base) (m:=0) (k:=12) (Z0:=Z0) (Z1:=Z1) (c_part_told:=c_part_told) (P_part_told:=P_part_told) (t.Zw P w base) (G_same.mono (by decide)) ((t.f_told P w base).noneX (fun _ _ _ _ h=>Qe h))
 have G_both_told_0:=ZF (g:=Gx.mk P w K mg base) (m:=0) (k:=12) (Z0:=Z0) (Z1:=Z1) (c_part_told:=c_part_told) (P_part_told:=P_part_told) (t.Zx P w base) (Z4.mono (by decide)) (Z0d.mono (by decide)) (by decide)
 have G_when_told_0:=ZG (g:=Gx.mk P w K mg base) (m:=0) (k:=12) (Z0:=Z0) (Z1:=Z1) (c_part_told:=c_part_told) (P_part_told:=P_part_told) (t.Zy P w base) (Z4.mono (by decide)) (Z0d.mono (by decide)) ((t.f_told P w base).noneX (fun _ _ _ _ h=>Qe h)) (by decide)
 have G_each_told_0:=ZH (g:=Gx.mk P w K mg base) (m:=0) (k:=12) (Z0:=Z0) (Z1:=Z1) (c_part_told:=c_part_told) (P_part_told:=P_part_told) (t.Zz P w base) (Z4.mono (by decide)) (Z5.mono (by decide)) (Z0d.mono (by decide)) (by decide)
 have Z2R:=Zu (g:=Gx.mk P w K mg base) (m:=0) (k:=12) (Z0:=Z0) (Z1:=Z1) (c_part_told:=c_part_told) (P_part_told:=P_part_told) (t.Zm P w base) (ZN.mono (by decide)) (ZO.mono (by decide)) (Zi.mono (by decide)) (Z0d.mono (by decide)) (by decide)
 have G_told_1:=Wb (g:=Gx.mk P w K mg base) (m:=0) (k:=13) (Z0:=Z0) (Z1:=Z1) (c_part_told:=c_part_told) (P_part_told:=P_part_told) (t.f_told P w base) (Z4.mono (by decide)) (Z7.mono (by decide)) (Z9.mono (by decide)) (Z0d.mono (by decide)) (G_part_told_0.mono (by decide)) (Z2t.mono (by decide)) (G_same_told_0.mono (by decide)) (G_both_told_0.mono (by decide)) (G_when_told_0.mono (by decide)) (G_each_told_0.mono (by decide)) (Z2R.mono (by decide)) (by decide) t.b_len t.b_sum
 have Z0e:=Z06 (g:=Gx.mk P w K mg base) (m:=1) (k:=14) (Z0:=Z0) (Z1:=Z1) (c_part_told:=c_part_told) (P_part_told:=P_part_told) (t.Z00 P w base) (G_told_1.mono (by decide)) (by decide) (by decide) Zh (by decide)
 have G_part_told_1:=ZD (g:=Gx.mk P w K mg base) (m:=1) (k:=15) (Z0:=Z0) (Z1:=Z1) (c_part_told:=c_part_told) (P_part_told:=P_part_told) (t.Zv P w base) hB hC_part_told (Z5.mono (by decide)) (Z0e.mono (by decide)) t.b_len
 have Z2u:=Zr (g:=Gx.mk P w K mg base) (m:=1) (k:=15) (Z0:=Z0) (Z1:=Z1) (c_part_told:=c_part_told) (P_part_told:=P_part_told) (t.Zf P w base) (Z8.mono (by decide)) (Z0e.mono (by decide)) (by decide)
 have G_same_told_1:=ZE (g:=Gx.mk P w K mg base) (m:=1) (k:=15) (Z0:=Z0) (Z1:=Z1) (c_part_told:=c_part_told) (P_part_told:=P_part_told) (t.Zw P w base) (G_same.mono (by decide)) (G_told_1.mono (by decide))
 have G_both_told_1:=ZF (g:=Gx.mk P w K mg base) (m:=1) (k:=15) (Z0:=Z0) (Z1:=Z1) (c_part_told:=c_part_told) (P_part_told:=P_part_told) (t.Zx P w base) (Z4.mono (by decide)) (Z0e.mono (by decide)) (by decide)
 have G_when_told_1:=ZG (g:=Gx.mk P w K mg base) (m:=1) (k:=15) (Z0:=Z0) (Z1:=Z1) (c_part_told:=c_part_told) (P_part_told:=P_part_told) (t.Zy P w base) (Z4.mono (by decide)) (Z0e.mono (by decide)) (G_told_1.mono (by decide)) (by decide)
 have G_each_told_1:=ZH (g:=Gx.mk P w K mg base) (m:=1) (k:=15) (Z0:=Z0) (Z1:=Z1) (c_part_told:=c_part_told) (P_part_told:=P_part_told) (t.Zz P w base) (Z4.mono (by decide)) (Z5.mono (by decide)) (Z0e.mono (by decide)) (by decide)
 have Z2S:=Zu (g:=Gx.mk P w K mg base) (m:=1) (k:=15) (Z0:=Z0) (Z1:=Z1) (c_part_told:=c_part_told) (P_part_told:=P_part_told) (t.Zm P w base) (ZN.mono (by decide)) (ZO.mono (by decide)) (Zi.mono (by decide)) (Z0e.mono (by decide)) (by decide)
 have G_told_2:=Wb (g:=Gx.mk P w K mg base) (m:=1) (k:=16) (Z0:=Z0) (Z1:=Z1) (c_part_told:=c_part_told) (P_part_told:=P_part_told) (t.f_told P w base) (Z4.mono (by decide)) (Z7.mono (by decide)) (Z9.mono (by decide)) (Z0e.mono (by decide)) (G_part_told_1.mono (by decide)) (Z2u.mono (by decide)) (G_same_told_1.mono (by decide)) (G_both_told_1.mono (by decide)) (G_when_told_1.mono (by decide)) (G_each_told_1.mono (by decide)) (Z2S.mono (by decide)) (by decide) t.b_len t.b_sum
 have Z0f:=Z06 (g:=Gx.mk P w K mg base) (m:=2) (k:=17) (Z0:=Z0) (Z1:=Z1) (c_part_told:=c_part_told) (P_part_told:=P_part_told) (t.Z00 P w base) (G_told_2.mono (by decide)) (by decide) (by decide) Zh (by decide)
 have G_part_told_2:=ZD (g:=Gx.mk P w K mg base) (m:=2) (k:=18) (Z0:=Z0) (Z1:=Z1) (c_part_told:=c_part_told) (P_part_told:=P_part_told) (t.Zv P w base) hB hC_part_told (Z5.mono (by decide)) (Z0f.mono (by decide)) t.b_len
 have Z2v:=Zr (g:=Gx.mk P w K mg base) (m:=2) (k:=18) (Z0:=Z0) (Z1:=Z1) (c_part_told:=c_part_told) (P_part_told:=P_part_told) (t.Zf P w base) (Z8.mono (by decide)) (Z0f.mono (by decide)) (by decide)
 have G_same_told_2:=ZE (g:=Gx.mk P w K mg base) (m:=2) (k:=18) (Z0:=Z0) (Z1:=Z1) (c_part_told:=c_part_told) (P_part_told:=P_part_told) (t.Zw P w base) (G_same.mono (by decide)) (G_told_2.mono (by decide))
 have G_both_told_2:=ZF (g:=Gx.mk P w K mg base) (m:=2) (k:=18) (Z0:=Z0) (Z1:=Z1) (c_part_told:=c_part_told) (P_part_told:=P_part_told) (t.Zx P w base) (Z4.mono (by decide)) (Z0f.mono (by decide)) (by decide)
 have G_when_told_2:=ZG (g:=Gx.mk P w K mg base) (m:=2) (k:=18) (Z0:=Z0) (Z1:=Z1) (c_part_told:=c_part_told) (P_part_told:=P_part_told) (t.Zy P w base) (Z4.mono (by decide)) (Z0f.mono (by decide)) (G_told_2.mono (by decide)) (by decide)
 have G_each_told_2:=ZH (g:=Gx.mk P w K mg base) (m:=2) (k:=18) (Z0:=Z0) (Z1:=Z1) (c_part_told:=c_part_told) (P_part_told:=P_part_told) (t.Zz P w base) (Z4.mono (by decide)) (Z5.mono (by decide)) (Z0f.mono (by decide)) (by decide)
 have Z2T:=Zu (g:=Gx.mk P w K mg base) (m:=2) (k:=18) (Z0:=Z0) (Z1:=Z1) (c_part_told:=c_part_told) (P_part_told:=P_part_told) (t.Zm P w base) (ZN.mono (by decide)) (ZO.mono (by decide)) (Zi.mono (by decide)) (Z0f.mono (by decide)) (by decide)
 have G_told_3:=Wb (g:=Gx.mk P w K mg base) (m:=2) (k:=19) (Z0:=Z0) (Z1:=Z1) (c_part_told:=c_part_told) (P_part_told:=P_part_told) (t.f_told P w base) (Z4.mono (by decide)) (Z7.mono (by decide)) (Z9.mono (by decide)) (Z0f.mono (by decide)) (G_part_told_2.mono (by decide)) (Z2v.mono (by decide)) (G_same_told_2.mono (by decide)) (G_both_told_2.mono (by decide)) (G_when_told_2.mono (by decide)) (G_each_told_2.mono (by decide)) (Z2T.mono (by decide)) (by decide) t.b_len t.b_sum
 have Z0g:=Z06 (g:=Gx.mk P w K mg base) (m:=3) (k:=20) (Z0:=Z0) (Z1:=Z1) (c_part_told:=c_part_told) (P_part_told:=P_part_told) (t.Z00 P w base) (G_told_3.mono (by decide)) (by decide) (by decide) Zh (by decide)
 have G_part_told_3:=ZD (g:=Gx.mk P w K mg base) (m:=3) (k:=21) (Z0:=Z0) (Z1:=Z1) (c_part_told:=c_part_told) (P_part_told:=P_part_told) (t.Zv P w base) hB hC_part_told (Z5.mono (by decide)) (Z0g.mono (by decide)) t.b_len
 have Z2w:=Zr (g:=Gx.mk P w K mg base) (m:=3) (k:=21) (Z0:=Z0) (Z1:=Z1) (c_part_told:=c_part_told) (P_part_told:=P_part_told) (t.Zf P w base) (Z8.mono (by decide)) (Z0g.mono (by decide)) (by decide)
 have G_same_told_3:=ZE (g:=Gx.mk P w K mg base) (m:=3) (k:=21) (Z0:=Z0) (Z1:=Z1) (c_part_told:=c_part_told) (P_part_told:=P_part_told) (t.Zw P w base) (G_same.mono (by decide)) (G_told_3.mono (by decide))
 have G_both_told_3:=ZF (g:=Gx.mk P w K mg base) (m:=3) (k:=21) (Z0:=Z0) (Z1:=Z1) (c_part_told:=c_part_told) (P_part_told:=P_part_told) (t.Zx P w base) (Z4.mono (by decide)) (Z0g.mono (by decide)) (by decide)
 have G_when_told_3:=ZG (g:=Gx.mk P w K mg base) (m:=3) (k:=21) (Z0:=Z0) (Z1:=Z1) (c_part_told:=c_part_told) (P_part_told:=P_part_told) (t.Zy P w base) (Z4.mono (by decide)) (Z0g.mono (by decide)) (G_told_3.mono (by decide)) (by decide)
 have G_each_told_3:=ZH (g:=Gx.mk P w K mg base) (m:=3) (k:=21) (Z0:=Z0) (Z1:=Z1) (c_part_told:=c_part_told) (P_part_told:=P_part_told) (t.Zz P w base) (Z4.mono (by decide)) (Z5.mono (by decide)) (Z0g.mono (by decide)) (by decide)
 have Z2U:=Zu (g:=Gx.mk P w K mg base) (m:=3) (k:=21) (Z0:=Z0) (Z1:=Z1) (c_part_told:=c_part_told) (P_part_told:=P_part_told) (t.Zm P w base) (ZN.mono (by decide)) (ZO.mono (by decide)) (Zi.mono (by decide)) (Z0g.mono (by decide)) (by decide)
 have G_told_4:=Wb (g:=Gx.mk P w K mg base) (m:=3) (k:=22) (Z0:=Z0) (Z1:=Z1) (c_part_told:=c_part_told) (P_part_told:=P_part_told) (t.f_told P w base) (Z4.mono (by decide)) (Z7.mono (by decide)) (Z9.mono (by decide)) (Z0g.mono (by decide)) (G_part_told_3.mono (by decide)) (Z2w.mono (by decide)) (G_same_told_3.mono (by decide)) (G_both_told_3.mono (by decide)) (G_when_told_3.mono (by decide)) (G_each_told_3.mono (by decide)) (Z2U.mono (by decide)) (by decide) t.b_len t.b_sum
 have Z0h:=Z06 (g:=Gx.mk P w K mg base) (m:=4) (k:=23) (Z0:=Z0) (Z1:=Z1) (c_part_told:=c_part_told) (P_part_told:=P_part_told) (t.Z00 P w base) (G_told_4.mono (by decide)) (by decide) (by decide) Zh (by decide)
 have G_part_told_4:=ZD (g:=Gx.mk P w K mg base) (m:=4) (k:=24) (Z0:=Z0) (Z1:=Z1) (c_part_told:=c_part_told) (P_part_told:=P_part_told) (t.Zv P w base) hB hC_part_told (Z5.mono (by decide)) (Z0h.mono (by decide)) t.b_len
 have Z2x:=Zr (g:=Gx.mk P w K mg base) (m:=4) (k:=24) (Z0:=Z0) (Z1:=Z1) (c_part_told:=c_part_told) (P_part_told:=P_part_told) (t.Zf P w base) (Z8.mono (by decide)) (Z0h.mono (by decide)) (by decide)
 have G_same_told_4:=ZE (g:=Gx.mk P w K mg base) (m:=4) (k:=24) (Z0:=Z0) (Z1:=Z1) (c_part_told:=c_part_told) (P_part_told:=P_part_told) (t.Zw P w base) (G_same.mono (by decide)) (G_told_4.mono (by decide))
 have G_both_told_4:=ZF (g:=Gx.mk P w K mg base) (m:=4) (k:=24) (Z0:=Z0) (Z1:=Z1) (c_part_told:=c_part_told) (P_part_told:=P_part_told) (t.Zx P w base) (Z4.mono (by decide)) (Z0h.mono (by decide)) (by decide)
 have G_when_told_4:=ZG (g:=Gx.mk P w K mg base) (m:=4) (k:=24) (Z0:=Z0) (Z1:=Z1) (c_part_told:=c_part_told) (P_part_told:=P_part_told) (t.Zy P w base) (Z4.mono (by decide)) (Z0h.mono (by decide)) (G_told_4.mono (by decide)) (by decide)
 have G_each_told_4:=ZH (g:=Gx.mk P w K mg base) (m:=4) (k:=24) (Z0:=Z0) (Z1:=Z1) (c_part_told:=c_part_told) (P_part_told:=P_part_told) (t.Zz P w base) (Z4.mono (by decide)) (Z5.mono (by decide)) (Z0h.mono (by decide)) (by decide)
 have Z2V:=Zu (g:=Gx.mk P w K mg base) (m:=4) (k:=24) (Z0:=Z0) (Z1:=Z1) (c_part_told:=c_part_told) (P_part_told:=P_part_told) (t.Zm P w base) (ZN.mono (by decide)) (ZO.mono (by decide)) (Zi.mono (by decide)) (Z0h.mono (by decide)) (by decide)
 have G_told_5:=Wb (g:=Gx.mk P w K mg base) (m:=4) (k:=25) (Z0:=Z0) (Z1:=Z1) (c_part_told:=c_part_told) (P_part_told:=P_part_told) (t.f_told P w base) (Z4.mono (by decide)) (Z7.mono (by decide)) (Z9.mono (by decide)) (Z0h.mono (by decide)) (G_part_told_4.mono (by decide)) (Z2x.mono (by decide)) (G_same_told_4.mono (by decide)) (G_both_told_4.mono (by decide)) (G_when_told_4.mono (by decide)) (G_each_told_4.mono (by decide)) (Z2V.mono (by decide)) (by decide) t.b_len t.b_sum
 have Z0i:=Z06 (g:=Gx.mk P w K mg base) (m:=5) (k:=26) (Z0:=Z0) (Z1:=Z1) (c_part_told:=c_part_told) (P_part_told:=P_part_told) (t.Z00 P w base) (G_told_5.mono (by decide)) (by decide) (by decide) Zh (by decide)
 have G_part_told_5:=ZD (g:=Gx.mk P w K mg base) (m:=5) (k:=27) (Z0:=Z0) (Z1:=Z1) (c_part_told:=c_part_told) (P_part_told:=P_part_told) (t.Zv P w base) hB hC_part_told (Z5.mono (by decide)) (Z0i.mono (by decide)) t.b_len
 have Z2y:=Zr (g:=Gx.mk P w K mg base) (m:=5) (k:=27) (Z0:=Z0) (Z1:=Z1) (c_part_told:=c_part_told) (P_part_told:=P_part_told) (t.Zf P w base) (Z8.mono (by decide)) (Z0i.mono (by decide)) (by decide)
 have G_same_told_5:=ZE (g:=Gx.mk P w K mg base) (m:=5) (k:=27) (Z0:=Z0) (Z1:=Z1) (c_part_told:=c_part_told) (P_part_told:=P_part_told) (t.Zw P w base) (G_same.mono (by decide)) (G_told_5.mono (by decide))
 have G_both_told_5:=ZF (g:=Gx.mk P w K mg base) (m:=5) (k:=27) (Z0:=Z0) (Z1:=Z1) (c_part_told:=c_part_told) (P_part_told:=P_part_told) (t.Zx P w base) (Z4.mono (by decide)) (Z0i.mono (by decide)) (by decide)
 have G_when_told_5:=ZG (g:=Gx.mk P w K mg base) (m:=5) (k:=27) (Z0:=Z0) (Z1:=Z1) (c_part_told:=c_part_told) (P_part_told:=P_part_told) (t.Zy P w base) (Z4.mono (by decide)) (Z0i.mono (by decide)) (G_told_5.mono (by decide)) (by decide)
 have G_each_told_5:=ZH (g:=Gx.mk P w K mg base) (m:=5) (k:=27) (Z0:=Z0) (Z1:=Z1) (c_part_told:=c_part_told) (P_part_told:=P_part_told) (t.Zz P w base) (Z4.mono (by decide)) (Z5.mono (by decide)) (Z0i.mono (by decide)) (by decide)
 have Z2W:=Zu (g:=Gx.mk P w K mg base) (m:=5) (k:=27) (Z0:=Z0) (Z1:=Z1) (c_part_told:=c_part_told) (P_part_told:=P_part_told) (t.Zm P w base) (ZN.mono (by decide)) (ZO.mono (by decide)) (Zi.mono (by decide)) (Z0i.mono (by decide)) (by decide)
 have G_told_6:=Wb (g:=Gx.mk P w K mg base) (m:=5) (k:=28) (Z0:=Z0) (Z1:=Z1) (c_part_told:=c_part_told) (P_part_told:=P_part_told) (t.f_told P w base) (Z4.mono (by decide)) (Z7.mono (by decide)) (Z9.mono (by decide)) (Z0i.mono (by decide)) (G_part_told_5.mono (by decide)) (Z2y.mono (by decide)) (G_same_told_5.mono (by decide)) (G_both_told_5.mono (by decide)) (G_when_told_5.mono (by decide)) (G_each_told_5.mono (by decide)) (Z2W.mono (by decide)) (by decide) t.b_len t.b_sum
 have Z0j:=Z06 (g:=Gx.mk P w K mg base) (m:=6) (k:=29) (Z0:=Z0) (Z1:=Z1) (c_part_told:=c_part_told) (P_part_told:=P_part_told) (t.Z00 P w base) (G_told_6.mono (by decide)) (by decide) (by decide) Zh (by decide)
 have G_part_told_6:=ZD (g:=Gx.mk P w K mg base) (m:=6) (k:=30) (Z0:=Z0) (Z1:=Z1) (c_part_told:=c_part_told) (P_part_told:=P_part_told) (t.Zv P w base) hB hC_part_told (Z5.mono (by decide)) (Z0j.mono (by decide)) t.b_len
 have Z2z:=Zr (g:=Gx.mk P w K mg base) (m:=6) (k:=30) (Z0:=Z0) (Z1:=Z1) (c_part_told:=c_part_told) (P_part_told:=P_part_told) (t.Zf P w base) (Z8.mono (by decide)) (Z0j.mono (by decide)) (by decide)
 have G_same_told_6:=ZE (g:=Gx.mk P w K mg base) (m:=6) (k:=30) (Z0:=Z0) (Z1:=Z1) (c_part_told:=c_part_told) (P_part_told:=P_part_told) (t.Zw P w base) (G_same.mono (by decide)) (G_told_6.mono (by decide))
 have G_both_told_6:=ZF (g:=Gx.mk P w K mg base) (m:=6) (k:=30) (Z0:=Z0) (Z1:=Z1) (c_part_told:=c_part_told) (P_part_told:=P_part_told) (t.Zx P w base) (Z4.mono (by decide)) (Z0j.mono (by decide)) (by decide)
 have G_when_told_6:=ZG (g:=Gx.mk P w K mg base) (m:=6) (k:=30) (Z0:=Z0) (Z1:=Z1) (c_part_told:=c_part_told) (P_part_told:=P_part_told) (t.Zy P w base) (Z4.mono (by decide)) (Z0j.mono (by decide)) (G_told_6.mono (by decide)) (by decide)
 have G_each_told_6:=ZH (g:=Gx.mk P w K mg base) (m:=6) (k:=30) (Z0:=Z0) (Z1:=Z1) (c_part_told:=c_part_told) (P_part_told:=P_part_told) (t.Zz P w base) (Z4.mono (by decide)) (Z5.mono (by decide)) (Z0j.mono (by decide)) (by decide)
 have Z2X:=Zu (g:=Gx.mk P w K mg base) (m:=6) (k:=30) (Z0:=Z0) (Z1:=Z1) (c_part_told:=c_part_told) (P_part_told:=P_part_told) (t.Zm P w base) (ZN.mono (by decide)) (ZO.mono (by decide)) (Zi.mono (by decide)) (Z0j.mono (by decide)) (by decide)
 have G_told_7:=Wb (g:=Gx.mk P w K mg base) (m:=6) (k:=31) (Z0:=Z0) (Z1:=Z1) (c_part_told:=c_part_told) (P_part_told:=P_part_told) (t.f_told P w base) (Z4.mono (by decide)) (Z7.mono (by decide)) (Z9.mono (by decide)) (Z0j.mono (by decide)) (G_part_told_6.mono (by decide)) (Z2z.mono (by decide)) (G_same_told_6.mono (by decide)) (G_both_told_6.mono (by decide)) (G_when_told_6.mono (by decide)) (G_each_told_6.mono (by decide)) (Z2X.mono (by decide)) (by decide) t.b_len t.b_sum
 have Z0k:=Z06 (g:=Gx.mk P w K mg base) (m:=7) (k:=32) (Z0:=Z0) (Z1:=Z1) (c_part_told:=c_part_told) (P_part_told:=P_part_told) (t.Z00 P w base) (G_told_7.mono (by decide)) (by decide) (by decide) Zh (by decide)
 have G_part_told_7:=ZD (g:=Gx.mk P w K mg base) (m:=7) (k:=33) (Z0:=Z0) (Z1:=Z1) (c_part_told:=c_part_told) (P_part_told:=P_part_told) (t.Zv P w base) hB hC_part_told (Z5.mono (by decide)) (Z0k.mono (by decide)) t.b_len
 have Z2A:=Zr (g:=Gx.mk P w K mg base) (m:=7) (k:=33) (Z0:=Z0) (Z1:=Z1) (c_part_told:=c_part_told) (P_part_told:=P_part_told) (t.Zf P w base) (Z8.mono (by decide)) (Z0k.mono (by decide)) (by decide)
 have G_same_told_7:=ZE (g:=Gx.mk P w K mg base) (m:=7) (k:=33) (Z0:=Z0) (Z1:=Z1) (c_part_told:=c_part_told) (P_part_told:=P_part_told) (t.Zw P w base) (G_same.mono (by decide)) (G_told_7.mono (by decide))
 have G_both_told_7:=ZF (g:=Gx.mk P w K mg base) (m:=7) (k:=33) (Z0:=Z0) (Z1:=Z1) (c_part_told:=c_part_told) (P_part_told:=P_part_told) (t.Zx P w base) (Z4.mono (by decide)) (Z0k.mono (by decide)) (by decide)
 have G_when_told_7:=ZG (g:=Gx.mk P w K mg base) (m:=7) (k:=33) (Z0:=Z0) (Z1:=Z1) (c_part_told:=c_part_told) (P_part_told:=P_part_told) (t.Zy P w base) (Z4.mono (by decide)) (Z0k.mono (by decide)) (G_told_7.mono (by decide)) (by decide)
 have G_each_told_7:=ZH (g:=Gx.mk P w K mg base) (m:=7) (k:=33) (Z0:=Z0) (Z1:=Z1) (c_part_told:=c_part_told) (P_part_told:=P_part_told) (t.Zz P w base) (Z4.mono (by decide)) (Z5.mono (by decide)) (Z0k.mono (by decide)) (by decide)
 have Z2Y:=Zu (g:=Gx.mk P w K mg base) (m:=7) (k:=33) (Z0:=Z0) (Z1:=Z1) (c_part_told:=c_part_told) (P_part_told:=P_part_told) (t.Zm P w base) (ZN.mono (by decide)) (ZO.mono (by decide)) (Zi.mono (by decide)) (Z0k.mono (by decide)) (by decide)
 have G_told:=Wb (g:=Gx.mk P w K mg base) (m:=7) (k:=34) (Z0:=Z0) (Z1:=Z1) (c_part_told:=c_part_told) (P_part_told:=P_part_told) (t.f_told P w base) (Z4.mono (by decide)) (Z7.mono (by decide)) (Z9.mono (by decide)) (Z0k.mono (by decide)) (G_part_told_7.mono (by decide)) (Z2A.mono (by decide)) (G_same_told_7.mono (by decide)) (G_both_told_7.mono (by decide)) (G_when_told_7.mono (by decide)) (G_each_told_7.mono (by decide)) (Z2Y.mono (by decide)) (by decide) t.b_len t.b_sum
 have G_copied_1:=Z0S (g:=Gx.mk P w K mg base) (m:=0) (k:=0) (Z0:=Z0) (Z1:=Z1) (c_part_told:=c_part_told) (P_part_told:=P_part_told) (t.Z0c P w base) ((t.Z0c P w base).none (fun _ _ _ _ h=>Yc9 h)) t.b_dict t.Z2 t.b_list t.Z3
 have G_copied_2:=Z0S (g:=Gx.mk P w K mg base) (m:=1) (k:=1) (Z0:=Z0) (Z1:=Z1) (c_part_told:=c_part_told) (P_part_told:=P_part_told) (t.Z0c P w base) (G_copied_1.mono (by decide)) t.b_dict t.Z2 t.b_list t.Z3
 have G_copied_3:=Z0S (g:=Gx.mk P w K mg base) (m:=2) (k:=2) (Z0:=Z0) (Z1:=Z1) (c_part_told:=c_part_told) (P_part_told:=P_part_told) (t.Z0c P w base) (G_copied_2.mono (by decide)) t.b_dict t.Z2 t.b_list t.Z3
 have G_copied_4:=Z0S (g:=Gx.mk P w K mg base) (m:=3) (k:=3) (Z0:=Z0) (Z1:=Z1) (c_part_told:=c_part_told) (P_part_told:=P_part_told) (t.Z0c P w base) (G_copied_3.mono (by decide)) t.b_dict t.Z2 t.b_list t.Z3
 have G_copied:=Z0S (g:=Gx.mk P w K mg base) (m:=4) (k:=4) (Z0:=Z0) (Z1:=Z1) (c_part_told:=c_part_told) (P_part_told:=P_part_told) (t.Z0c P w base) (G_copied_4.mono (by decide)) t.b_dict t.Z2 t.b_list t.Z3
 have G_said:=YeR (g:=Gx.mk P w K mg base) (k:=35) (Z0:=Z0) (Z1:=Z1) (c_part_told:=c_part_told) (P_part_told:=P_part_told) (t.f_said P w base) (G_copied.mono (by decide)) (G_told.mono (by decide))
 have Zt:=Ya0 (g:=Gx.mk P w K mg base) (Z0:=Z0) (Z1:=Z1) (c_part_told:=c_part_told) (P_part_told:=P_part_told) (t.Z1s P w base)
 have G_law_thing_1:=Z0F (g:=Gx.mk P w K mg base) (m:=0) (k:=1) (Z0:=Z0) (Z1:=Z1) (c_part_told:=c_part_told) (P_part_told:=P_part_told) (t.ZT P w base) (Zt.mono (by decide)) ((t.ZT P w base).none (fun _ _ _ _ h=>YdV h)) t.Zd t.Z3
 have G_law_thing_2:=Z0F (g:=Gx.mk P w K mg base) (m:=1) (k:=2) (Z0:=Z0) (Z1:=Z1) (c_part_told:=c_part_told) (P_part_told:=P_part_told) (t.ZT P w base) (Zt.mono (by decide)) (G_law_thing_1.mono (by decide)) t.Zd t.Z3
 have G_law_thing_3:=Z0F (g:=Gx.mk P w K mg base) (m:=2) (k:=3) (Z0:=Z0) (Z1:=Z1) (c_part_told:=c_part_told) (P_part_told:=P_part_told) (t.ZT P w base) (Zt.mono (by decide)) (G_law_thing_2.mono (by decide)) t.Zd t.Z3
 have G_law_thing:=Z0F (g:=Gx.mk P w K mg base) (m:=3) (k:=4) (Z0:=Z0) (Z1:=Z1) (c_part_told:=c_part_told) (P_part_told:=P_part_told) (t.ZT P w base) (Zt.mono (by decide)) (G_law_thing_3.mono (by decide)) t.Zd t.Z3
 have Z2B:=ZC (g:=Gx.mk P w K mg base) (m:=0) (k:=1) (Z0:=Z0) (Z1:=Z1) (c_part_told:=c_part_told) (P_part_told:=P_part_told) (t.Zn P w base) ((t.Zo P w base).none (fun _ _ _ _ h=>Ue h))
 have Z1F:=Zj (g:=Gx.mk P w K mg base) (m:=0) (k:=1) (Z0:=Z0) (Z1:=Z1) (c_part_told:=c_part_told) (P_part_told:=P_part_told) (t.Za P w base) ((t.Zo P w base).none (fun _ _ _ _ h=>Ue h))
 have Z27:=Zq (g:=Gx.mk P w K mg base) (m:=0) (k:=1) (Z0:=Z0) (Z1:=Z1) (c_part_told:=c_part_told) (P_part_told:=P_part_told) (t.Ze P w base) ((t.Zo P w base).none (fun _ _ _ _ h=>Ue h))
 have Z0G:=ZS (g:=Gx.mk P w K mg base) (m:=0) (k:=2) (Z0:=Z0) (Z1:=Z1) (c_part_told:=c_part_told) (P_part_told:=P_part_told) (t.Zo P w base) (Zt.mono (by decide)) (Z2B.mono (by decide)) (Z1F.mono (by decide)) (Z27.mono (by decide)) ((t.Zo P w base).none (fun _ _ _ _ h=>Ue h)) t.Zd t.Z3
 have Z2C:=ZC (g:=Gx.mk P w K mg base) (m:=1) (k:=3) (Z0:=Z0) (Z1:=Z1) (c_part_told:=c_part_told) (P_part_told:=P_part_told) (t.Zn P w base) (Z0G.mono (by decide))
 have Z1G:=Zj (g:=Gx.mk P w K mg base) (m:=1) (k:=3) (Z0:=Z0) (Z1:=Z1) (c_part_told:=c_part_told) (P_part_told:=P_part_told) (t.Za P w base) (Z0G.mono (by decide))
 have Z28:=Zq (g:=Gx.mk P w K mg base) (m:=1) (k:=3) (Z0:=Z0) (Z1:=Z1) (c_part_told:=c_part_told) (P_part_told:=P_part_told) (t.Ze P w base) (Z0G.mono (by decide))
 have Z0H:=ZS (g:=Gx.mk P w K mg base) (m:=1) (k:=4) (Z0:=Z0) (Z1:=Z1) (c_part_told:=c_part_told) (P_part_told:=P_part_told) (t.Zo P w base) (Zt.mono (by decide)) (Z2C.mono (by decide)) (Z1G.mono (by decide)) (Z28.mono (by decide)) (Z0G.mono (by decide)) t.Zd t.Z3
 have Z2D:=ZC (g:=Gx.mk P w K mg base) (m:=2) (k:=5) (Z0:=Z0) (Z1:=Z1) (c_part_told:=c_part_told) (P_part_told:=P_part_told) (t.Zn P w base) (Z0H.mono (by decide))
 have Z1H:=Zj (g:=Gx.mk P w K mg base) (m:=2) (k:=5) (Z0:=Z0) (Z1:=Z1) (c_part_told:=c_part_told) (P_part_told:=P_part_told) (t.Za P w base) (Z0H.mono (by decide))
 have Z29:=Zq (g:=Gx.mk P w K mg base) (m:=2) (k:=5) (Z0:=Z0) (Z1:=Z1) (c_part_told:=c_part_told) (P_part_told:=P_part_told) (t.Ze P w base) (Z0H.mono (by decide))
 have Z0I:=ZS (g:=Gx.mk P w K mg base) (m:=2) (k:=6) (Z0:=Z0) (Z1:=Z1) (c_part_told:=c_part_told) (P_part_told:=P_part_told) (t.Zo P w base) (Zt.mono (by decide)) (Z2D.mono (by decide)) (Z1H.mono (by decide)) (Z29.mono (by decide)) (Z0H.mono (by decide)) t.Zd t.Z3
 have Z2E:=ZC (g:=Gx.mk P w K mg base) (m:=3) (k:=7) (Z0:=Z0) (Z1:=Z1) (c_part_told:=c_part_told) (P_part_told:=P_part_told) (t.Zn P w base) (Z0I.mono (by decide))
 have Z1I:=Zj (g:=Gx.mk P w K mg base) (m:=3) (k:=7) (Z0:=Z0) (Z1:=Z1) (c_part_told:=c_part_told) (P_part_told:=P_part_told) (t.Za P w base) (Z0I.mono (by decide))
 have Z2a:=Zq (g:=Gx.mk P w K mg base) (m:=3) (k:=7) (Z0:=Z0) (Z1:=Z1) (c_part_told:=c_part_told) (P_part_told:=P_part_told) (t.Ze P w base) (Z0I.mono (by decide))
 have Z0J:=ZS (g:=Gx.mk P w K mg base) (m:=3) (k:=8) (Z0:=Z0) (Z1:=Z1) (c_part_told:=c_part_told) (P_part_told:=P_part_told) (t.Zo P w base) (Zt.mono (by decide)) (Z2E.mono (by decide)) (Z1I.mono (by decide)) (Z2a.mono (by decide)) (Z0I.mono (by decide)) t.Zd t.Z3
 have Z2F:=ZC (g:=Gx.mk P w K mg base) (m:=4) (k:=9) (Z0:=Z0) (Z1:=Z1) (c_part_told:=c_part_told) (P_part_told:=P_part_told) (t.Zn P w base) (Z0J.mono (by decide))
 have Z1J:=Zj (g:=Gx.mk P w K mg base) (m:=4) (k:=9) (Z0:=Z0) (Z1:=Z1) (c_part_told:=c_part_told) (P_part_told:=P_part_told) (t.Za P w base) (Z0J.mono (by decide))
 have Z2b:=Zq (g:=Gx.mk P w K mg base) (m:=4) (k:=9) (Z0:=Z0) (Z1:=Z1) (c_part_told:=c_part_told) (P_part_told:=P_part_told) (t.Ze P w base) (Z0J.mono (by decide))
 have Z0K:=ZS (g:=Gx.mk P w K mg base) (m:=4) (k:=10) (Z0:=Z0) (Z1:=Z1) (c_part_told:=c_part_told) (P_part_told:=P_part_told) (t.Zo P w base) (Zt.mono (by decide)) (Z2F.mono (by decide)) (Z1J.mono (by decide)) (Z2b.mono (by decide)) (Z0J.mono (by decide)) t.Zd t.Z3
 have Z2G:=ZC (g:=Gx.mk P w K mg base) (m:=5) (k:=11) (Z0:=Z0) (Z1:=Z1) (c_part_told:=c_part_told) (P_part_told:=P_part_told) (t.Zn P w base) (Z0K.mono (by decide))
 have Z1K:=Zj (g:=Gx.mk P w K mg base) (m:=5) (k:=11) (Z0:=Z0) (Z1:=Z1) (c_part_told:=c_part_told) (P_part_told:=P_part_told) (t.Za P w base) (Z0K.mono (by decide))
 have Z2c:=Zq (g:=Gx.mk P w K mg base) (m:=5) (k:=11) (Z0:=Z0) (Z1:=Z1) (c_part_told:=c_part_told) (P_part_told:=P_part_told) (t.Ze P w base) (Z0K.mono (by decide))
 have Z0L:=ZS (g:=Gx.mk P w K mg base) (m:=5) (k:=12) (Z0:=Z0) (Z1:=Z1) (c_part_told:=c_part_told) (P_part_told:=P_part_told) (t.Zo P w base) (Zt.mono (by decide)) (Z2G.mono (by decide)) (Z1K.mono (by decide)) (Z2c.mono (by decide)) (Z0K.mono (by decide)) t.Zd t.Z3
 have Z2H:=ZC (g:=Gx.mk P w K mg base) (m:=6) (k:=13) (Z0:=Z0) (Z1:=Z1) (c_part_told:=c_part_told) (P_part_told:=P_part_told) (t.Zn P w base) (Z0L.mono (by decide))
 have Z1L:=Zj (g:=Gx.mk P w K mg base) (m:=6) (k:=13) (Z0:=Z0) (Z1:=Z1) (c_part_told:=c_part_told) (P_part_told:=P_part_told) (t.Za P w base) (Z0L.mono (by decide))
 have Z2d:=Zq (g:=Gx.mk P w K mg base) (m:=6) (k:=13) (Z0:=Z0) (Z1:=Z1) (c_part_told:=c_part_told) (P_part_told:=P_part_told) (t.Ze P w base) (Z0L.mono (by decide))
 have G_law_term:=ZS (g:=Gx.mk P w K mg base) (m:=6) (k:=14) (Z0:=Z0) (Z1:=Z1) (c_part_told:=c_part_told) (P_part_told:=P_part_told) (t.Zo P w base) (Zt.mono (by decide)) (Z2H.mono (by decide)) (Z1L.mono (by decide)) (Z2d.mono (by decide)) (Z0L.mono (by decide)) t.Zd t.Z3
 have G_law_whole:=YaG (g:=Gx.mk P w K mg base) (Z0:=Z0) (Z1:=Z1) (c_part_told:=c_part_told) (P_part_told:=P_part_told) (t.Z1g P w base) t.b_bool t.b_int t.Z2
 have G_law_alike_1:=Z07 (g:=Gx.mk P w K mg base) (m:=0) (k:=0) (Z0:=Z0) (Z1:=Z1) (c_part_told:=c_part_told) (P_part_told:=P_part_told) (t.ZL P w base) ((t.ZL P w base).none (fun _ _ _ _ h=>YdX h)) t.b_all t.b_bool t.Z2 t.b_len t.b_list t.Z3 t.b_zip
 have G_law_alike_2:=Z07 (g:=Gx.mk P w K mg base) (m:=1) (k:=1) (Z0:=Z0) (Z1:=Z1) (c_part_told:=c_part_told) (P_part_told:=P_part_told) (t.ZL P w base) (G_law_alike_1.mono (by decide)) t.b_all t.b_bool t.Z2 t.b_len t.b_list t.Z3 t.b_zip
 have G_law_alike_3:=Z07 (g:=Gx.mk P w K mg base) (m:=2) (k:=2) (Z0:=Z0) (Z1:=Z1) (c_part_told:=c_part_told) (P_part_told:=P_part_told) (t.ZL P w base) (G_law_alike_2.mono (by decide)) t.b_all t.b_bool t.Z2 t.b_len t.b_list t.Z3 t.b_zip
 have G_law_alike_4:=Z07 (g:=Gx.mk P w K mg base) (m:=3) (k:=3) (Z0:=Z0) (Z1:=Z1) (c_part_told:=c_part_told) (P_part_told:=P_part_told) (t.ZL P w base) (G_law_alike_3.mono (by decide)) t.b_all t.b_bool t.Z2 t.b_len t.b_list t.Z3 t.b_zip
 have Z2n:=Z07 (g:=Gx.mk P w K mg base) (m:=4) (k:=4) (Z0:=Z0) (Z1:=Z1) (c_part_told:=c_part_told) (P_part_told:=P_part_told) (t.ZL P w base) (G_law_alike_4.mono (by decide)) t.b_all t.b_bool t.Z2 t.b_len t.b_list t.Z3 t.b_zip
 have ZU:=Yce (g:=Gx.mk P w K mg base) (k:=1) (Z0:=Z0) (Z1:=Z1) (c_part_told:=c_part_told) (P_part_told:=P_part_told) (t.Z25 P w base) (G_law_whole.mono (by decide)) t.b_all t.b_bool t.Z2 t.b_list t.b_str t.Z3
 have Zk:=Z2j (g:=Gx.mk P w K mg base) (Z0:=Z0) (Z1:=Z1) (c_part_told:=c_part_told) (P_part_told:=P_part_told) (t.Z0A P w base) t.b_len t.b_sum
 have Zl:=Z2k (g:=Gx.mk P w K mg base) (k:=5) (Z0:=Z0) (Z1:=Z1) (c_part_told:=c_part_told) (P_part_told:=P_part_told) (t.Z0B P w base) (Z2n.mono (by decide))
 have Z1u:=ZI (g:=Gx.mk P w K mg base) (m:=0) (k:=6) (Z0:=Z0) (Z1:=Z1) (c_part_told:=c_part_told) (P_part_told:=P_part_told) (t.ZA P w base) (ZU.mono (by decide)) ((t.ZJ P w base).none (fun _ _ _ _ h=>Yfp h))
 have Z2I:=Zs (g:=Gx.mk P w K mg base) (m:=0) (k:=7) (Z0:=Z0) (Z1:=Z1) (c_part_told:=c_part_told) (P_part_told:=P_part_told) (t.Zg P w base) (Z1u.mono (by decide))
 have G_law_due_1:=ZR (g:=Gx.mk P w K mg base) (m:=0) (k:=8) (Z0:=Z0) (Z1:=Z1) (c_part_told:=c_part_told) (P_part_told:=P_part_told) (t.ZJ P w base) (Z1u.mono (by decide)) (Zk.mono (by decide)) (Zl.mono (by decide)) (Z2I.mono (by decide)) t.b_int
 have Z1v:=ZI (g:=Gx.mk P w K mg base) (m:=1) (k:=9) (Z0:=Z0) (Z1:=Z1) (c_part_told:=c_part_told) (P_part_told:=P_part_told) (t.ZA P w base) (ZU.mono (by decide)) (G_law_due_1.mono (by decide))
 have Z2J:=Zs (g:=Gx.mk P w K mg base) (m:=1) (k:=10) (Z0:=Z0) (Z1:=Z1) (c_part_told:=c_part_told) (P_part_told:=P_part_told) (t.Zg P w base) (Z1v.mono (by decide))
 have G_law_due_2:=ZR (g:=Gx.mk P w K mg base) (m:=1) (k:=11) (Z0:=Z0) (Z1:=Z1) (c_part_told:=c_part_told) (P_part_told:=P_part_told) (t.ZJ P w base) (Z1v.mono (by decide)) (Zk.mono (by decide)) (Zl.mono (by decide)) (Z2J.mono (by decide)) t.b_int
 have Z1w:=ZI (g:=Gx.mk P w K mg base) (m:=2) (k:=12) (Z0:=Z0) (Z1:=Z1) (c_part_told:=c_part_told) (P_part_told:=P_part_told) (t.ZA P w base) (ZU.mono (by decide)) (G_law_due_2.mono (by decide))
 have Z2K:=Zs (g:=Gx.mk P w K mg base) (m:=2) (k:=13) (Z0:=Z0) (Z1:=Z1) (c_part_told:=c_part_told) (P_part_told:=P_part_told) (t.Zg P w base) (Z1w.mono (by decide))
 have G_law_due_3:=ZR (g:=Gx.mk P w K mg base) (m:=2) (k:=14) (Z0:=Z0) (Z1:=Z1) (c_part_told:=c_part_told) (P_part_told:=P_part_told) (t.ZJ P w base) (Z1w.mono (by decide)) (Zk.mono (by decide)) (Zl.mono (by decide)) (Z2K.mono (by decide)) t.b_int
 have Z1x:=ZI (g:=Gx.mk P w K mg base) (m:=3) (k:=15) (Z0:=Z0) (Z1:=Z1) (c_part_told:=c_part_told) (P_part_told:=P_part_told) (t.ZA P w base) (ZU.mono (by decide)) (G_law_due_3.mono (by decide))
 have Z2L:=Zs (g:=Gx.mk P w K mg base) (m:=3) (k:=16) (Z0:=Z0) (Z1:=Z1) (c_part_told:=c_part_told) (P_part_told:=P_part_told) (t.Zg P w base) (Z1x.mono (by decide))
 have G_law_due_4:=ZR (g:=Gx.mk P w K mg base) (m:=3) (k:=17) (Z0:=Z0) (Z1:=Z1) (c_part_told:=c_part_told) (P_part_told:=P_part_told) (t.ZJ P w base) (Z1x.mono (by decide)) (Zk.mono (by decide)) (Zl.mono (by decide)) (Z2L.mono (by decide)) t.b_int
 have Z1y:=ZI (g:=Gx.mk P w K mg base) (m:=4) (k:=18) (Z0:=Z0) (Z1:=Z1) (c_part_told:=c_part_told) (P_part_told:=P_part_told) (t.ZA P w base) (ZU.mono (by decide)) (G_law_due_4.mono (by decide))
 have Z2M:=Zs (g:=Gx.mk P w K mg base) (m:=4) (k:=19) (Z0:=Z0) (Z1:=Z1) (c_part_told:=c_part_told) (P_part_told:=P_part_told) (t.Zg P w base) (Z1y.mono (by decide))
 have G_law_due_5:=ZR (g:=Gx.mk P w K mg base) (m:=4) (k:=20) (Z0:=Z0) (Z1:=Z1) (c_part_told:=c_part_told) (P_part_told:=P_part_told) (t.ZJ P w base) (Z1y.mono (by decide)) (Zk.mono (by decide)) (Zl.mono (by decide)) (Z2M.mono (by decide)) t.b_int
 have Z1z:=ZI (g:=Gx.mk P w K mg base) (m:=5) (k:=21) (Z0:=Z0) (Z1:=Z1) (c_part_told:=c_part_told) (P_part_told:=P_part_told) (t.ZA P w base) (ZU.mono (by decide)) (G_law_due_5.mono (by decide))
 have Z2N:=Zs (g:=Gx.mk P w K mg base) (m:=5) (k:=22) (Z0:=Z0) (Z1:=Z1) (c_part_told:=c_part_told) (P_part_told:=P_part_told) (t.Zg P w base) (Z1z.mono (by decide))
 have G_law_due_6:=ZR (g:=Gx.mk P w K mg base) (m:=5) (k:=23) (Z0:=Z0) (Z1:=Z1) (c_part_told:=c_part_told) (P_part_told:=P_part_told) (t.ZJ P w base) (Z1z.mono (by decide)) (Zk.mono (by decide)) (Zl.mono (by decide)) (Z2N.mono (by decide)) t.b_int
 have Z1A:=ZI (g:=Gx.mk P w K mg base) (m:=6) (k:=24) (Z0:=Z0) (Z1:=Z1) (c_part_told:=c_part_told) (P_part_told:=P_part_told) (t.ZA P w base) (ZU.mono (by decide)) (G_law_due_6.mono (by decide))
 have Z2O:=Zs (g:=Gx.mk P w K mg base) (m:=6) (k:=25) (Z0:=Z0) (Z1:=Z1) (c_part_told:=c_part_told) (P_part_told:=P_part_told) (t.Zg P w base) (Z1A.mono (by decide))
 have G_law_due_7:=ZR (g:=Gx.mk P w K mg base) (m:=6) (k:=26) (Z0:=Z0) (Z1:=Z1) (c_part_told:=c_part_told) (P_part_told:=P_part_told) (t.ZJ P w base) (Z1A.mono (by decide)) (Zk.mono (by decide)) (Zl.mono (by decide)) (Z2O.mono (by decide)) t.b_int
 have Z1B:=ZI (g:=Gx.mk P w K mg base) (m:=7) (k:=27) (Z0:=Z0) (Z1:=Z1) (c_part_told:=c_part_told) (P_part_told:=P_part_told) (t.ZA P w base) (ZU.mono (by decide)) (G_law_due_7.mono (by decide))
 have Z2P:=Zs (g:=Gx.mk P w K mg base) (m:=7) (k:=28) (Z0:=Z0) (Z1:=Z1) (c_part_told:=c_part_told) (P_part_told:=P_part_told) (t.Zg P w base) (Z1B.mono (by decide))
 have G_law_due:=ZR (g:=Gx.mk P w K mg base) (m:=7) (k:=29) (Z0:=Z0) (Z1:=Z1) (c_part_told:=c_part_told) (P_part_told:=P_part_told) (t.ZJ P w base) (Z1B.mono (by decide)) (Zk.mono (by decide)) (Zl.mono (by decide)) (Z2P.mono (by decide)) t.b_int
 have G_law_lists_1:=Z09 (g:=Gx.mk P w K mg base) (m:=0) (k:=0) (Z0:=Z0) (Z1:=Z1) (c_part_told:=c_part_told) (P_part_told:=P_part_told) (t.ZM P w base) ((t.ZM P w base).none (fun _ _ _ _ h=>YaI h)) t.Z2 t.b_list t.Z3
 have G_law_lists_2:=Z09 (g:=Gx.mk P w K mg base) (m:=1) (k:=1) (Z0:=Z0) (Z1:=Z1) (c_part_told:=c_part_told) (P_part_told:=P_part_told) (t.ZM P w base) (G_law_lists_1.mono (by decide)) t.Z2 t.b_list t.Z3
 have G_law_lists_3:=Z09 (g:=Gx.mk P w K mg base) (m:=2) (k:=2) (Z0:=Z0) (Z1:=Z1) (c_part_told:=c_part_told) (P_part_told:=P_part_told) (t.ZM P w base) (G_law_lists_2.mono (by decide)) t.Z2 t.b_list t.Z3
 have G_law_lists_4:=Z09 (g:=Gx.mk P w K mg base) (m:=3) (k:=3) (Z0:=Z0) (Z1:=Z1) (c_part_told:=c_part_told) (P_part_told:=P_part_told) (t.ZM P w base) (G_law_lists_3.mono (by decide)) t.Z2 t.b_list t.Z3
 have G_law_lists:=Z09 (g:=Gx.mk P w K mg base) (m:=4) (k:=4) (Z0:=Z0) (Z1:=Z1) (c_part_told:=c_part_told) (P_part_told:=P_part_told) (t.ZM P w base) (G_law_lists_4.mono (by decide)) t.Z2 t.b_list t.Z3
 have G_law_own:=Ycg (g:=Gx.mk P w K mg base) (k:=5) (Z0:=Z0) (Z1:=Z1) (c_part_told:=c_part_told) (P_part_told:=P_part_told) (t.Z26 P w base) (G_law_lists.mono (by decide)) t.b_len
 have G_law_told:=Ya1 (g:=Gx.mk P w K mg base) (k:=36) (Z0:=Z0) (Z1:=Z1) (c_part_told:=c_part_told) (P_part_told:=P_part_told) (t.Z1t P w base) (G_said.mono (by decide)) t.xn_Astray_mark t.Z0a t.Z2 t.x_Astray t.x_CountError t.t_Astray t.i_Astray_CountError t.i_Astray_ValueError t.m_Astray_Astray
 exact Yd0 (g:=Gx.mk P w K mg base) (k:=37) (Z0:=Z0) (Z1:=Z1) (c_part_told:=c_part_told) (P_part_told:=P_part_told) (Zt.mono (by decide)) (G_law_thing.mono (by decide)) (G_law_term.mono (by decide)) (Z2n.mono (by decide)) (G_law_due.mono (by decide)) (G_law_own.mono (by decide)) (G_law_told.mono (by decide)) t.b_list t.Zd t.b_repr
end KW
theorem PySem.W.Fast.tw1602716053462297808:True:=trivial
theorem PySem.W.Fast.tw11749209528752420407:True:=trivial
theorem PySem.W.Fast.tw13599626016225751935:True:=trivial
theorem PySem.W.Fast.tw18074552779147263162:True:=trivial
theorem PySem.W.Fast.tw11465179990177875304:True:=trivial
theorem PySem.W.Fast.tw3601287753007599146:True:=trivial
theorem PySem.W.Fast.tw3462308242268582390:True:=trivial
theorem PySem.W.Fast.tw11114052488944992344:True:=trivial
theorem PySem.W.Fast.tw14149259048523562531:True:=trivial
theorem PySem.W.Fast.tw3669958852533579876:True:=trivial
theorem PySem.W.Fast.tw3437164966201136712:True:=trivial
theorem PySem.W.Fast.tw6225156608271214557:True:=trivial
theorem PySem.W.Fast.tw14052596312112122989:True:=trivial
theorem PySem.W.Fast.tw3769880911503449937:True:=trivial
theorem PySem.W.Fast.tw9478758589447407346:True:=trivial
theorem PySem.W.Fast.tw16164711666308286284:True:=trivial
open PySem PySem.W PyProof.Rows
set_option maxRecDepth 100000 in
set_option maxHeartbeats 0 in
theorem PySem.Challenge.cw_countgen_k55_whole_terms_said_holds : PySem.Challenge.rw_countgen_k55_whole_terms_said.Holds := by
 w_on;o_law;k_head;(case hw=>w_witness2)
 k_fill
 refine' L2.YdH (l:=PySem.Challenge.rw_countgen_k55_whole_terms_said) (tabs:=[("part_told",132,128)]) 37 "_law_script" KW.QN ["_law_script","_law_cells","_law_thing_here","_law_kept","_law_term_here","_law_due_here","_law_turn","_law_found"] rfl rfl ⟨rfl,by decide,by decide,rfl⟩ KW.Wi (fun w h Y=>by first | exact PySem.W.kIn_of Y | exact PySem.W.km_in_of Y) ?tR ?tT ?tN ?F
 case tR=>intro p hp;simp only [List.mem_cons,List.not_mem_nil,or_false] at hp;rcases hp with rfl<;>exact ⟨_,rfl⟩
 case tT=>intro w p hp;simp only [List.mem_cons,List.not_mem_nil,or_false] at hp;rcases hp with rfl<;>kernel_rfl
 case tN=>intro w p hp;simp only [List.mem_cons,List.not_mem_nil,or_false] at hp;rcases hp with rfl<;>kernel_rfl
 case F =>
  intro w mg h KX G
  refine' ⟨L2.YcK KX G ?a ?l ?c ?k (fun _ _ _ _ _ _ _ _ => .of_eq rfl),fun base hB hC=>KW.Yd1 ⟨?Z0q,?Z1r,?Z23,?Z24,?Z0b,?Z0r,?ZQ,?Z02,?Z0w,?f_same,?Z00,?Zv,?Zf,?Zw,?Zx,?Zy,?Zm,?Zz,?f_told,?Z0c,?f_said,?Z1s,?ZT,?Zn,?Za,?Ze,?Zo,?Z1g,?ZL,?Z25,?ZA,?Z0A,?Z0B,?Zg,?ZJ,?ZM,?Z26,?Z1t,?Z0a,?b_all,?b_bool,?b_dict,?b_int,?Z2,?b_len,?b_list,?Zd,?b_repr,?b_str,?b_sum,?Z3,?b_zip,?x_CountError,?x_Astray,?t_Astray,?xi_Astray,?xf_Astray,?xn_Astray_mark,?bi_CountError,?i_Astray_CountError,?i_Astray_ValueError,?m_Astray_Astray⟩ _ w base hB (hC _ (.head _))⟩
  (case a=>k_is)
  (case l=>k_is)
  (case c=>k_is)
  (case k=>k_is)
  case Z0q =>
   refine' L2.YH KX G ["thing"] ?a ?l ?c ?k (fun _ _ _ _ _ _ us hl=>by obtain ⟨_,rfl⟩:=KW.us1 hl;rfl)
   (case a=>k_is)
   (case l=>k_is)
   (case c=>k_is)
   (case k=>k_is)
  case Z1r =>
   refine' L2.YH KX G ["thing"] ?a ?l ?c ?k (fun _ _ _ _ _ _ us hl=>by obtain ⟨_,rfl⟩:=KW.us1 hl;rfl)
   (case a=>k_is)
   (case l=>k_is)
   (case c=>k_is)
   (case k=>k_is)
  case Z23 =>
   refine' L2.YH KX G ["thing"] ?a ?l ?c ?k (fun _ _ _ _ _ _ us hl=>by obtain ⟨_,rfl⟩:=KW.us1 hl;rfl)
   (case a=>k_is)
   (case l=>k_is)
   (case c=>k_is)
   (case k=>k_is)
  case Z24 =>
   refine' L2.YH KX G ["thing"] ?a ?l ?c ?k (fun _ _ _ _ _ _ us hl=>by obtain ⟨_,rfl⟩:=KW.us1 hl;rfl)
   (case a=>k_is)
   (case l=>k_is)
   (case c=>k_is)
   (case k=>k_is)
  case Z0b =>
   refine' L2.YH KX G ["thing"] ?a ?l ?c ?k (fun _ _ _ _ _ _ us hl=>by obtain ⟨_,rfl⟩:=KW.us1 hl;rfl)
   (case a=>k_is)
   (case l=>k_is)
   (case c=>k_is)
   (case k=>k_is)
  case Z0r =>
   refine' L2.YH KX G ["thing"] ?a ?l ?c ?k (fun _ _ _ _ _ _ us hl=>by obtain ⟨_,rfl⟩:=KW.us1 hl;rfl)
   (case a=>k_is)
   (case l=>k_is)
   (case c=>k_is)
   (case k=>k_is)
  case ZQ =>
   refine' L2.YH KX G ["thing"] ?a ?l ?c ?k (fun _ _ _ _ _ _ us hl=>by obtain ⟨_,rfl⟩:=KW.us1 hl;rfl)
   (case a=>k_is)
   (case l=>k_is)
   (case c=>k_is)
   (case k=>k_is)
  case Z02 =>
   refine' L2.YH KX G ["thing"] ?a ?l ?c ?k (fun _ _ _ _ _ _ us hl=>by obtain ⟨_,rfl⟩:=KW.us1 hl;rfl)
   (case a=>k_is)
   (case l=>k_is)
   (case c=>k_is)
   (case k=>k_is)
  case Z0w =>
   refine' L2.YH KX G ["one","other"] ?a ?l ?c ?k (fun _ _ _ _ _ _ us hl=>by obtain ⟨_,_,rfl⟩:=KW.us2 hl;rfl)
   (case a=>k_is)
   (case l=>k_is)
   (case c=>k_is)
   (case k=>k_is)
  case f_same =>
   refine' L2.YH KX G ["one","other"] ?a ?l ?c ?k (fun _ _ _ _ _ _ us hl=>by obtain ⟨_,_,rfl⟩:=KW.us2 hl;rfl)
   (case a=>k_is)
   (case l=>k_is)
   (case c=>k_is)
   (case k=>k_is)
  case Z00 =>
   refine' L2.YH KX G ["mark","term","thing","can_take"] ?a ?l ?c ?k (fun _ _ _ _ _ _ us hl=>by obtain ⟨_,_,_,_,rfl⟩:=KW.us4 hl;rfl)
   (case a=>k_is)
   (case l=>k_is)
   (case c=>k_is)
   (case k=>k_is)
  case Zv =>
   refine' L2.Yex KX G ["body","thing"] ?a ?l ?c ?k ?e (fun _ _ _ _ _ _ us hl=>by obtain ⟨_,_,rfl⟩:=KW.us2 hl;rfl)
   (case a=>k_is)
   (case l=>k_is)
   (case c=>k_is)
   (case k=>k_is)
   (case e=>rfl)
  case Zf =>
   refine' L2.YH KX G ["mark","body","thing"] ?a ?l ?c ?k (fun _ _ _ _ _ _ us hl=>by obtain ⟨_,_,_,rfl⟩:=KW.us3 hl;rfl)
   (case a=>k_is)
   (case l=>k_is)
   (case c=>k_is)
   (case k=>k_is)
  case Zw =>
   refine' L2.YH KX G ["body","thing"] ?a ?l ?c ?k (fun _ _ _ _ _ _ us hl=>by obtain ⟨_,_,rfl⟩:=KW.us2 hl;rfl)
   (case a=>k_is)
   (case l=>k_is)
   (case c=>k_is)
   (case k=>k_is)
  case Zx =>
   refine' L2.YH KX G ["body","thing"] ?a ?l ?c ?k (fun _ _ _ _ _ _ us hl=>by obtain ⟨_,_,rfl⟩:=KW.us2 hl;rfl)
   (case a=>k_is)
   (case l=>k_is)
   (case c=>k_is)
   (case k=>k_is)
  case Zy =>
   refine' L2.YH KX G ["body","thing"] ?a ?l ?c ?k (fun _ _ _ _ _ _ us hl=>by obtain ⟨_,_,rfl⟩:=KW.us2 hl;rfl)
   (case a=>k_is)
   (case l=>k_is)
   (case c=>k_is)
   (case k=>k_is)
  case Zm =>
   refine' L2.YH KX G ["body","thing"] ?a ?l ?c ?k (fun _ _ _ _ _ _ us hl=>by obtain ⟨_,_,rfl⟩:=KW.us2 hl;rfl)
   (case a=>k_is)
   (case l=>k_is)
   (case c=>k_is)
   (case k=>k_is)
  case Zz =>
   refine' L2.YH KX G ["body","thing"] ?a ?l ?c ?k (fun _ _ _ _ _ _ us hl=>by obtain ⟨_,_,rfl⟩:=KW.us2 hl;rfl)
   (case a=>k_is)
   (case l=>k_is)
   (case c=>k_is)
   (case k=>k_is)
  case f_told =>
   refine' L2.YH KX G ["term","thing"] ?a ?l ?c ?k (fun _ _ _ _ _ _ us hl=>by obtain ⟨_,_,rfl⟩:=KW.us2 hl;rfl)
   (case a=>k_is)
   (case l=>k_is)
   (case c=>k_is)
   (case k=>k_is)
  case Z0c =>
   refine' L2.YH KX G ["thing"] ?a ?l ?c ?k (fun _ _ _ _ _ _ us hl=>by obtain ⟨_,rfl⟩:=KW.us1 hl;rfl)
   (case a=>k_is)
   (case l=>k_is)
   (case c=>k_is)
   (case k=>k_is)
  case f_said =>
   refine' L2.YH KX G ["term","thing"] ?a ?l ?c ?k (fun _ _ _ _ _ _ us hl=>by obtain ⟨_,_,rfl⟩:=KW.us2 hl;rfl)
   (case a=>k_is)
   (case l=>k_is)
   (case c=>k_is)
   (case k=>k_is)
  case Z1s =>
   refine' L2.YH KX G ["_law_cells","_law_many"] ?a ?l ?c ?k (fun _ _ _ _ _ _ us hl=>by obtain ⟨_,_,rfl⟩:=KW.us2 hl;rfl)
   (case a=>k_is)
   (case l=>k_is)
   (case c=>k_is)
   (case k=>k_is)
  case ZT =>
   refine' L2.YH KX G ["_law_cells","_law_left"] ?a ?l ?c ?k (fun _ _ _ _ _ _ us hl=>by obtain ⟨_,_,rfl⟩:=KW.us2 hl;rfl)
   (case a=>k_is)
   (case l=>k_is)
   (case c=>k_is)
   (case k=>k_is)
  case Zn =>
   refine' L2.YH KX G ["_law_cells","_law_first","_law_left"] ?a ?l ?c ?k (fun _ _ _ _ _ _ us hl=>by obtain ⟨_,_,_,rfl⟩:=KW.us3 hl;rfl)
   (case a=>k_is)
   (case l=>k_is)
   (case c=>k_is)
   (case k=>k_is)
  case Za =>
   refine' L2.YH KX G ["_law_cells","_law_first","_law_left"] ?a ?l ?c ?k (fun _ _ _ _ _ _ us hl=>by obtain ⟨_,_,_,rfl⟩:=KW.us3 hl;rfl)
   (case a=>k_is)
   (case l=>k_is)
   (case c=>k_is)
   (case k=>k_is)
  case Ze =>
   refine' L2.YH KX G ["_law_cells","_law_first","_law_left"] ?a ?l ?c ?k (fun _ _ _ _ _ _ us hl=>by obtain ⟨_,_,_,rfl⟩:=KW.us3 hl;rfl)
   (case a=>k_is)
   (case l=>k_is)
   (case c=>k_is)
   (case k=>k_is)
  case Zo =>
   refine' L2.YH KX G ["_law_cells","_law_wish","_law_left"] ?a ?l ?c ?k (fun _ _ _ _ _ _ us hl=>by obtain ⟨_,_,_,rfl⟩:=KW.us3 hl;rfl)
   (case a=>k_is)
   (case l=>k_is)
   (case c=>k_is)
   (case k=>k_is)
  case Z1g =>
   refine' L2.YH KX G ["_law_thing_here"] ?a ?l ?c ?k (fun _ _ _ _ _ _ us hl=>by obtain ⟨_,rfl⟩:=KW.us1 hl;rfl)
   (case a=>k_is)
   (case l=>k_is)
   (case c=>k_is)
   (case k=>k_is)
  case ZL =>
   refine' L2.YH KX G ["_law_one","_law_other"] ?a ?l ?c ?k (fun _ _ _ _ _ _ us hl=>by obtain ⟨_,_,rfl⟩:=KW.us2 hl;rfl)
   (case a=>k_is)
   (case l=>k_is)
   (case c=>k_is)
   (case k=>k_is)
  case Z25 =>
   refine' L2.YH KX G ["_law_mark","_law_place","_law_one","_law_other"] ?a ?l ?c ?k (fun _ _ _ _ _ _ us hl=>by obtain ⟨_,_,_,_,rfl⟩:=KW.us4 hl;rfl)
   (case a=>k_is)
   (case l=>k_is)
   (case c=>k_is)
   (case k=>k_is)
  case ZA =>
   refine' L2.YH KX G ["_law_mark","_law_place","_law_term_here","_law_thing_here","_law_one"] ?a ?l ?c ?k (fun _ _ _ _ _ _ us hl=>by obtain ⟨_,_,_,_,_,rfl⟩:=KW.us5 hl;rfl)
   (case a=>k_is)
   (case l=>k_is)
   (case c=>k_is)
   (case k=>k_is)
  case Z0A =>
   refine' L2.YH KX G ["_law_mark","_law_body","_law_found"] ?a ?l ?c ?k (fun _ _ _ _ _ _ us hl=>by obtain ⟨_,_,_,rfl⟩:=KW.us3 hl;rfl)
   (case a=>k_is)
   (case l=>k_is)
   (case c=>k_is)
   (case k=>k_is)
  case Z0B =>
   refine' L2.YH KX G ["_law_mark","_law_one","_law_other"] ?a ?l ?c ?k (fun _ _ _ _ _ _ us hl=>by obtain ⟨_,_,_,rfl⟩:=KW.us3 hl;rfl)
   (case a=>k_is)
   (case l=>k_is)
   (case c=>k_is)
   (case k=>k_is)
  case Zg =>
   refine' L2.YH KX G ["_law_body","_law_rows"] ?a ?l ?c ?k (fun _ _ _ _ _ _ us hl=>by obtain ⟨_,_,rfl⟩:=KW.us2 hl;rfl)
   (case a=>k_is)
   (case l=>k_is)
   (case c=>k_is)
   (case k=>k_is)
  case ZJ =>
   refine' L2.YH KX G ["_law_term_here","_law_thing_here"] ?a ?l ?c ?k (fun _ _ _ _ _ _ us hl=>by obtain ⟨_,_,rfl⟩:=KW.us2 hl;rfl)
   (case a=>k_is)
   (case l=>k_is)
   (case c=>k_is)
   (case k=>k_is)
  case ZM =>
   refine' L2.YH KX G ["_law_value"] ?a ?l ?c ?k (fun _ _ _ _ _ _ us hl=>by obtain ⟨_,rfl⟩:=KW.us1 hl;rfl)
   (case a=>k_is)
   (case l=>k_is)
   (case c=>k_is)
   (case k=>k_is)
  case Z26 =>
   refine' L2.YH KX G ["_law_value"] ?a ?l ?c ?k (fun _ _ _ _ _ _ us hl=>by obtain ⟨_,rfl⟩:=KW.us1 hl;rfl)
   (case a=>k_is)
   (case l=>k_is)
   (case c=>k_is)
   (case k=>k_is)
  case Z1t =>
   refine' L2.YH KX G ["_law_term_here","_law_thing_here"] ?a ?l ?c ?k (fun _ _ _ _ _ _ us hl=>by obtain ⟨_,_,rfl⟩:=KW.us2 hl;rfl)
   (case a=>k_is)
   (case l=>k_is)
   (case c=>k_is)
   (case k=>k_is)
  case Z0a =>
   refine' PySem.W.mg_none_of KX G ?a
   (case a=>k_is)
  case b_all =>
   refine' PySem.W.mg_none_of KX G ?a
   (case a=>k_is)
  case b_bool =>
   refine' PySem.W.mg_none_of KX G ?a
   (case a=>k_is)
  case b_dict =>
   refine' PySem.W.mg_none_of KX G ?a
   (case a=>k_is)
  case b_int =>
   refine' PySem.W.mg_none_of KX G ?a
   (case a=>k_is)
  case Z2 =>
   refine' PySem.W.mg_none_of KX G ?a
   (case a=>k_is)
  case b_len =>
   refine' PySem.W.mg_none_of KX G ?a
   (case a=>k_is)
  case b_list =>
   refine' PySem.W.mg_none_of KX G ?a
   (case a=>k_is)
  case Zd =>
   refine' PySem.W.mg_none_of KX G ?a
   (case a=>k_is)
  case b_repr =>
   refine' PySem.W.mg_none_of KX G ?a
   (case a=>k_is)
  case b_str =>
   refine' PySem.W.mg_none_of KX G ?a
   (case a=>k_is)
  case b_sum =>
   refine' PySem.W.mg_none_of KX G ?a
   (case a=>k_is)
  case Z3 =>
   refine' PySem.W.mg_none_of KX G ?a
   (case a=>k_is)
  case b_zip =>
   refine' PySem.W.mg_none_of KX G ?a
   (case a=>k_is)
  case x_CountError =>
   refine' PySem.W.mg_of KX G ?a
   (case a=>k_is)
  case x_Astray =>
   refine' PySem.W.mg_of KX G ?a
   (case a=>k_is)
  case xi_Astray =>
   refine' L2.YeB KX G ["self","mark"] ?aC ?a ?o ?i ?l ?c ?k (fun _ _ _ _ _ _ us hl=>by obtain ⟨_,_,rfl⟩:=KW.us2 hl;rfl)
   (case aC=>k_is)
   (case a=>k_is)
   (case o=>kernel_rfl)
   (case i=>k_is)
   (case l=>k_is)
   (case c=>k_is)
   (case k=>k_is)
  case xf_Astray =>
   refine' ⟨?a,?b,?c⟩
   (case a=>k_is)
   (case b=>kernel_rfl)
   (case c=>k_is)
  case xn_Astray_mark=>k_is
  case bi_CountError =>
   refine' L2.YdP KX G ?a ?b ?c ?d
   (case a=>k_is)
   (case b=>k_is)
   (case c=>k_is)
   (case d=>k_is)
  case t_Astray =>
   refine' ⟨?a,?b,?c,?d,?e,?f⟩
   (case a=>k_is)
   (case b=>k_is)
   (case c=>k_is)
   (case d=>k_is)
   (case e=>k_is)
   (case f=>k_is)
  case i_Astray_CountError=>kit_is
  case i_Astray_ValueError=>kit_is
  case m_Astray_Astray=>kts_exm
