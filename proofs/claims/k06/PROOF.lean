import PyProof.Rows.All
import Wide.All
import OpenK.AllK
import Wide.FinOn
import Lean
import PyProof.EqAt
import PyProof.EqKinds
import PyProof.TupleCall
import PyProof.NeData
import KE.KTryMore
import PyProof.ExcBaseAll.ValueError
import PyProof.ExcArgsOwn
import KE.KIntText
import PyProof.Rows.SetFrom
import PyProof.SetRoads
import PyProof.StrWalks
import PyProof.ListStr
import PyProof.Rows.StrSplitCount
import PyProof.MeetsStr
import PyProof.MeetsStr2
import PyProof.StrOps2
import KE.KTryOn
import PySem.Challenge.RW_countgen_k06_books_read
set_option compiler.extract_closed false
set_option Elab.async false
set_option linter.all false
set_option maxRecDepth 100000
namespace L2
open PySem PySem.Spec PyProof.Rows
abbrev Key:=Sum Int Str
def Ui:Key→Value→Bool
 | .inl k,v=>Value.isInt k v
 | .inr x,v=>Value.isStrOf x v
def keyH (w:World):Key→Int
 | .inl k=>hashInt k
 | .inr x=>hashStr w x
theorem Xe:∀ {k:Key} {v:Value},Ui k v=true→(∃ i t,k=Sum.inl i∧v=Value.int i t)∨(∃ x t,k=Sum.inr x∧v=Value.str x t)
 | .inl i,v,h=>by
  obtain ⟨t,e⟩:=Value.isInt_shape (k:=i) (v:=v) h
  exact .inl ⟨i,t,rfl,e⟩
 | .inr x,v,h=>by
  obtain ⟨t,e⟩:=Value.isStrOf_shape (x:=x) (v:=v) h
  exact .inr ⟨x,t,rfl,e⟩
theorem Ycx (i:Int) (t:Tok):Ui (.inl i) (.int i t)=true:=by simp [Ui,Value.isInt]
theorem Ycy (x:Str) (t:Tok):Ui (.inr x) (.str x t)=true:=by simp [Ui,Value.isStrOf]
theorem YfG (a b:Int):decide ((Sum.inl a:Key)=Sum.inl b)=(a==b):=by
 by_cases e:a=b
 ·subst e;simp
 ·have h:¬ (Sum.inl a:Key)=Sum.inl b:=fun q=>e (Sum.inl.inj q)
  rw [decide_eq_false h]
  exact (beq_eq_false_iff_ne.mpr e).symm
theorem YfH (a b:Str):decide ((Sum.inr a:Key)=Sum.inr b)=decide (a=b):=by
 by_cases e:a=b
 ·subst e;simp
 ·have h:¬ (Sum.inr a:Key)=Sum.inr b:=fun q=>e (Sum.inr.inj q)
  rw [decide_eq_false h,decide_eq_false e]
theorem YfI (a:Int) (b:Str):decide ((Sum.inl a:Key)=Sum.inr b)=false:=decide_eq_false (fun q=>nomatch q)
theorem YfJ (a:Str) (b:Int):decide ((Sum.inr a:Key)=Sum.inl b)=false:=decide_eq_false (fun q=>nomatch q)
def XU (prog:Program) (w:World):PySem.KeyKind prog w Key where
 is:=Ui
 hash:=keyH w
 inj:=fun v a b ha hb=>by
  rcases Xe ha with ⟨i,t,rfl,rfl⟩ | ⟨x,t,rfl,rfl⟩
  ·rcases Xe hb with ⟨j,u,rfl,e⟩ | ⟨y,u,rfl,e⟩
   ·injection e with e1 _;rw [e1]
   ·exact nomatch e
  ·rcases Xe hb with ⟨j,u,rfl,e⟩ | ⟨y,u,rfl,e⟩
   ·exact nomatch e
   ·injection e with e1 _;rw [e1]
 byValue:=fun k v h=>by
  rcases Xe h with ⟨i,t,rfl,rfl⟩ | ⟨x,t,rfl,rfl⟩<;>rfl
 pyHash:=fun hv h=>by
  rcases Xe hv with ⟨i,t,rfl,rfl⟩ | ⟨x,t,rfl,rfl⟩
  ·exact wpAny_pyHash_int h
  ·exact wpAny_pyHash_str h
 eqBool:=fun hu hv h=>by
  rcases Xe hu with ⟨i,t,rfl,rfl⟩ | ⟨x,t,rfl,rfl⟩
  ·rcases Xe hv with ⟨j,u,rfl,rfl⟩ | ⟨y,u,rfl,rfl⟩
   ·rw [YfG] at h;exact wpAny_eqBool_int h
   ·rw [YfI] at h;exact SeqAt.EqAt.int_str i t y u _ _ _ _ h
  ·rcases Xe hv with ⟨j,u,rfl,rfl⟩ | ⟨y,u,rfl,rfl⟩
   ·rw [YfJ] at h;exact SeqAt.EqAt.str_int x t j u _ _ _ _ h
   ·rw [YfH] at h;exact wpAny_eqBool_str h
 «strs»:=fun k x t v h=>by
  rcases Xe h with ⟨i,u,rfl,e⟩ | ⟨y,u,rfl,e⟩
  ·exact nomatch e
  ·injection e with e1 _
   subst e1
   cases v<;>rfl
theorem Ya7 (prog:Program) (w:World) (i:Int) (t:Tok):(XU prog w).is (.inl i) (.int i t)=true:=Ycx i t
theorem Ya8 (prog:Program) (w:World) (x:Str) (t:Tok):(XU prog w).is (.inr x) (.str x t)=true:=Ycy x t
end L2
namespace L2
open PySem PySem.Spec PyProof.Rows
inductive V where
 | non | bl (b:Bool) | int (i:Int) | str (x:Str) | byt (b:Array UInt8) | flt (b:UInt64) | ref (a:Addr) | ty (n:String)
 deriving DecidableEq
def YA:V→Value→Prop
 | .non,u=>u=Value.none
 | .bl b,u=>u=Value.bool b
 | .int i,u=>∃ t,u=Value.int i t
 | .str x,u=>∃ t,u=Value.str x t
 | .byt b,u=>∃ t,u=Value.bytes b t
 | .flt b,u=>∃ t,u=Value.float b t
 | .ref a,u=>u=Value.ref a
 | .ty n,u=>u=Value.type n
abbrev Yr:List V→List Value→Prop:=Paired YA
theorem Yr.length {xs:List V} {us:List Value} (r:Yr xs us):xs.length=us.length:=Paired.length r
theorem Yr.get:∀ {xs:List V} {us:List Value} {i:Nat} {x:V},Yr xs us→xs[i]?=some x→∃ u,us[i]?=some u∧YA x u
 | _,_,_,_,.nil,e=>by simp at e
 | _,_,0,_,.cons r _,e=>by simp at e;subst e;exact ⟨_,rfl,r⟩
 | _,_,i+1,x,.cons _ t,e=>by
  obtain ⟨u,h1,h2⟩:=Yr.get (i:=i) (x:=x) t (by simpa using e)
  exact ⟨u,by simpa using h1,h2⟩
theorem Yr.set {x:V} {u:Value} (r:YA x u):∀ {xs:List V} {us:List Value} (i:Nat),Yr xs us→Yr (xs.set i x) (us.set i u)
 | _,_,_,.nil => .nil
 | _,_,0,.cons _ t => .cons r t
 | _,_,i+1,.cons q t => .cons q (Yr.set r i t)
theorem Yr.append:∀ {xs ys:List V} {us ws:List Value},Yr xs us→Yr ys ws→Yr (xs++ys) (us++ws)
 | _,_,_,_,.nil,s=>s
 | _,_,_,_,.cons r t,s => .cons r (Yr.append t s)
theorem Yr.take:∀ {xs:List V} {us:List Value} (n:Nat),Yr xs us→Yr (xs.take n) (us.take n)
 | _,_,0,_ => .nil
 | _,_,_+1,.nil => .nil
 | _,_,n+1,.cons r t => .cons r (Yr.take n t)
theorem Yr.drop:∀ {xs:List V} {us:List Value} (n:Nat),Yr xs us→Yr (xs.drop n) (us.drop n)
 | _,_,0,r=>r
 | _,_,_+1,.nil => .nil
 | _,_,n+1,.cons _ t=>Yr.drop n t
def W7:Option V→Option Value→Prop
 | some v,some u=>YA v u
 | none,none=>True
 | _,_=>False
def KV {κ:Type}:List (κ×V)→List (κ×Value)→Prop:=Paired fun (p:κ×V) (q:κ×Value)=>p.1=q.1∧YA p.2 q.2
def kV:Key→V
 | .inl i => .int i
 | .inr x => .str x
inductive HO where
 /-- a list -/
 | lst (xs:List V)
 /-- a tuple (never changes) -/
 | tup (xs:List V)
 /-- a dict whose keys are ints and texts;one whose keys are tuples of ints and texts (the empty one is both) -/
 | dK (kvs:List (Key×V)) | dT (kvs:List (List Key×V))
 /-- a set of ints: its members,its size -/
 | set (S:Int→Bool) (n:Nat)
 /-- an instance of the class at C,its dict at dx,its attributes -/
 | ins (C dx:Addr) (fs:List (Str×V))
 /-- the dict of the instance at x -/
 | own (x:Addr)
 /-- the dict of an exception -/
 | xd (fs:List (Str×V))
 /-- a bound method,f of x -/
 | met (f x:Addr)
 /-- a range object lo,lo+1,.. below hi -/
 | rng (lo hi:Int)
 /-- a thing that is known to the object (the script;a dict while a loop walks it): read,never written while it is so -/
 | frz (o:Obj) (u:HO)
 /-- a code object's table -/
 | tbl (ps:Array Value)
 /-- any other thing,by what is true of its one object (a def of one's own: VB a S n:=HO.ext fun h => ..) -/
 | ext (φ:Heap→Prop)
abbrev Hp:=Addr→Option HO
def upd (H:Hp) (a:Addr) (o:HO):Hp:=fun b=>if b=a then some o else H b
theorem Ye {H:Hp} {a:Addr} {o:HO}:upd H a o a=some o:=by unfold upd;rw [if_pos rfl]
theorem Yt {H:Hp} {a b:Addr} {o:HO} (h:b≠a):upd H a o b=H b:=by unfold upd;rw [if_neg h]
theorem Ybj {H:Hp} {a:Addr} {o u:HO}:upd (upd H a o) a u=upd H a u:=by
 funext b;unfold upd;split<;>rfl
theorem Wk {H:Hp} {a b:Addr} {o u:HO} (h:H a=some o) (h':H b=some u) (d:o≠u):a≠b:=by
 intro e;subst e;rw [h] at h';exact d (Option.some.inj h')
theorem YB {H:Hp} {a b:Addr} {o:HO} (h:H a=some o) (h':H b=none):a≠b:=by
 intro e;subst e;rw [h] at h';cases h'
section
variable (P:Program) (w:World)
def YT (H:Hp) (h:Heap) (a:Addr):HO→Prop
 | .lst xs=>xs.length≤sizeLine∧∃ (its:List Value) (n:Nat),Yr xs its∧h.get? a=some { cls := .type "list",data := .seq its.toArray n }
 | .tup xs=>xs.length≤sizeLine∧∃ its:List Value,Yr xs its∧IsTup h a its.toArray
 | .dK kvs=>kvs.length≤sizeLine∧(a==sysModules)=false∧∃ vs,KV kvs vs∧h.DictOf (XU P w) a vs
 | .dT kvs=>kvs.length≤sizeLine∧(a==sysModules)=false∧∃ xs:List (List Key×Addr×Value),
   Paired (fun (p:List Key×V) (q:List Key×Addr×Value)=>p.1=q.1∧H q.2.1=some (.tup (p.1.map kV))∧YA p.2 q.2.2) kvs xs ∧
   ∃ o es ep,h.get? a=some o∧o.ExactDict∧o.data = .dict es ep∧es.toList=xs.map (entryOfKey (tupleKind (XU P w)))∧(xs.map (·.1)).Nodup
 | .set S n=>h.SetOf (intKind P w) a S n
 | .ins C dx fs=>H dx=some (.own a)∧fs.length≤1000∧dx≠a∧h.get? a=some (PySem.W.instObj C dx) ∧
   ∃ mA,h.Ns1 dx mA∧(∀ f,W7 (fs.lookup f) (mA f))∧PySem.Within mA (fs.map (·.1))
 | .own _=>∃ o,h.get? a=some o
 | .xd fs=>∃ mA,h.Ns1 a mA∧∀ f,W7 (fs.lookup f) (mA f)
 | .rng lo hi=>∃ t u v,h.get? a=some { cls := .type "range",data := .fields #[.int lo t,.int hi u,.int 1 v] }
 | .frz o u=>h.get? a=some o∧YT H h a u
 | .tbl ps=>h.get? a=some { cls := .none,data := .fields ps }
 | .met f x=>h.get? a=some (PySem.W.methodObj (.ref f) (.ref x))
 | .ext φ=>φ h∧(∃ o,h.get? a=some o)∧∀ h1 h2:Heap,φ h1→(∀ o,h1.get? a=some o→h2.get? a=some o)→φ h2
def HOk (H:Hp) (h:Heap):Prop:=∀ a o,H a=some o→YT P w H h a o
end
section
variable {P:Program} {w:World} {H H':Hp} {h h':Heap} {a:Addr} {o:HO}
theorem YT.lt (x:YT P w H h a o):a<h.objs.size:=by
 cases o with
 | lst xs=>obtain ⟨_,_,_,_,e⟩:=x;exact Heap.lt_size e
 | tup xs=>obtain ⟨_,_,_,p⟩:=x;exact p.lt
 | dK kvs=>obtain ⟨_,_,_,_,o,_,_,e,_⟩:=x;exact Heap.lt_size e
 | dT kvs=>obtain ⟨_,_,_,_,o,_,_,e,_⟩:=x;exact Heap.lt_size e
 | set S n=>obtain ⟨o,_,_,_,e,_⟩:=x;exact Heap.lt_size e
 | ins C dx fs=>obtain ⟨_,_,_,e,_⟩:=x;exact Heap.lt_size e
 | own y=>obtain ⟨_,e⟩:=x;exact Heap.lt_size e
 | xd fs=>obtain ⟨_,⟨_,_,_,e,_⟩,_⟩:=x;exact Heap.lt_size e
 | rng lo hi=>obtain ⟨_,_,_,e⟩:=x;exact Heap.lt_size e
 | frz ob u=>obtain ⟨e,_⟩:=x;exact Heap.lt_size e
 | tbl ps=>exact Heap.lt_size (show h.get? a=some _ from x)
 | met f y=>exact Heap.lt_size (show h.get? a=some _ from x)
 | ext φ=>obtain ⟨_,⟨_,e⟩,_⟩:=x;exact Heap.lt_size e
theorem Paired.mapP {α β:Type} {F G:α→β→Prop}:∀ {l₁:List α} {l₂:List β},Paired F l₁ l₂→(∀ a b,F a b→G a b)→Paired G l₁ l₂
 | _,_,.nil,_ => .nil
 | _,_,.cons r t,f => .cons (f _ _ r) (Paired.mapP t f)
theorem YT.stay (x:YT P w H h a o) (k:∀ b u,(b=a∨H b=some (.own a))→h.get? b=some u→h'.get? b=some u)
  (ho:∀ b,H b=some (.own a)→H' b=some (.own a)) (ht:∀ b xs,H b=some (.tup xs)→H' b=some (.tup xs)):YT P w H' h' a o:=by
 induction o with
 | lst xs=>obtain ⟨z,its,n,r,e⟩:=x;exact ⟨z,its,n,r,k _ _ (.inl rfl) e⟩
 | tup xs=>obtain ⟨z,its,r,ob,e,c⟩:=x;exact ⟨z,its,r,ob,k _ _ (.inl rfl) e,c⟩
 | dK kvs=>obtain ⟨z,y,vs,r,ob,es,ep,e,c⟩:=x;exact ⟨z,y,vs,r,ob,es,ep,k _ _ (.inl rfl) e,c⟩
 | dT kvs =>
  obtain ⟨z,y,xs,r,ob,es,ep,e,c⟩:=x
  exact ⟨z,y,xs,Paired.mapP r fun p q z=>⟨z.1,ht _ _ z.2.1,z.2.2⟩,ob,es,ep,k _ _ (.inl rfl) e,c⟩
 | set S n=>obtain ⟨ob,es,ep,t,e,c⟩:=x;exact ⟨ob,es,ep,t,k _ _ (.inl rfl) e,c⟩
 | ins C dx fs =>
  obtain ⟨d,z,ne,e,mA,⟨od,es,ep,e2,c⟩,r⟩:=x
  exact ⟨ho _ d,z,ne,k _ _ (.inl rfl) e,mA,⟨od,es,ep,k _ _ (.inr d) e2,c⟩,r⟩
 | own y=>obtain ⟨ob,e⟩:=x;exact ⟨ob,k _ _ (.inl rfl) e⟩
 | xd fs=>obtain ⟨mA,⟨od,es,ep,e,c⟩,r⟩:=x;exact ⟨mA,⟨od,es,ep,k _ _ (.inl rfl) e,c⟩,r⟩
 | rng lo hi=>obtain ⟨t,u,v,e⟩:=x;exact ⟨t,u,v,k _ _ (.inl rfl) e⟩
 | frz ob u ih=>obtain ⟨e,q⟩:=x;exact ⟨k _ _ (.inl rfl) e,ih q⟩
 | tbl ps =>
  have e:h.get? a=some { cls := .none,data := .fields ps }:=x
  show h'.get? a=some { cls := .none,data := .fields ps }
  exact k a _ (.inl rfl) e
 | met f y =>
  have e:h.get? a=some (PySem.W.methodObj (.ref f) (.ref y)):=x
  show h'.get? a=some (PySem.W.methodObj (.ref f) (.ref y))
  exact k a _ (.inl rfl) e
 | ext φ=>obtain ⟨p,⟨o,e⟩,st⟩:=x;exact ⟨st _ _ p fun o q=>k _ _ (.inl rfl) q,⟨o,k _ _ (.inl rfl) e⟩,st⟩
theorem HOk.lt (x:HOk P w H h) (e:H a=some o):a<h.objs.size:=(x a o e).lt
theorem HOk.fresh (x:HOk P w H h) (e:h.objs.size≤a):H a=none:=by
 cases q:H a with
 | none=>rfl
 | some u=>exact absurd (Nat.lt_of_lt_of_le (x.lt q) e) (Nat.lt_irrefl _)
theorem HOk.kept (x:HOk P w H h) (k:∀ b u,h.get? b=some u→h'.get? b=some u):HOk P w H h':=fun a o e =>
 (x a o e).stay (fun b u _ q=>k b u q) (fun _ q=>q) fun _ _ q=>q
theorem HOk.laid (x:HOk P w H h) (k:∀ b u,h.get? b=some u→h'.get? b=some u) (hp:h.objs.size≤a) (new:YT P w (upd H a o) h' a o):HOk P w (upd H a o) h':=fun b u e=>by
 have hn:=x.fresh hp
 by_cases hb:b=a
 ·subst hb;rw [Ye] at e;cases e;exact new
 ·rw [Yt hb] at e
  exact (x b u e).stay (fun c v _ q=>k c v q) (fun c q=>by rw [Yt (YB q hn)];exact q) fun c xs q=>by rw [Yt (YB q hn)];exact q
end
def Rd (H:Hp) (a:Addr) (u:HO):Prop:=H a=some u∨∃ o,H a=some (.frz o u)
theorem Rd.of {H:Hp} {a:Addr} {u:HO} (h:H a=some u):Rd H a u := .inl h
theorem Rd.ok {P:Program} {w:World} {H:Hp} {h:Heap} {a:Addr} {u:HO} (r:Rd H a u) (x:HOk P w H h):YT P w H h a u:=by
 rcases r with r | ⟨o,r⟩
 ·exact x a u r
 ·obtain ⟨_,q⟩:=x a _ r
  exact q
def Mut:Option HO→Prop
 | some (.lst _)=>True
 | some (.dK _)=>True
 | some (.dT _)=>True
 | some (.set _ _)=>True
 | some (.ins _ _ _)=>True
 | some (.ext _)=>True
 | _=>False
section
variable {P:Program} {w:World} {H:Hp} {h h':Heap} {x e:Addr} {o':HO}
theorem HOk.write (ok:HOk P w H h) (mu:Mut (H x)) (he:e=x∨H e=some (.own x)) (k:∀ b u,b≠e→h.get? b=some u→h'.get? b=some u) (heo:∃ u,h'.get? e=some u)
  (new:YT P w (upd H x o') h' x o'):HOk P w (upd H x o') h':=fun b u q=>by
 have nown:∀ c y,H c=some (.own y)→c≠x:=fun c y r z=>by subst z;rw [r] at mu;exact mu
 have ntup:∀ c xs,H c=some (.tup xs)→c≠x:=fun c xs r z=>by subst z;rw [r] at mu;exact mu
 by_cases hb:b=x
 ·subst hb;rw [Ye] at q;cases q;exact new
 ·rw [Yt hb] at q
  by_cases hbe:b=e
  ·have q':H b=some (.own x):=by
    rcases he with z | z
    ·exact absurd (hbe.trans z) hb
    ·rw [hbe];exact z
   rw [q] at q';cases q'
   obtain ⟨v,hv⟩:=heo
   exact ⟨v,by rw [hbe];exact hv⟩
  ·refine (ok b u q).stay (fun c v hc r=>k c v ?_ r) (fun c r=>by rw [Yt (nown c b r)];exact r) fun c xs r=>by rw [Yt (ntup c xs r)];exact r
   rcases hc with rfl | hc
   ·exact hbe
   ·rintro rfl
    rcases he with z | z
    ·exact nown c b hc z
    ·rw [hc] at z;cases z;exact hb rfl
end
structure Un (fs ex:List Addr) (H H':Hp) (h h':Heap):Prop where
 keep:∀ b o,h.get? b=some o→H b=none→b∉fs→b∉ex→h'.get? b=some o
 slot:∀ b o,h.get? b=some o→H b=none→b∈fs→b∉ex→∃ sl,h'.get? b=some { o with slots:=sl }
 free:∀ b o,h.get? b=some o→H b=none→b∉ex→H' b=none
 there:∀ b o,h.get? b=some o→b∉ex→∃ o',h'.get? b=some o'
 tups:∀ b xs,H b=some (.tup xs)→H' b=some (.tup xs)
 frzs:∀ b o u,H b=some (.frz o u)→H' b=some (.frz o u)
 tbls:∀ b ps,H b=some (.tbl ps)→∃ more,H' b=some (.tbl (ps++more))
section
variable {fs fs' ex ex':List Addr} {H H1 H2:Hp} {h h1 h2 h':Heap} {a x e:Addr} {o:HO}
theorem Un.any (u:Un fs ex H H1 h h1) {b:Addr} {ob:Obj} (q:h.get? b=some ob) (n:H b=none) (hx:b∉ex):∃ sl,h1.get? b=some { ob with slots:=sl }:=by
 by_cases hb:b∈fs
 ·exact u.slot b ob q n hb hx
 ·exact ⟨ob.slots,u.keep b ob q n hb hx⟩
theorem Un.trans (a:Un fs ex H H1 h h1) (b:Un fs ex H1 H2 h1 h2):Un fs ex H H2 h h2 where
 keep:=fun c ob q n hc hx=>b.keep c ob (a.keep c ob q n hc hx) (a.free c ob q n hx) hc hx
 slot:=fun c ob q n hc hx=>by
  obtain ⟨sl,e1⟩:=a.slot c ob q n hc hx
  obtain ⟨sl',e2⟩:=b.slot c _ e1 (a.free c ob q n hx) hc hx
  exact ⟨sl',e2⟩
 free:=fun c ob q n hx=>by
  obtain ⟨o',e1⟩:=a.there c ob q hx
  exact b.free c o' e1 (a.free c ob q n hx) hx
 there:=fun c ob q hx=>by
  obtain ⟨o',e1⟩:=a.there c ob q hx
  exact b.there c o' e1 hx
 tups:=fun c xs q=>b.tups c xs (a.tups c xs q)
 frzs:=fun c ob xs q=>b.frzs c ob xs (a.frzs c ob xs q)
 tbls:=fun c ps q=>by
  obtain ⟨m1,e1⟩:=a.tbls c ps q
  obtain ⟨m2,e2⟩:=b.tbls c _ e1
  exact ⟨m1++m2,by rw [e2,Array.append_assoc]⟩
theorem Un.kept (k:∀ b u,h.get? b=some u→h'.get? b=some u):Un fs ex H H h h' :=
 ⟨fun b ob q _ _ _=>k b ob q,fun b ob q _ _ _=>⟨ob.slots,k b ob q⟩,fun _ _ _ n _=>n,fun b ob q _=>⟨ob,k b ob q⟩,fun _ _ q=>q,fun _ _ _ q=>q,fun _ ps q=>⟨#[],by rw [q];simp⟩⟩
theorem Un.refl:Un fs ex H H h h:=Un.kept fun _ _ q=>q
theorem Un.laid (k:∀ b u,h.get? b=some u→h'.get? b=some u) (hp:h.objs.size≤a) (hn:H a=none):Un fs ex H (upd H a o) h h' where
 keep:=fun b u q _ _ _=>k b u q
 slot:=fun b u q _ _ _=>⟨u.slots,k b u q⟩
 free:=fun b u q n _=>by rw [Yt (Nat.ne_of_lt (Nat.lt_of_lt_of_le (Heap.lt_size q) hp))];exact n
 there:=fun b u q _=>⟨u,k b u q⟩
 tups:=fun b xs q=>by rw [Yt (YB q hn)];exact q
 frzs:=fun b u xs q=>by rw [Yt (YB q hn)];exact q
 tbls:=fun b ps q=>⟨#[],by rw [Yt (YB q hn),q];simp⟩
theorem Un.write (mu:Mut (H x)) (he:e=x∨H e=some (.own x)) (k:∀ b u,b≠e→h.get? b=some u→h'.get? b=some u) (heo:∃ u,h'.get? e=some u):Un fs ex H (upd H x o) h h':=by
 have hx:∀ b,H b=none→b≠x:=fun b n z=>by subst z;rw [n] at mu;exact mu
 have hb:∀ b,H b=none→b≠e:=fun b n z=>by
  subst z
  rcases he with r | r
  ·exact hx b n r
  ·rw [n] at r;cases r
 have hm:∀ b u,H b=some u→¬ Mut (some u)→b≠x:=fun b u q nm z=>by subst z;rw [q] at mu;exact nm mu
 refine ⟨fun b u q n _ _=>k b u (hb b n) q,fun b u q n _ _=>⟨u.slots,k b u (hb b n) q⟩,fun b u q n _=>by rw [Yt (hx b n)];exact n,fun b u q _=>?_,
  fun b xs q=>by rw [Yt (hm b _ q fun z=>z)];exact q,fun b u xs q=>by rw [Yt (hm b _ q fun z=>z)];exact q,fun b ps q=>⟨#[],by rw [Yt (hm b _ q fun z=>z),q];simp⟩⟩
 by_cases hbe:b=e
 ·subst hbe;exact heo
 ·exact ⟨u,k b u hbe q⟩
end
def trk (h:Heap) (H:Hp):List Addr:=(List.range h.objs.size).filter fun a=>(H a).isSome
def Vr (h:Heap) (H:Hp):Heap:=PySem.W.hideAll h (trk h H)
theorem Ycz (h:Heap) (H:Hp):(Vr h H).objs.size=h.objs.size:=PySem.W.hideAll_size _ _
theorem YdG {h:Heap} {H:Hp} {b:Addr} {o:Obj} (e:h.get? b=some o) (n:H b=none):(Vr h H).get? b=some o :=
 PySem.W.hideAll_get _ e fun hm=>by
  have q:(H b).isSome=true:=(List.mem_filter.mp hm).2
  rw [n] at q;simp at q
theorem YeQ {h:Heap} {H:Hp} {b:Addr} {o:Obj} (e:(Vr h H).get? b=some o):h.get? b=some o∧H b=none:=by
 have e':h.get? b=some o:=PySem.W.of_hideAll (trk h H) e
 refine ⟨e',?_⟩
 cases q:H b with
 | none=>rfl
 | some x =>
  have hm:b∈trk h H:=List.mem_filter.mpr ⟨List.mem_range.mpr (Heap.lt_size e'),by simp [q]⟩
  have z:(Vr h H).get? b=none:=PySem.W.hideAll_none (trk h H) hm
  rw [z] at e;cases e
def YeR (g h:Heap) (L:Addr):List (Addr×Obj):=(List.range h.objs.size).filterMap fun a=>if a=L∨(g.get? a).isSome=true then none else (h.get? a).map fun o=>(a,o)
def Y5 (g h:Heap) (L d:Addr):List (Addr×Obj):=(YeR g h L).filter fun p=>decide (p.1≠d)
end L2
namespace L2
open PySem PySem.Spec PyProof.Rows
structure Mod (K:PySem.W.Frag) (mg:Str→Option Value) (base:Heap):Prop where
 kin:K.In base
 glob:base.Ns mainGlobals mg
 blt:∃ mb,base.Ns builtinsNs mb∧∀ x:Str,x≠"__name__"→mb x=bootBuiltins x
 nolimit:base.NoLimit
structure Cx where
 prog:Program
 w:World
 K:PySem.W.Frag
 mg:Str→Option Value
 base:Heap
 A:Around
 N:List Str
 s₀:Shared
 H₀:Hp
 env:Env
 outer:List Env
 stack:List Env
 ex:List Addr
 fn:Str→Bool
 calm:Bool
 pn:List (Addr×Obj)
 xe:Value→Shared→Prop
def frs (l:List Env):List Addr:=l.filterMap (·.frame)
abbrev Cx.fs (X:Cx):List Addr:=frs X.outer
def Vis (sc:Scope) (x:Str):Prop:=sc.names.lookup x=some .local∨sc.names.lookup x=some .cell∨sc.names.lookup x=some .free
def Loc (sc:Scope) (x:Str):Prop:=sc.names.lookup x=some .local∨sc.names.lookup x=some .cell
def Look (env:Env) (h:Heap) (m:Str→Option Value) (x:Str) (u:Value):Prop :=
 (env.kindOf x=some .local∧m x=some u)∨((env.kindOf x=some .cell∨env.kindOf x=some .free)∧∃ c,env.cells.lookup x=some c∧h.IsCell c (some u))
structure Cx.Ok (X:Cx):Prop where
 mod:Mod X.K X.mg X.base
 kind:X.env.scope.kind = .function
 glob:X.env.globals=mainGlobals
 blt:X.env.builtins=builtinsNs
 above:X.s₀.heap.objs.size≤X.env.locals
 inj:∀ x y c,X.env.cells.lookup x=some c→X.env.cells.lookup y=some c→x=y
 has:∀ x,(X.env.kindOf x=some .cell∨X.env.kindOf x=some .free)→∃ c,X.env.cells.lookup x=some c
 cab:∀ x c,X.fn x=true→X.env.cells.lookup x=some c→X.s₀.heap.objs.size≤c
 hd:X.calm=true→X.A.handled=none
 frames:X.A.frames=some X.stack
 stk:X.stack=X.outer∨(X.stack=X.env::X.outer∧X.env.frame=some X.env.locals)
 exf:∀ b∈X.ex,b≠X.env.locals∧∀ x c,X.env.cells.lookup x=some c→c≠b
 bs:∀ b o,X.base.get? b=some o→X.s₀.heap.get? b=some o∧X.H₀ b=none
 bsz:X.base.objs.size≤X.s₀.heap.objs.size
 noex:∀ b o,X.base.get? b=some o→b∉X.ex
 exfs:∀ b∈X.ex,b∉X.fs
 funs:X.s₀.heap.FunFrames X.base X.outer
 frf:∀ b∈X.fs,X.H₀ b=none
structure Inv (X:Cx) (pins:List (Addr×Obj)) (σ:List (Option V)) (H:Hp) (s:Shared):Prop where
 ok:X.Ok
 os:s.os=X.s₀.os
 bare:AllBare s.gens
 base:Un X.fs X.ex X.H₀ H X.s₀.heap s.heap
 loc:∃ m,s.heap.Ns X.env.locals m∧∀ (i:Nat) (x:Str) (v:V),X.N[i]?=some x→σ[i]?=some (some v)→Vis X.env.scope x→∃ u,YA v u∧Look X.env s.heap m x u
 cell:∀ x c,X.env.cells.lookup x=some c→∃ v,s.heap.IsCell c v
 free:H X.env.locals=none
 freeC:∀ x c,X.env.cells.lookup x=some c→H c=none
 pin:∀ p∈X.pn++pins,s.heap.get? p.1=some p.2∧H p.1=none∧p.1≠X.env.locals∧p.1∉X.fs∧∀ v,p.2.data ≠ .cell v
 hok:HOk X.prog X.w H s.heap
 len:σ.length=X.N.length
section
variable {X:Cx} {pins:List (Addr×Obj)} {σ:List (Option V)} {H H':Hp} {s:Shared} {h':Heap}
theorem Cx.Ok.nofr (ok:X.Ok) {b:Addr} {o:Obj} (e:X.base.get? b=some o):b∉X.fs:=fun hb=>by
 have:=(ok.funs.mem hb).1
 rw [e] at this;cases this
theorem Inv.bs (I:Inv X pins σ H s):∀ b o,X.base.get? b=some o→s.heap.get? b=some o∧H b=none:=fun b o e =>
 ⟨I.base.keep b o (I.ok.bs b o e).1 (I.ok.bs b o e).2 (I.ok.nofr e) (I.ok.noex b o e),I.base.free b o (I.ok.bs b o e).1 (I.ok.bs b o e).2 (I.ok.noex b o e)⟩
theorem Inv.bk (I:Inv X pins σ H s):∀ b o,X.base.get? b=some o→s.heap.get? b=some o:=fun b o e=>(I.bs b o e).1
theorem Inv.mod (I:Inv X pins σ H s):Mod X.K X.mg X.base:=I.ok.mod
theorem Inv.kIn (I:Inv X pins σ H s):X.K.In s.heap:=I.ok.mod.kin.keeps I.bk
theorem Inv.lt (I:Inv X pins σ H s):X.env.locals<s.heap.objs.size:=let ⟨_,hn,_⟩:=I.loc;hn.lt
theorem Inv.sz (I:Inv X pins σ H s):X.s₀.heap.objs.size≤s.heap.objs.size:=Nat.le_trans I.ok.above (Nat.le_of_lt I.lt)
theorem Inv.nofs (I:Inv X pins σ H s) {a:Addr} (h:s.heap.objs.size≤a):a∉X.fs:=fun hb=>by
 obtain ⟨_,o,ho,_⟩:=I.ok.funs.mem hb
 exact absurd (Nat.lt_of_lt_of_le (Heap.lt_size ho) (Nat.le_trans I.sz h)) (Nat.lt_irrefl _)
theorem Inv.cne (I:Inv X pins σ H s):∀ x c,X.env.cells.lookup x=some c→c≠X.env.locals:=fun x c e z=>by
 obtain ⟨v,o,ho,hd⟩:=I.cell x c e
 obtain ⟨m,⟨o',es,ep,ho',hd',_⟩,_⟩:=I.loc
 rw [z,ho'] at ho;cases ho;rw [hd'] at hd;cases hd
theorem Inv.funs (I:Inv X pins σ H s):s.heap.FunFrames X.base X.outer:=by
 have all:∀ (l:List Env),(∀ b∈frs l,b∈X.fs)→X.s₀.heap.FunFrames X.base l→s.heap.FunFrames X.base l:=by
  intro l
  induction l with
  | nil=>intro _ _;trivial
  | cons env r ih =>
   intro hs hl
   obtain ⟨hk,⟨L,o,hf,hn,ho,hd⟩,hr⟩:=hl
   have hL:L∈X.fs:=hs L (by unfold frs;rw [List.filterMap_cons,hf];exact List.mem_cons_self)
   obtain ⟨sl,e⟩:=I.base.slot L o ho (I.ok.frf L hL) hL fun z=>I.ok.exfs L z hL
   exact ⟨hk,⟨L,_,hf,hn,e,hd⟩,ih (fun b hb=>hs b (by unfold frs;rw [List.filterMap_cons,hf];exact List.mem_cons_of_mem _ hb)) hr⟩
 exact all X.outer (fun _ hb=>hb) I.ok.funs
theorem Inv.stack (I:Inv X pins σ H s):s.heap.FunFrames X.base X.stack:=by
 rcases I.ok.stk with e | ⟨e,hf⟩
 ·rw [e];exact I.funs
 ·rw [e]
  obtain ⟨m,hn,_⟩:=I.loc
  refine .cons (by rw [I.ok.kind];decide) hf hn ?_ I.funs
  exact Heap.get?_none_of_le (Nat.le_trans I.ok.bsz I.ok.above)
theorem Inv.stkSub (I:Inv X pins σ H s):∀ b∈frs X.stack,b∈X.env.locals::X.fs:=fun b hb=>by
 rcases I.ok.stk with e | ⟨e,hf⟩
 ·rw [e] at hb;exact List.mem_cons_of_mem _ hb
 ·rw [e] at hb
  unfold frs at hb
  rw [List.filterMap_cons,hf] at hb
  exact hb
theorem Inv.stkFree (I:Inv X pins σ H s):∀ b∈frs X.stack,H b=none:=fun b hb=>by
 rcases List.mem_cons.mp (I.stkSub b hb) with e | hb
 ·rw [e];exact I.free
 ·obtain ⟨_,o,ho,_⟩:=I.ok.funs.mem hb
  exact I.base.free b o ho (I.ok.frf b hb) fun z=>I.ok.exfs b z hb
theorem Inv.step {g':Array GenState} {t':Nat} {d':Drawn} {ch:List Addr} (I:Inv X pins σ H s)
  (hch:∀ b∈ch,(b∈X.ex∨X.s₀.heap.objs.size≤b)∧b≠X.env.locals∧(∀ x c,X.env.cells.lookup x=some c→c≠b)∧∀ p∈X.pn++pins,p.1≠b)
  (keep:∀ b o,b≠X.env.locals→b∉X.fs→b∉ch→s.heap.get? b=some o→H b=none→h'.get? b=some o)
  (slot:∀ b o,b≠X.env.locals→b∈X.fs→b∉ch→s.heap.get? b=some o→H b=none→∃ sl,h'.get? b=some { o with slots:=sl }) (free:∀ b o,b∉ch→s.heap.get? b=some o→H b=none→H' b=none)
  (there:∀ b o,b∉ch→s.heap.get? b=some o→∃ o',h'.get? b=some o')
  (tups:∀ b xs,H b=some (.tup xs)→H' b=some (.tup xs)) (frzs:∀ b o u,H b=some (.frz o u)→H' b=some (.frz o u)) (tbls:∀ b ps,H b=some (.tbl ps)→∃ more,H' b=some (.tbl (ps++more)))
  (ns:∀ m,s.heap.Ns X.env.locals m→h'.Ns X.env.locals m) (hok:HOk X.prog X.w H' h') (hg:AllBare g') :
  Inv X pins σ H' { s with heap:=h',gens:=g',drawn:=d',toks:=t' }:=by
 have neL:∀ b o,X.s₀.heap.get? b=some o→b≠X.env.locals:=fun b o e=>Nat.ne_of_lt (Nat.lt_of_lt_of_le (Heap.lt_size e) I.ok.above)
 have neC:∀ b o,X.s₀.heap.get? b=some o→b∉X.ex→b∉ch:=fun b o e hx hb=>by
  rcases (hch b hb).1 with z | z
  ·exact hx z
  ·exact absurd (Nat.lt_of_lt_of_le (Heap.lt_size e) z) (Nat.lt_irrefl _)
 have cellK:∀ x c,X.env.cells.lookup x=some c→∀ v,s.heap.IsCell c v→h'.IsCell c v:=fun x c e v ⟨o,ho,hd⟩=>by
  have nch:c∉ch:=fun z=>(hch c z).2.2.1 x c e rfl
  by_cases hc:c∈X.fs
  ·obtain ⟨sl,q⟩:=slot c o (I.cne x c e) hc nch ho (I.freeC x c e)
   exact ⟨_,q,hd⟩
  ·exact ⟨o,keep c o (I.cne x c e) hc nch ho (I.freeC x c e),hd⟩
 refine ⟨I.ok,I.os,hg,⟨fun b o e n hb hx=>?_,fun b o e n hb hx=>?_,fun b o e n hx=>?_,fun b o e hx=>?_,fun b xs e=>tups b xs (I.base.tups b xs e),fun b o xs e=>frzs b o xs (I.base.frzs b o xs e),fun b ps e=>?_⟩,?_,fun x c e=>?_,?_,fun x c e=>?_,fun p hp=>?_,hok,I.len⟩
 ·exact keep b o (neL b o e) hb (neC b o e hx) (I.base.keep b o e n hb hx) (I.base.free b o e n hx)
 ·obtain ⟨sl,e1⟩:=I.base.slot b o e n hb hx
  obtain ⟨sl',e2⟩:=slot b _ (neL b o e) hb (neC b o e hx) e1 (I.base.free b o e n hx)
  exact ⟨sl',e2⟩
 ·obtain ⟨o',e1⟩:=I.base.there b o e hx
  exact free b o' (neC b o e hx) e1 (I.base.free b o e n hx)
 ·obtain ⟨o',e1⟩:=I.base.there b o e hx
  exact there b o' (neC b o e hx) e1
 ·obtain ⟨m1,e1⟩:=I.base.tbls b ps e
  obtain ⟨m2,e2⟩:=tbls b _ e1
  exact ⟨m1++m2,by rw [e2,Array.append_assoc]⟩
 ·obtain ⟨m,hn,hl⟩:=I.loc
  refine ⟨m,ns m hn,fun i x v e1 e2 e3=>?_⟩
  obtain ⟨u,r,l⟩:=hl i x v e1 e2 e3
  refine ⟨u,r,?_⟩
  rcases l with l | ⟨k,c,e,z⟩
  ·exact .inl l
  ·exact .inr ⟨k,c,e,cellK x c e _ z⟩
 ·obtain ⟨v,z⟩:=I.cell x c e
  exact ⟨v,cellK x c e v z⟩
 ·obtain ⟨m,⟨o,_,_,ho,_⟩,_⟩:=I.loc
  exact free _ o (fun z=>(hch _ z).2.1 rfl) ho I.free
 ·obtain ⟨v,o,ho,hd⟩:=I.cell x c e
  exact free c o (fun z=>(hch c z).2.2.1 x c e rfl) ho (I.freeC x c e)
 ·obtain ⟨e,n,ne,nf,d⟩:=I.pin p hp
  have nch:p.1∉ch:=fun z=>(hch p.1 z).2.2.2 p hp rfl
  exact ⟨keep p.1 p.2 ne nf nch e n,free p.1 p.2 nch e n,ne,nf,d⟩
theorem Inv.un {t':Nat} (I:Inv X pins σ H s) (u:Un X.fs [] H H' s.heap h') (hok:HOk X.prog X.w H' h'):Inv X pins σ H' { s with heap:=h',toks:=t' }:=by
 obtain ⟨m,⟨o,es,ep,ho,r⟩,_⟩:=id I.loc
 obtain ⟨sl,hL⟩:=u.any ho I.free (by simp)
 exact I.step (g':=s.gens) (d':=s.drawn) (ch:=[]) (fun _ z=>nomatch z) (fun b o _ hb _ e n=>u.keep b o e n hb (by simp)) (fun b o _ hb _ e n=>u.slot b o e n hb (by simp)) (fun b o _ e n=>u.free b o e n (by simp)) (fun b o _ e=>u.there b o e (by simp)) u.tups u.frzs u.tbls (fun m' hm=>by
  obtain ⟨o',es',ep',ho',r'⟩:=hm
  rw [ho] at ho';cases ho'
  exact ⟨_,es',ep',hL,r'⟩) hok I.bare
theorem Inv.call {g':Array GenState} {t':Nat} {d':Drawn} {ch:List Addr} (I:Inv X pins σ H s) (u:Un (frs X.stack) ch H H' s.heap h') (hok:HOk X.prog X.w H' h') (hg:AllBare g')
  (hch:∀ b∈ch,(b∈X.ex∨X.s₀.heap.objs.size≤b)∧b≠X.env.locals∧(∀ x c,X.env.cells.lookup x=some c→c≠b)∧∀ p∈X.pn++pins,p.1≠b) :
  Inv X pins σ H' { s with heap:=h',gens:=g',drawn:=d',toks:=t' }:=by
 obtain ⟨m,⟨o,es,ep,ho,r⟩,_⟩:=id I.loc
 obtain ⟨sl,hL⟩:=u.any ho I.free fun z=>(hch _ z).2.1 rfl
 exact I.step (ch:=ch) hch (fun b o hL hb hc e n=>u.keep b o e n (fun z=>(List.mem_cons.mp (I.stkSub b z)).elim hL hb) hc) (fun b o _ _ hc e n=>u.any e n hc) (fun b o hc e n=>u.free b o e n hc) (fun b o hc e=>u.there b o e hc) u.tups u.frzs u.tbls (fun m' hm=>by
  obtain ⟨o',es',ep',ho',r'⟩:=hm
  rw [ho] at ho';cases ho'
  exact ⟨_,es',ep',hL,r'⟩) hok hg
theorem Inv.turned {t':Nat} {it:Addr} (I:Inv X pins σ H s) (k:∀ b o,b≠it→s.heap.get? b=some o→h'.get? b=some o) (hn:H it=none) (hL:it≠X.env.locals)
  (h1:it∈X.ex∨X.s₀.heap.objs.size≤it) (h2:∀ x c,X.env.cells.lookup x=some c→c≠it) (h3:∀ p∈X.pn++pins,p.1≠it):Inv X pins σ H { s with heap:=h',toks:=t' }:=by
 have nit:∀ b u,H b=some u→b≠it:=fun b u e z=>by rw [z,hn] at e;cases e
 refine I.step (g':=s.gens) (d':=s.drawn) (ch:=[it]) (fun b hb=>?_) (fun b o _ _ hc e _=>k b o (fun z=>hc (by simp [z])) e) (fun b o _ _ hc e _=>⟨o.slots,k b o (fun z=>hc (by simp [z])) e⟩) (fun _ _ _ _ n=>n)
  (fun b o hc e=>⟨o,k b o (fun z=>hc (by simp [z])) e⟩) (fun _ _ e=>e) (fun _ _ _ e=>e) (fun b ps e=>⟨#[],by rw [e];simp⟩) (fun m hm=>?_) (fun b u e=>?_) I.bare
 ·have e:b=it:=by simpa using hb
  subst e
  exact ⟨h1,hL,h2,h3⟩
 ·obtain ⟨o,es,ep,ho,r⟩:=hm
  exact ⟨o,es,ep,k _ o (Ne.symm hL) ho,r⟩
 ·refine (I.hok b u e).stay (fun c v hc q=>k c v ?_ q) (fun _ q=>q) fun _ _ q=>q
  rcases hc with z | z
  ·rw [z];exact nit b u e
  ·exact nit c _ z
theorem Inv.tok (I:Inv X pins σ H s) (t:Nat):Inv X pins σ H { s with toks:=t }:=I.un (h':=s.heap) (t':=t) Un.refl I.hok
theorem Inv.kept {t':Nat} (I:Inv X pins σ H s) (k:∀ b u,s.heap.get? b=some u→h'.get? b=some u):Inv X pins σ H { s with heap:=h',toks:=t' }:=I.un (Un.kept k) (I.hok.kept k)
theorem Inv.laid {a:Addr} {o:HO} {t':Nat} (I:Inv X pins σ H s) (k:∀ b u,s.heap.get? b=some u→h'.get? b=some u) (hp:s.heap.objs.size≤a) (new:YT X.prog X.w (upd H a o) h' a o) :
  Inv X pins σ (upd H a o) { s with heap:=h',toks:=t' }:=I.un (Un.laid k hp (I.hok.fresh hp)) (I.hok.laid k hp new)
theorem Inv.write {x e:Addr} {o:HO} {t':Nat} (I:Inv X pins σ H s) (mu:Mut (H x)) (he:e=x∨H e=some (.own x)) (k:∀ b u,b≠e→s.heap.get? b=some u→h'.get? b=some u) (heo:∃ u,h'.get? e=some u)
  (new:YT X.prog X.w (upd H x o) h' x o):Inv X pins σ (upd H x o) { s with heap:=h',toks:=t' }:=I.un (Un.write mu he k heo) (I.hok.write mu he k heo new)
theorem Inv.pins_of {pins':List (Addr×Obj)} (I:Inv X pins σ H s) (h:∀ p∈pins',s.heap.get? p.1=some p.2∧H p.1=none∧p.1≠X.env.locals∧p.1∉X.fs∧∀ v,p.2.data ≠ .cell v):Inv X pins' σ H s :=
 ⟨I.ok,I.os,I.bare,I.base,I.loc,I.cell,I.free,I.freeC,fun p hp=>(List.mem_append.mp hp).elim (fun z=>I.pin p (List.mem_append_left _ z)) (h p),I.hok,I.len⟩
theorem Uy {N:List Str} (hN:N.Nodup) {i j:Nat} {x:Str} (a:N[i]?=some x) (b:N[j]?=some x):i=j:=by
 obtain ⟨h1,e1⟩:=List.getElem?_eq_some_iff.mp a
 obtain ⟨h2,e2⟩:=List.getElem?_eq_some_iff.mp b
 exact (List.getElem_inj hN).mp (e1.trans e2.symm)
theorem YcA {M:Model} {A:Around} {E:Value→Shared→Prop} {i:Nat} {x:Str} {v:V} {u:Value} {Q:Unit→Shared→Prop} (I:Inv X pins σ H s) (hN:X.N.Nodup) (hi:X.N[i]?=some x) (hx:Loc X.env.scope x) (r:YA v u)
  (h:∀ s',Inv X pins (σ.set i (some v)) H s'→(∃ a,Heap.SameBut a s.heap s'.heap∧(a=X.env.locals∨X.env.cells.lookup x=some a))→Q () s') (hf:X.fn x=true∨X.env.scope.names.lookup x=some .local:=by first | exact .inl rfl | exact .inr rfl | assumption):wpAny M A (storeName X.env x u) Q E s:=by
 obtain ⟨m,hn,hl⟩:=id I.loc
 have hcls:(X.env.scope.kind == .class||(X.env.scope.kind == .module&&X.env.locals != X.env.globals))=false:=by rw [I.ok.kind];rfl
 have hiσ:i<σ.length:=by rw [I.len];exact (List.getElem?_eq_some_iff.mp hi).1
 have cne:=I.cne
 have tracked:∀ {a:Addr} {h':Heap},(∃ o,s.heap.get? a=some o∧H a=none)→Heap.SameBut a s.heap h'→HOk X.prog X.w H h':=fun {a h'} ha hs b ob e=>by
  obtain ⟨_,_,hfree⟩:=ha
  refine (I.hok b ob e).stay (fun c w' hc q=>(hs.2 c ?_).trans q) (fun _ q=>q) fun _ _ q=>q
  rintro rfl
  rcases hc with rfl | hc
  ·rw [hfree] at e;cases e
  ·rw [hfree] at hc;cases hc
 rcases hx with hk | hk
 ·refine wpAny_storeName_local hk hn (fun h' hn' hs=>?_) hcls
  obtain ⟨oL,_,_,hoL,_⟩:=id hn
  refine h _ ⟨I.ok,I.os,I.bare,⟨fun b o e n hb hx=>?_,fun b o e n hb hx=>?_,I.base.free,fun b o e hx=>?_,I.base.tups,I.base.frzs,I.base.tbls⟩,⟨_,hn',fun j y v' e1 e2 e3=>?_⟩,fun y c e=>?_,I.free,I.freeC,fun p hp=>?_,tracked ⟨oL,hoL,I.free⟩ hs,by simpa using I.len⟩ ⟨_,hs,.inl rfl⟩
  ·exact (hs.2 b (Nat.ne_of_lt (Nat.lt_of_lt_of_le (Heap.lt_size e) I.ok.above))).trans (I.base.keep b o e n hb hx)
  ·obtain ⟨sl,e1⟩:=I.base.slot b o e n hb hx
   exact ⟨sl,(hs.2 b (Nat.ne_of_lt (Nat.lt_of_lt_of_le (Heap.lt_size e) I.ok.above))).trans e1⟩
  ·obtain ⟨o',e1⟩:=I.base.there b o e hx
   exact ⟨o',(hs.2 b (Nat.ne_of_lt (Nat.lt_of_lt_of_le (Heap.lt_size e) I.ok.above))).trans e1⟩
  ·by_cases hj:j=i
   ·subst hj
    rw [hi] at e1;cases e1
    rw [List.getElem?_set_self hiσ] at e2
    cases e2
    exact ⟨u,r,.inl ⟨hk,by simp⟩⟩
   ·rw [List.getElem?_set_ne (Ne.symm hj)] at e2
    obtain ⟨u',r',q⟩:=hl j y v' e1 e2 e3
    refine ⟨u',r',?_⟩
    rcases q with ⟨k,e⟩ | ⟨k,c,e,z⟩
    ·refine .inl ⟨k,?_⟩
     have:y≠x:=fun e=>hj (Uy hN e1 (e▸hi))
     simp [this,e]
    ·exact .inr ⟨k,c,e,z.sameBut hs (cne y c e)⟩
  ·obtain ⟨w',z⟩:=I.cell y c e
   exact ⟨w',z.sameBut hs (cne y c e)⟩
  ·obtain ⟨e,n,ne,nf,d⟩:=I.pin p hp
   exact ⟨(hs.2 p.1 ne).trans e,n,ne,nf,d⟩
 ·have hfn:X.fn x=true:=by
   rcases hf with z | z
   ·exact z
   ·rw [z] at hk;cases hk
  obtain ⟨c,hc⟩:=I.ok.has x (.inl hk)
  obtain ⟨w',z⟩:=I.cell x c hc
  refine wpAny_storeName_cell I.ok.kind hk hc z (fun h' hc' hs=>?_)
  obtain ⟨oc,hoc,hocd⟩:=id z
  refine h { s with heap:=h' } ⟨I.ok,I.os,I.bare,⟨fun b o e n hb hx=>?_,fun b o e n hb hx=>?_,I.base.free,fun b o e hx=>?_,I.base.tups,I.base.frzs,I.base.tbls⟩,⟨m,hn.sameBut hs (Ne.symm (cne x c hc)),fun j y v' e1 e2 e3=>?_⟩,fun y c' e=>?_,I.free,I.freeC,fun p hp=>?_,tracked ⟨oc,hoc,I.freeC x c hc⟩ hs,by simpa using I.len⟩ ⟨c,hs,.inr hc⟩
  ·exact (hs.2 b (Nat.ne_of_lt (Nat.lt_of_lt_of_le (Heap.lt_size e) (I.ok.cab x c hfn hc)))).trans (I.base.keep b o e n hb hx)
  ·obtain ⟨sl,e1⟩:=I.base.slot b o e n hb hx
   exact ⟨sl,(hs.2 b (Nat.ne_of_lt (Nat.lt_of_lt_of_le (Heap.lt_size e) (I.ok.cab x c hfn hc)))).trans e1⟩
  ·obtain ⟨o',e1⟩:=I.base.there b o e hx
   exact ⟨o',(hs.2 b (Nat.ne_of_lt (Nat.lt_of_lt_of_le (Heap.lt_size e) (I.ok.cab x c hfn hc)))).trans e1⟩
  ·by_cases hj:j=i
   ·subst hj
    rw [hi] at e1;cases e1
    rw [List.getElem?_set_self hiσ] at e2
    cases e2
    exact ⟨u,r,.inr ⟨.inl hk,c,hc,hc'⟩⟩
   ·rw [List.getElem?_set_ne (Ne.symm hj)] at e2
    obtain ⟨u',r',q⟩:=hl j y v' e1 e2 e3
    refine ⟨u',r',?_⟩
    rcases q with q | ⟨k,c',e,z'⟩
    ·exact .inl q
    ·refine .inr ⟨k,c',e,z'.sameBut hs ?_⟩
     rintro rfl
     exact hj (Uy hN e1 (I.ok.inj _ _ _ e hc▸hi))
  ·by_cases hcc:c'=c
   ·subst hcc;exact ⟨_,hc'⟩
   ·obtain ⟨w2,z2⟩:=I.cell y c' e
    exact ⟨w2,z2.sameBut hs hcc⟩
  ·obtain ⟨e,n,ne,nf,d⟩:=I.pin p hp
   refine ⟨(hs.2 p.1 ?_).trans e,n,ne,nf,d⟩
   intro q
   rw [q,hoc] at e
   have q':oc=p.2:=Option.some.inj e
   exact d w' (by rw [← q'];exact hocd)
theorem Vs {M:Model} {A:Around} {E:Value→Shared→Prop} {i:Nat} {x:Str} {v:V} {u:Value} {Q:Unit→Shared→Prop} (I:Inv X pins σ H s) (hN:X.N.Nodup) (hi:X.N[i]?=some x) (hx:Loc X.env.scope x) (r:YA v u)
  (h:∀ s',Inv X pins (σ.set i (some v)) H s'→Q () s') (hf:X.fn x=true∨X.env.scope.names.lookup x=some .local:=by first | exact .inl rfl | exact .inr rfl | assumption):wpAny M A (storeName X.env x u) Q E s :=
 YcA I hN hi hx r (fun s' I' _=>h s' I') hf
theorem Inv.call' {s':Shared} {ch:List Addr} (I:Inv X pins σ H s) (ho:s'.os=s.os) (u:Un (frs X.stack) ch H H' s.heap s'.heap) (hok:HOk X.prog X.w H' s'.heap) (hg:AllBare s'.gens)
  (hch:∀ b∈ch,(b∈X.ex∨X.s₀.heap.objs.size≤b)∧b≠X.env.locals∧(∀ x c,X.env.cells.lookup x=some c→c≠b)∧∀ p∈X.pn++pins,p.1≠b):Inv X pins σ H' s':=by
 obtain ⟨h',g',d',t',o'⟩:=s'
 have e:o'=s.os:=ho
 subst e
 exact I.call (g':=g') (t':=t') (d':=d') u hok hg hch
end
abbrev XK:=Value→Option Addr→Hp→Prop
abbrev St:=List (Option V)
abbrev VK:=V→Hp→Prop
abbrev TE:=St→Hp→VK→Prop
abbrev TT:=St→Hp→(Bool→Hp→Prop)→Prop
abbrev TA:=St→Hp→(List V→Hp→Prop)→Prop
structure Ends where
 nx:St→Hp→Prop
 rt:VK
 bk:St→Hp→Prop:=fun _ _=>False
 ct:St→Hp→Prop:=fun _ _=>False
abbrev TS:=Ends→St→Hp→Prop
def EP (X:Cx) (pins:List (Addr×Obj)) (σ:St) (Q:VK) (u:Value) (s':Shared):Prop:=∃ v H',Inv X pins σ H' s'∧YA v u∧Q v H'
def TP (X:Cx) (pins:List (Addr×Obj)) (σ:St) (Q:Bool→Hp→Prop) (b:Bool) (s':Shared):Prop:=∃ H',Inv X pins σ H' s'∧Q b H'
def AP (X:Cx) (pins:List (Addr×Obj)) (σ:St) (Q:List V→Hp→Prop) (us:List Value) (s':Shared):Prop:=∃ vs H',Inv X pins σ H' s'∧Yr vs us∧Q vs H'
def SP (X:Cx) (pins:List (Addr×Obj)) (D:Ends) (f:Flow) (s':Shared):Prop :=
 match f with
 | .next=>∃ σ' H',Inv X pins σ' H' s'∧D.nx σ' H'
 | .brk=>∃ σ' H',Inv X pins σ' H' s'∧D.bk σ' H'
 | .cont=>∃ σ' H',Inv X pins σ' H' s'∧D.ct σ' H'
 | .ret u=>∃ v σ' H',Inv X pins σ' H' s'∧YA v u∧D.rt v H'
def PE (X:Cx) (e:Expr) (t:TE):Prop :=
 ∀ (pins:List (Addr×Obj)) (s:Shared) (σ:St) (H:Hp) (Q:VK),Inv X pins σ H s→t σ H Q→wpAny (model X.prog X.w) X.A (eval e X.env) (EP X pins σ Q) X.xe s
def PT (X:Cx) (e:Expr) (t:TT):Prop :=
 ∀ (pins:List (Addr×Obj)) (s:Shared) (σ:St) (H:Hp) (Q:Bool→Hp→Prop),Inv X pins σ H s→t σ H Q→wpAny (model X.prog X.w) X.A (isTrue e X.env (eval e X.env)) (TP X pins σ Q) X.xe s
def PW (X:Cx) (e:Expr) (t:TT):Prop :=
 ∀ (whole:Sem Value) (pins:List (Addr×Obj)) (s:Shared) (σ:St) (H:Hp) (Q:Bool→Hp→Prop),Inv X pins σ H s→t σ H Q→wpAny (model X.prog X.w) X.A (isTrue e X.env whole) (TP X pins σ Q) X.xe s
theorem PW.pt {X:Cx} {e:Expr} {t:TT} (h:PW X e t):PT X e t:=h _
def PA (X:Cx) (es:List Expr) (t:TA):Prop :=
 ∀ (pos:Pos) (pins:List (Addr×Obj)) (s:Shared) (σ:St) (H:Hp) (Q:List V→Hp→Prop),Inv X pins σ H s→t σ H Q→wpAny (model X.prog X.w) X.A (spliced (backTo pos (starEach es X.env))) (AP X pins σ Q) X.xe s
def PS (X:Cx) (st:Stmt) (t:TS):Prop :=
 ∀ (pins:List (Addr×Obj)) (s:Shared) (σ:St) (H:Hp) (D:Ends),Inv X pins σ H s→t D σ H→wpAny (model X.prog X.w) X.A (exec st X.env) (SP X pins D) X.xe s
def PSs (X:Cx) (st:List Stmt) (t:TS):Prop :=
 ∀ (pins:List (Addr×Obj)) (s:Shared) (σ:St) (H:Hp) (D:Ends),Inv X pins σ H s→t D σ H→wpAny (model X.prog X.w) X.A (execs st X.env) (SP X pins D) X.xe s
theorem thn {α:Type} {t:Sem α} {Q Q':α→Shared→Prop} {M:Model} {A:Around} {E:Value→Shared→Prop} {s:Shared} (h:wpAny M A t Q E s) (hQ:∀ a s,Q a s→Q' a s):wpAny M A t Q' E s:=wpAny_mono h hQ fun _ _ x=>x
end L2
namespace L2
open PySem PySem.Spec PyProof.Rows
section
variable {X:Cx}
def tVar (i:Nat):TE:=fun σ H Q=>∃ v,σ[i]?=some (some v)∧Q v H
def tC (v:V):TE:=fun _ H Q=>Q v H
theorem YfK {i:Nat} {x:Str} {pos:Pos} (hN:X.N[i]?=some x) (hv:Vis X.env.scope x) (hd:(x==("__debug__":Str))=false:=by decide) (hcd:(x==("__classdict__":Str))=false:=by decide):PE X (.Name x pos) (tVar i):=by
 intro pins s σ H Q I h
 obtain ⟨v,e,h⟩:=h
 obtain ⟨m,hn,hl⟩:=I.loc
 obtain ⟨u,r,l⟩:=hl i x v hN e hv
 have fin:EP X pins σ Q u s:=⟨v,H,I,r,h⟩
 rcases l with ⟨hk,hm⟩ | ⟨hk,c,hc,hcell⟩
 ·exact wpAny_Name (wpAny_loadName_local I.ok.kind hk hn hm fin) hd
 ·rcases hk with hk | hk
  ·exact wpAny_Name (wpAny_loadName_cell I.ok.kind hk hc hcell fin) hd
  ·exact wpAny_Name (wpAny_loadName_free I.ok.kind hk hc hcell fin hcd) hd
theorem Yf {i j pos}:PE X (.Constant (.int i) j pos) (tC (.int i)):=fun _ _ _ H _ I h=>wpAny_Constant_int ⟨.int i,H,I.tok _,⟨_,rfl⟩,h⟩
theorem X6 {b j pos}:PE X (.Constant (.bool b) j pos) (tC (.bl b)):=fun _ _ _ H _ I h=>Constant_bool ⟨.bl b,H,I,rfl,h⟩
theorem VU {j pos}:PE X (.Constant .none j pos) (tC .non):=fun _ _ _ H _ I h=>Constant_none ⟨.non,H,I,rfl,h⟩
theorem Yg {x j pos}:PE X (.Constant (.str x) j pos) (tC (.str x)):=fun _ _ _ H _ I h=>Calls.Constant_str ⟨.str x,H,I.tok _,⟨_,rfl⟩,h⟩
def Gl (X:Cx) (x:Str):Prop:=X.env.kindOf x=some .globalImplicit
theorem WL {E:Value→Shared→Prop} {pins:List (Addr×Obj)} {s:Shared} {σ:St} {H:Hp} {x:Str} {u:Value} {pos:Pos} {Q:Value→Shared→Prop} (I:Inv X pins σ H s) (hg:Gl X x) (hm:X.mg x=some u) (h:Q u s)
  (hd:(x==("__debug__":Str))=false:=by decide):wpAny (model X.prog X.w) X.A (eval (.Name x pos) X.env) Q E s :=
 Calls.Name_function_global I.ok.kind hg (Calls.loadGlobal_global (by rw [I.ok.glob];exact I.mod.glob.keeps I.bk) hm h) hd
theorem Va {E:Value→Shared→Prop} {pins:List (Addr×Obj)} {s:Shared} {σ:St} {H:Hp} {x:Str} {u:Value} {pos:Pos} {Q:Value→Shared→Prop} (I:Inv X pins σ H s) (hg:Gl X x) (hm:X.mg x=none) (hv:bootBuiltins x=some u) (h:Q u s)
  (hn:x≠"__name__":=by decide) (hd:(x==("__debug__":Str))=false:=by decide):wpAny (model X.prog X.w) X.A (eval (.Name x pos) X.env) Q E s:=by
 obtain ⟨mb,h1,h2⟩:=I.mod.blt
 exact Calls.Name_function_global I.ok.kind hg (Calls.loadGlobal_builtin (by rw [I.ok.glob];exact I.mod.glob.keeps I.bk) hm (by rw [I.ok.blt];exact h1.keeps I.bk) ((h2 x hn).trans hv) h) hd
theorem U9 {x:Str} {v:V} {u:Value} {pos:Pos} (hg:Gl X x) (hm:X.mg x=some u) (r:YA v u) (hd:(x==("__debug__":Str))=false:=by decide):PE X (.Name x pos) (tC v) :=
 fun _ _ _ H _ I h=>WL I hg hm ⟨v,H,I,r,h⟩ hd
theorem YeS {x:Str} {v:V} {u:Value} {pos:Pos} (hg:Gl X x) (hm:X.mg x=none) (hv:bootBuiltins x=some u) (r:YA v u) (hn:x≠"__name__":=by decide) (hd:(x==("__debug__":Str))=false:=by decide):PE X (.Name x pos) (tC v) :=
 fun _ _ _ H _ I h=>Va I hg hm hv ⟨v,H,I,r,h⟩ hn hd
variable {a b:Expr} {ta tb:TE} {pos:Pos}
def tB (t:TE):TT:=fun σ H Q=>t σ H fun x H1=>∃ c,x = .bl c∧Q c H1
theorem YU {e:Expr} {t:TE} (h:PE X e t) (he:∀ whole,isTrue e X.env whole=(do let v ← whole;standAt e.pos;holding [v] (truthy v)):=by intro _;rfl):PT X e (tB t):=by
 intro pins s σ H Q I hw
 refine isTrue_plain (thn (h pins s σ H _ I hw) fun v s1 ⟨x,H1,I1,r1,q1⟩=>?_) (he _)
 obtain ⟨d,rfl,q⟩:=q1
 cases r1
 exact wpAny_truthy_bool ⟨H1,I1,q⟩
variable {tA tB':TT} {Y5:List Expr}
def tAnd (t u:TT):TT:=fun σ H Q=>t σ H fun c H1=>if c=true then u σ H1 Q else Q false H1
def tOr (t u:TT):TT:=fun σ H Q=>t σ H fun c H1=>if c=true then Q true H1 else u σ H1 Q
def tNot (t:TT):TT:=fun σ H Q=>t σ H fun c H1=>Q (!c) H1
theorem Vb (ha:PT X a tA):PW X (.BoolOp .And [a] pos) tA:=by
 intro wh pins s σ H Q I h
 refine isTrue_and (thn (ha pins s σ H Q I h) fun c s1 e=>?_)
 cases c with
 | true=>exact isTrue_and_nil e
 | false=>exact e
theorem Vc (ha:PT X a tA):PW X (.BoolOp .Or [a] pos) tA:=by
 intro wh pins s σ H Q I h
 refine isTrue_or (thn (ha pins s σ H Q I h) fun c s1 e=>?_)
 cases c with
 | false=>exact isTrue_or_nil e
 | true=>exact e
theorem VV (ha:PT X a tA) (hb:PW X (.BoolOp .And (b::Y5) pos) tB'):PW X (.BoolOp .And (a::b::Y5) pos) (tAnd tA tB'):=by
 intro wh pins s σ H Q I h
 refine isTrue_and (thn (ha pins s σ H _ I h) fun c s1 ⟨H1,I1,q1⟩=>?_)
 cases c with
 | true=>exact hb wh pins s1 σ H1 Q I1 q1
 | false=>exact ⟨H1,I1,q1⟩
theorem Uj (ha:PT X a tA) (hb:PW X (.BoolOp .Or (b::Y5) pos) tB'):PW X (.BoolOp .Or (a::b::Y5) pos) (tOr tA tB'):=by
 intro wh pins s σ H Q I h
 refine isTrue_or (thn (ha pins s σ H _ I h) fun c s1 ⟨H1,I1,q1⟩=>?_)
 cases c with
 | true=>exact ⟨H1,I1,q1⟩
 | false=>exact hb wh pins s1 σ H1 Q I1 q1
theorem Y7 (ha:PT X a tA):PT X (.UnaryOp .Not a pos) (tNot tA):=by
 intro pins s σ H Q I h
 exact isTrue_not (ha pins s σ H (fun c H1=>Q (!c) H1) I h)
def Yen (ta tb:TE):TE:=fun σ H Q=>ta σ H fun x H1=>∃ c,x = .bl c∧if c=true then tb σ H1 Q else Q (.bl false) H1
def tOrV (ta tb:TE):TE:=fun σ H Q=>ta σ H fun x H1=>∃ c,x = .bl c∧if c=true then Q (.bl true) H1 else tb σ H1 Q
def tNotV (ta:TE):TE:=fun σ H Q=>ta σ H fun x H1=>∃ c,x = .bl c∧Q (.bl (!c)) H1
theorem X1 {op} {t:TE} (h:PE X a t):PE X (.BoolOp op [a] pos) t:=fun pins s σ H Q I hw=>BoolOp_one (h pins s σ H Q I hw)
theorem X2 (ha:PE X a ta) (hb:PE X (.BoolOp .And (b::Y5) pos) tb):PE X (.BoolOp .And (a::b::Y5) pos) (Yen ta tb):=by
 intro pins s σ H Q I h
 refine BoolOp_and (thn (ha pins s σ H _ I h) fun v s1 ⟨x,H1,I1,r1,q1⟩=>?_)
 obtain ⟨c,rfl,q1⟩:=q1
 cases r1
 refine wpAny_truthy_bool ?_
 cases c with
 | true=>exact hb pins s1 σ H1 Q I1 q1
 | false=>exact ⟨.bl false,H1,I1,rfl,q1⟩
theorem YbY (ha:PE X a ta) (hb:PE X (.BoolOp .Or (b::Y5) pos) tb):PE X (.BoolOp .Or (a::b::Y5) pos) (tOrV ta tb):=by
 intro pins s σ H Q I h
 refine BoolOp_or (thn (ha pins s σ H _ I h) fun v s1 ⟨x,H1,I1,r1,q1⟩=>?_)
 obtain ⟨c,rfl,q1⟩:=q1
 cases r1
 refine wpAny_truthy_bool ?_
 cases c with
 | false=>exact hb pins s1 σ H1 Q I1 q1
 | true=>exact ⟨.bl true,H1,I1,rfl,q1⟩
def tIf (t:TT) (ta tb:TE):TE:=fun σ H Q=>t σ H fun c H1=>if c=true then ta σ H1 Q else tb σ H1 Q
theorem YdH {c:Expr} (hc:PT X c tA) (ha:PE X a ta) (hb:PE X b tb):PE X (.IfExp c a b pos) (tIf tA ta tb):=by
 intro pins s σ H Q I h
 refine wpAny_IfExp (thn (hc pins s σ H _ I h) fun d s1 ⟨H1,I1,q1⟩=>?_)
 cases d with
 | true=>exact ha pins s1 σ H1 Q I1 q1
 | false=>exact hb pins s1 σ H1 Q I1 q1
end
end L2
namespace L2
open PySem PySem.Spec PyProof.Rows
def SqL (K:PySem.W.Frag) (H:Hp) (a:Addr) (xs:List V):Prop :=
 Rd H a (.lst xs) ∨
  ∃ (o:Obj) (its:Array Value) (n:Nat),K.lookup a=some o∧o.cls = .type "list"∧o.dict=none∧o.data = .seq its n∧its.size≤sizeLine∧Yr xs its.toList
def SqT (K:PySem.W.Frag) (H:Hp) (a:Addr) (xs:List V):Prop :=
 Rd H a (.tup xs) ∨
  ∃ (o:Obj) (its:Array Value) (n:Nat),K.lookup a=some o∧o.cls = .type "tuple"∧o.data = .seq its n∧its.size≤sizeLine∧Yr xs its.toList
def absV:Value→Option V
 | .none=>some .non
 | .bool b=>some (.bl b)
 | .int i _=>some (.int i)
 | .str x _=>some (.str x)
 | .bytes b _=>some (.byt b)
 | .float b _=>some (.flt b)
 | .ref a=>some (.ref a)
 | .type n=>some (.ty n)
 | _=>none
theorem YA.abs {x:V} {u:Value} (r:YA x u):absV u=some x:=by
 cases x with
 | non=>cases r;rfl
 | bl _=>cases r;rfl
 | int _=>obtain ⟨t,rfl⟩:=r;rfl
 | str _=>obtain ⟨t,rfl⟩:=r;rfl
 | byt _=>obtain ⟨t,rfl⟩:=r;rfl
 | flt _=>obtain ⟨t,rfl⟩:=r;rfl
 | ref _=>cases r;rfl
 | ty _=>cases r;rfl
theorem YA.inj {x y:V} {u:Value} (r:YA x u) (q:YA y u):x=y:=Option.some.inj (r.abs.symm.trans q.abs)
theorem Yr.inj:∀ {xs ys:List V} {us:List Value},Yr xs us→Yr ys us→xs=ys
 | _,_,_,.nil,.nil=>rfl
 | _,_,_,.cons r t,.cons r' t'=>by rw [r.inj r',Yr.inj t t']
section
variable {X:Cx} {pins:List (Addr×Obj)} {σ:St} {H:Hp} {s:Shared} {a:Addr} {xs ys:List V}
theorem SqL.of {K:PySem.W.Frag} (h:H a=some (.lst xs)):SqL K H a xs := .inl (.inl h)
theorem SqT.of {K:PySem.W.Frag} (h:H a=some (.tup xs)):SqT K H a xs := .inl (.inl h)
theorem Inv.list (I:Inv X pins σ H s) (h:SqL X.K H a xs):∃ its:List Value,Yr xs its∧PlainL s.heap a its.toArray∧xs.length≤sizeLine:=by
 rcases h with h | ⟨o,its,n,hk,hc,hd,hs,hz,r⟩
 ·obtain ⟨z,its,n,r,e⟩:=h.ok I.hok
  exact ⟨its,r,⟨_,n,e,rfl,rfl,rfl⟩,z⟩
 ·refine ⟨its.toList,r,⟨o,n,I.kIn a o hk,hc,hd,by simpa using hs⟩,?_⟩
  have e:=r.length
  simp only [Array.length_toList] at e
  omega
theorem Inv.tuple (I:Inv X pins σ H s) (h:SqT X.K H a xs):∃ its:List Value,Yr xs its∧IsTup s.heap a its.toArray∧xs.length≤sizeLine:=by
 rcases h with h | ⟨o,its,n,hk,hc,hs,hz,r⟩
 ·obtain ⟨z,its,r,p⟩:=h.ok I.hok
  exact ⟨its,r,p,z⟩
 ·refine ⟨its.toList,r,⟨o,I.kIn a o hk,hc,n,by simpa using hs⟩,?_⟩
  have e:=r.length
  simp only [Array.length_toList] at e
  omega
theorem Inv.list_inj (I:Inv X pins σ H s) (h:SqL X.K H a xs) (h':SqL X.K H a ys):xs=ys:=by
 obtain ⟨its,r,⟨o,n,e,_,_,d⟩,_⟩:=I.list h
 obtain ⟨its',r',⟨o',n',e',_,_,d'⟩,_⟩:=I.list h'
 rw [e] at e';cases e'
 rw [d] at d'
 injection d' with d1 _
 have:its=its':=by simpa using congrArg Array.toList d1
 subst this
 exact r.inj r'
theorem Inv.tuple_inj (I:Inv X pins σ H s) (h:SqT X.K H a xs) (h':SqT X.K H a ys):xs=ys:=by
 obtain ⟨its,r,⟨o,e,_,n,d⟩,_⟩:=I.tuple h
 obtain ⟨its',r',⟨o',e',_,n',d'⟩,_⟩:=I.tuple h'
 rw [e] at e';cases e'
 rw [d] at d'
 injection d' with d1 _
 have:its=its':=by simpa using congrArg Array.toList d1
 subst this
 exact r.inj r'
end
abbrev Cx.wish (X:Cx) (E:Value→Shared→Prop):Cx:={ X with xe:=E }
abbrev Cx.nox (X:Cx):Cx:=X.wish fun _ _=>False
theorem Cx.Ok.wish {X:Cx} (ok:X.Ok) (E:Value→Shared→Prop):(X.wish E).Ok :=
 ⟨ok.mod,ok.kind,ok.glob,ok.blt,ok.above,ok.inj,ok.has,ok.cab,ok.hd,ok.frames,ok.stk,ok.exf,ok.bs,ok.bsz,ok.noex,ok.exfs,ok.funs,ok.frf⟩
theorem Cx.Ok.unwish {X:Cx} {E:Value→Shared→Prop} (ok:(X.wish E).Ok):X.Ok :=
 ⟨ok.mod,ok.kind,ok.glob,ok.blt,ok.above,ok.inj,ok.has,ok.cab,ok.hd,ok.frames,ok.stk,ok.exf,ok.bs,ok.bsz,ok.noex,ok.exfs,ok.funs,ok.frf⟩
section
variable {X:Cx} {pins:List (Addr×Obj)} {σ:St} {H:Hp} {s:Shared} {E:Value→Shared→Prop}
theorem Inv.wish (I:Inv X pins σ H s) (E:Value→Shared→Prop):Inv (X.wish E) pins σ H s:=⟨I.ok.wish E,I.os,I.bare,I.base,I.loc,I.cell,I.free,I.freeC,I.pin,I.hok,I.len⟩
theorem Inv.unwish (I:Inv (X.wish E) pins σ H s):Inv X pins σ H s:=⟨I.ok.unwish,I.os,I.bare,I.base,I.loc,I.cell,I.free,I.freeC,I.pin,I.hok,I.len⟩
theorem SP.unwish {D:Ends} {f:Flow} {s':Shared} (h:SP (X.wish E) pins D f s'):SP X pins D f s':=by
 cases f with
 | next=>obtain ⟨σ',H',I,q⟩:=h;exact ⟨σ',H',I.unwish,q⟩
 | brk=>obtain ⟨σ',H',I,q⟩:=h;exact ⟨σ',H',I.unwish,q⟩
 | cont=>obtain ⟨σ',H',I,q⟩:=h;exact ⟨σ',H',I.unwish,q⟩
 | ret u=>obtain ⟨v,σ',H',I,r,q⟩:=h;exact ⟨v,σ',H',I.unwish,r,q⟩
theorem PE.nox {e:Expr} {t:TE} (h:PE X.nox e t):PE X e t:=fun pins s σ H Q I hw =>
 wpAny_mono (h pins s σ H Q (I.wish _) hw) (fun _ _ ⟨v,H',I',r,q⟩=>⟨v,H',I'.unwish,r,q⟩) fun _ _ z=>False.elim z
theorem PT.nox {e:Expr} {t:TT} (h:PT X.nox e t):PT X e t:=fun pins s σ H Q I hw =>
 wpAny_mono (h pins s σ H Q (I.wish _) hw) (fun _ _ ⟨H',I',q⟩=>⟨H',I'.unwish,q⟩) fun _ _ z=>False.elim z
theorem PSs.nox {st:List Stmt} {t:TS} (h:PSs X.nox st t):PSs X st t:=fun pins s σ H D I hw =>
 wpAny_mono (h pins s σ H D (I.wish _) hw) (fun _ _ q=>q.unwish) fun _ _ z=>False.elim z
end
section
variable {X:Cx} {st:Stmt} {Y5:List Stmt} {t u:TS} {e:Expr} {te:TE} {pos:Pos}
def Yeo:TS:=fun D σ H=>D.nx σ H
def XR (t u:TS):TS:=fun D σ H=>t { D with nx:=u D } σ H
theorem Yi:PSs X [] Yeo:=fun _ _ σ H _ I h=>wpAny_execs_nil ⟨σ,H,I,h⟩
theorem Yc (h1:PS X st t) (h2:PSs X Y5 u):PSs X (st::Y5) (XR t u):=by
 intro pins s σ H D I h
 refine wpAny_execs_cons (thn (h1 pins s σ H { D with nx:=u D } I h) fun f s1 q=>?_)
 cases f with
 | next =>
  obtain ⟨σ',H',I',q⟩:=q
  exact h2 pins s1 σ' H' D I' q
 | ret v=>exact q
 | brk=>exact q
 | cont=>exact q
theorem Yd (h1:PS X st t):PSs X [st] t:=by
 intro pins s σ H D I h
 refine wpAny_execs_cons (thn (h1 pins s σ H D I h) fun f s1 q=>?_)
 cases f with
 | next=>exact wpAny_execs_nil q
 | ret v=>exact q
 | brk=>exact q
 | cont=>exact q
def YfL:TS:=fun D σ H=>D.bk σ H
def tCont:TS:=fun D σ H=>D.ct σ H
theorem Inv.quiet {pins:List (Addr×Obj)} {σ:St} {H:Hp} {s:Shared} (I:Inv X pins σ H s):interactive X.env=false:=by simp [interactive,I.ok.kind]
def Yep (te:TE):TS:=fun D σ H=>te σ H fun _ H1=>D.nx σ H1
theorem YZ (he:PE X e te) (hs:swapsWith e none pos.line X.env=pure false):PS X (.Expr e pos) (Yep te):=by
 intro pins s σ H D I h
 exact wpAny_Expr_any (thn (he pins s σ H _ I h) fun v s1 ⟨x,H1,I1,r1,q1⟩=>⟨σ,H1,I1,q1⟩) I.quiet hs
def tRet (te:TE):TS:=fun D σ H=>te σ H D.rt
theorem Yj (he:PE X e te):PS X (.Return (some e) pos) (tRet te):=by
 intro pins s σ H D I h
 exact wpAny_Return_some (thn (he pins s σ H _ I h) fun v s1 ⟨x,H1,I1,r1,q1⟩=>⟨x,σ,H1,I1,r1,q1⟩)
def tRetN:TS:=fun D _ H=>D.rt .non H
def tIfS (c:TT) (t u:TS):TS:=fun D σ H=>c σ H fun b H1=>if b=true then t D σ H1 else u D σ H1
theorem Yp {c:Expr} {a b:List Stmt} {tc:TT} (hc:PT X c tc) (ha:PSs X a t) (hb:PSs X b u):PS X (.If c a b pos) (tIfS tc t u):=by
 intro pins s σ H D I h
 refine wpAny_If (thn (hc pins s σ H _ I h) fun d s1 ⟨H1,I1,q1⟩=>?_)
 cases d with
 | true=>exact ha pins s1 σ H1 D I1 q1
 | false=>exact hb pins s1 σ H1 D I1 q1
def YcB:TS:=fun _ _ _=>False
theorem YdI:PS X st YcB:=fun _ _ _ _ _ _ h=>h.elim
end
abbrev TG:=V→St→Hp→(St→Hp→Prop)→Prop
abbrev TGs:=List V→St→Hp→(St→Hp→Prop)→Prop
def PG (X:Cx) (target:Expr) (t:TG):Prop :=
 ∀ (pins:List (Addr×Obj)) (s:Shared) (σ:St) (H:Hp) (v:V) (u:Value) (Q:St→Hp→Prop),Inv X pins σ H s→YA v u→t v σ H Q →
  wpAny (model X.prog X.w) X.A (assign target X.env u) (fun _ s'=>∃ σ' H',Inv X pins σ' H' s'∧Q σ' H') X.xe s
def PGs (X:Cx) (ts:List Expr) (t:TGs):Prop :=
 ∀ (pins:List (Addr×Obj)) (s:Shared) (σ:St) (H:Hp) (vs:List V) (us:List Value) (Q:St→Hp→Prop),Inv X pins σ H s→Yr vs us→t vs σ H Q →
  wpAny (model X.prog X.w) X.A (assignInOrder ((assignEach ts X.env).map (·.2)) us) (fun _ s'=>∃ σ' H',Inv X pins σ' H' s'∧Q σ' H') X.xe s
abbrev TSet:=V→V→V→Hp→(Hp→Prop)→Prop
def PSet (X:Cx) (t:TSet):Prop :=
 ∀ (pins:List (Addr×Obj)) (s:Shared) (σ:St) (H:Hp) (o i v:V) (ov iv u:Value) (Q:Hp→Prop),Inv X pins σ H s→YA o ov→YA i iv→YA v u→t o i v H Q →
  wpAny (model X.prog X.w) X.A (setItem ov iv u) (fun _ s'=>∃ H',Inv X pins σ H' s'∧Q H') X.xe s
abbrev TIp:=V→V→Hp→VK→Prop
def PIp (X:Cx) (op:Operator) (t:TIp):Prop :=
 ∀ (pins:List (Addr×Obj)) (s:Shared) (σ:St) (H:Hp) (x y:V) (v u:Value) (Q:VK),Inv X pins σ H s→YA x v→YA y u→t x y H Q →
  wpAny (model X.prog X.w) X.A (inplaceOp op v u) (EP X pins σ Q) X.xe s
section
variable {X:Cx} {pos:Pos}
def Ys (i:Nat):TG:=fun v σ H Q=>Q (σ.set i (some v)) H
theorem Yq {i:Nat} {x:Str} (hN:X.N.Nodup) (hi:X.N[i]?=some x) (hx:Loc X.env.scope x) (hf:X.fn x=true∨X.env.scope.names.lookup x=some .local:=by first | exact .inl rfl | exact .inr rfl | assumption):PG X (.Name x pos) (Ys i):=by
 intro pins s σ H v u Q I r h
 exact wpAny_assign_Name (Vs I hN hi hx r (fun s' I'=>⟨_,H,I',h⟩) hf)
def Xz:TGs:=fun vs σ H Q=>vs=[]∧Q σ H
def YQ (t:TG) (u:TGs):TGs:=fun vs σ H Q=>∃ v r,vs=v::r∧t v σ H fun σ' H'=>u r σ' H' Q
theorem Xf:PGs X [] Xz:=by
 intro pins s σ H vs us Q I r h
 obtain ⟨e,h⟩:=h
 subst e
 cases r
 exact assignInOrder_nil ⟨σ,H,I,h⟩
theorem YJ {e:Expr} {es:List Expr} {t:TG} {u:TGs} (h1:PG X e t) (h2:PGs X es u)
  (hs:(assignEach (e::es) X.env).map (·.2)=assign e X.env::(assignEach es X.env).map (·.2)):PGs X (e::es) (YQ t u):=by
 intro pins s σ H vs us Q I r h
 obtain ⟨v,vr,e1,h⟩:=h
 subst e1
 cases r with
 | cons r rr =>
  rw [hs]
  refine assignInOrder_cons (thn (h1 pins s σ H _ _ _ I r h) fun _ s1 ⟨σ1,H1,I1,q1⟩=>?_)
  exact h2 pins s1 σ1 H1 _ _ Q I1 rr q1
def XA (K:PySem.W.Frag) (n:Nat) (t:TGs):TG:=fun v σ H Q=>∃ a xs,v = .ref a∧SqT K H a xs∧xs.length=n∧t xs σ H Q
theorem Xq {es:List Expr} {k:Nat} {t:TGs} {n:Nat} (hc:X.calm=true) (h:PGs X es t)
  (hn:(assignEach es X.env).length=n) (hst:(assignEach es X.env).findIdx? (·.1)=none):PG X (.Tuple es k pos) (XA X.K n t):=by
 intro pins s σ H v u Q I r hw
 obtain ⟨a,xs,e1,hq,hl,hw⟩:=hw
 subst e1
 cases r
 obtain ⟨its,rv,ht,hz⟩:=I.tuple hq
 refine assign_Tuple_tuple (I.ok.hd hc) ht (by simp [hn,← hl,rv.length]) hst fun h' hx=>?_
 have I1:Inv X pins σ H { s with heap:=h' }:=I.kept (t':=s.toks) fun b o e=>hx b o (Nat.ne_of_lt (Heap.lt_size e)) e
 exact h pins _ σ H xs _ Q I1 (by simpa using rv) hw
def gSub (to ti:TE) (t:TSet):TG:=fun v σ H Q=>to σ H fun o H1=>ti σ H1 fun i H2=>t o i v H2 fun H3=>Q σ H3
theorem YfM {o i:Expr} {to ti:TE} {t:TSet} (ho:PE X o to) (hi:PE X i ti) (hs:PSet X t)
  (ha:∀ v,assign (.Subscript o i pos) X.env v=(do
   let ov ← holding [v] (eval o X.env)
   let iv ← holding [v,ov] (eval i X.env)
   standAt pos
   holding [v,ov,iv] (setItem ov iv v)
   release [v,ov,iv] [])):PG X (.Subscript o i pos) (gSub to ti t):=by
 intro pins s σ H v u Q I r h
 rw [ha]
 refine wpAny_bind (wpAny_holding (thn (ho pins s σ H _ I h) fun ov s1 ⟨x,H1,I1,r1,q1⟩=>?_))
 refine wpAny_bind (wpAny_holding (thn (hi pins s1 σ H1 _ I1 q1) fun iv s2 ⟨y,H2,I2,r2,q2⟩=>?_))
 refine wpAny_bind (wpAny_standAt (wpAny_bind (wpAny_holding (thn (hs pins s2 σ H2 x y v ov iv u _ I2 r1 r2 r q2) fun _ s3 ⟨H3,I3,q3⟩=>?_))))
 exact wpAny_release ⟨σ,H3,I3,q3⟩
def Q3 (te:TE) (g:TG):TS:=fun D σ H=>te σ H fun x H1=>g x σ H1 D.nx
theorem YfN {tg e:Expr} {te:TE} {g:TG} (he:PE X e te) (hg:PG X tg g) (hs:swapsWithSole [tg] e pos.line X.env=pure false) (hw:swappedStores [tg] e X.env=pure none)
  (h1:(assignEach [tg] X.env).map (·.2)=[assign tg X.env]):PS X (.Assign [tg] e pos) (Q3 te g):=by
 intro pins s σ H D I h
 refine wpAny_Assign_stores (thn (he pins s σ H _ I h) fun v s1 ⟨x,H1,I1,r1,q1⟩=>?_) hs hw
 rw [h1]
 exact thn (hg pins s1 σ H1 x v _ I1 r1 q1) fun _ s2 q=>q
theorem Yv {i:Nat} {x:Str} {e:Expr} {te:TE} {pos':Pos} (hN:X.N.Nodup) (hi:X.N[i]?=some x) (hx:Loc X.env.scope x) (he:PE X e te) (hs:swapsWith e (some (.Name x pos')) pos.line X.env=pure false:=by rfl) (hf:X.fn x=true∨X.env.scope.names.lookup x=some .local:=by first | exact .inl rfl | exact .inr rfl | assumption) :
  PS X (.Assign [.Name x pos'] e pos) (Q3 te (Ys i)):=by
 intro pins s σ H D I h
 refine wpAny_Assign_Name (thn (he pins s σ H _ I h) fun v s1 ⟨y,H1,I1,r1,q1⟩=>?_) hs
 exact Vs I1 hN hi hx r1 (fun s2 I2=>⟨_,H1,I2,q1⟩) hf
def tAug (i:Nat) (te:TE) (ti:TIp):TS:=fun D σ H=>∃ x,σ[i]?=some (some x)∧te σ H fun y H1=>ti x y H1 fun z H2=>D.nx (σ.set i (some z)) H2
theorem YcC {i:Nat} {x:Str} {e:Expr} {te:TE} {op:Operator} {ti:TIp} {pos':Pos} (hN:X.N.Nodup) (hi:X.N[i]?=some x) (hx:Loc X.env.scope x) (he:PE X e te) (ho:PIp X op ti) (hf:X.fn x=true∨X.env.scope.names.lookup x=some .local) :
  PS X (.AugAssign (.Name x pos') op e pos) (tAug i te ti):=by
 intro pins s σ H D I h
 obtain ⟨v,e1,h⟩:=h
 obtain ⟨m,hn,hl⟩:=I.loc
 have vis:Vis X.env.scope x:=by rcases hx with k | k;exact .inl k;exact .inr (.inl k)
 obtain ⟨u,r,l⟩:=hl i x v hi e1 vis
 refine wpAny_AugAssign_Name ?_
 have go:wpAny (model X.prog X.w) X.A (eval e X.env) (fun w s₂=>wpAny (model X.prog X.w) X.A (inplaceOp op u w) (fun r s₃=>wpAny (model X.prog X.w) X.A (storeName X.env x r) (fun _=>SP X pins D .next) X.xe s₃) X.xe s₂) X.xe s:=by
  refine thn (he pins s σ H _ I h) fun w s1 ⟨y,H1,I1,r1,q1⟩=>?_
  refine thn (ho pins s1 σ H1 v y u w _ I1 r r1 q1) fun z s2 ⟨zv,H2,I2,r2,q2⟩=>?_
  exact Vs I2 hN hi hx r2 (fun s3 I3=>⟨_,H2,I3,q2⟩) hf
 rcases l with ⟨hk,hm⟩ | ⟨hk,c,hc,hcell⟩
 ·exact wpAny_loadName_local I.ok.kind hk hn hm go
 ·rcases hk with hk | hk
  ·exact wpAny_loadName_cell I.ok.kind hk hc hcell go
  ·rcases hx with k | k
   ·have:X.env.scope.names.lookup x=some .free:=hk
    rw [k] at this;cases this
   ·have:X.env.scope.names.lookup x=some .free:=hk
    rw [k] at this;cases this
def ipI (f:Int→Int→Int):TIp:=fun x y H Q=>∃ i j,x = .int i∧y = .int j∧Q (.int (f i j)) H
theorem YfO:PIp X .Add (ipI fun i j=>i+j):=by
 intro pins s σ H x y v u Q I r1 r2 h
 obtain ⟨i,j,e1,e2,q⟩:=h
 subst e1;subst e2
 obtain ⟨t,rfl⟩:=r1
 obtain ⟨t',rfl⟩:=r2
 exact iadd_int ⟨.int _,H,I.tok _,⟨_,rfl⟩,q⟩
theorem YfP:PIp X .Sub (ipI fun i j=>i - j):=by
 intro pins s σ H x y v u Q I r1 r2 h
 obtain ⟨i,j,e1,e2,q⟩:=h
 subst e1;subst e2
 obtain ⟨t,rfl⟩:=r1
 obtain ⟨t',rfl⟩:=r2
 exact isub_int ⟨.int _,H,I.tok _,⟨_,rfl⟩,q⟩
end
section
variable {X:Cx} {pos:Pos}
def YfQ (c:TT) (tb:TS):TS:=fun D σ H=>∃ W:Nat→St→Hp→Prop,(∃ m,W m σ H)∧∀ m σ H,W m σ H →
 c σ H fun b H1=>if b=true then ∃ N:St→Hp→Prop,(∀ σ' H',N σ' H'→∃ m',m'<m∧W m' σ' H')∧tb { D with nx:=N,ct:=N,bk:=D.nx } σ H1 else D.nx σ H1
theorem Q4 {c:Expr} {body:List Stmt} {tc:TT} {tb:TS} (hp:PassesOwn (model X.prog X.w) X.A X.env X.xe) (hc:PT X c tc) (hb:PSs X body tb):PS X (.While c body [] pos) (YfQ tc tb):=by
 intro pins s σ H D I h
 obtain ⟨W,⟨m0,w0⟩,turn⟩:=h
 refine wpAny_While (codeAny_whileLoop (fun n s'=>∃ σ' H',Inv X pins σ' H' s'∧W n σ' H') ?_ m0 ⟨σ,H,I,w0⟩)
 rintro n s1 ⟨σ1,H1,I1,w1⟩
 refine wpAny_passesOwn hp (thn (hc pins s1 σ1 H1 _ I1 (turn n σ1 H1 w1)) fun b s2 ⟨H2,I2,q2⟩=>?_)
 cases b with
 | true =>
  obtain ⟨N,hN,q2⟩:=q2
  rw [if_pos rfl]
  refine wpAny_passesOwn hp (thn (hb pins s2 σ1 H2 _ I2 q2) fun f s3 q3=>?_)
  cases f with
  | next =>
   obtain ⟨σ3,H3,I3,n3⟩:=q3
   obtain ⟨m',hm,w3⟩:=hN σ3 H3 n3
   exact ⟨m',hm,σ3,H3,I3,w3⟩
  | cont =>
   obtain ⟨σ3,H3,I3,n3⟩:=q3
   obtain ⟨m',hm,w3⟩:=hN σ3 H3 n3
   exact ⟨m',hm,σ3,H3,I3,w3⟩
  | brk=>exact q3
  | ret v=>exact q3
 | false =>
  rw [if_neg Bool.false_ne_true]
  exact wpAny_execs_nil ⟨σ1,H2,I2,q2⟩
end
structure It where
 go:Nat→Hp→Prop
 yld:Nat→Hp→V→Hp→Prop
 stop:Nat→Hp→Prop
def XB (X:Cx) (pins:List (Addr×Obj)) (H:Hp) (b:Addr):Prop :=
 H b=none∧b≠X.env.locals∧b∉X.fs∧(b∈X.ex∨X.s₀.heap.objs.size≤b)∧(∀ x c,X.env.cells.lookup x=some c→c≠b)∧∀ p∈X.pn++pins,p.1≠b
theorem Inv.fpOk {X:Cx} {pins:List (Addr×Obj)} {σ:St} {H H':Hp} {s:Shared} {b:Addr} (I:Inv X pins σ H s) (hb:s.heap.objs.size≤b) (hn:H' b=none):XB X pins H' b:=by
 refine ⟨hn,Nat.ne_of_gt (Nat.lt_of_lt_of_le I.lt hb),I.nofs hb,.inr (Nat.le_trans I.sz hb),fun x c e z=>?_,fun p hp z=>?_⟩
 ·obtain ⟨v,q⟩:=I.cell x c e
  exact absurd (Nat.lt_of_lt_of_le q.lt (by rw [z];exact hb)) (Nat.lt_irrefl _)
 ·exact absurd (Nat.lt_of_lt_of_le (Heap.lt_size (I.pin p hp).1) (by rw [z];exact hb)) (Nat.lt_irrefl _)
structure Turn (P:Program) (w:World) (K:PySem.W.Frag) (tg:Expr) (J:It) (fp:List Addr) (it:Addr) (tn:Nat→Heap→Prop):Prop where
 mem:it∈fp
 obj:∀ i h,tn i h→∀ b∈fp,∃ o,h.get? b=some o∧∀ v,o.data ≠ .cell v
 keep:∀ i h h',tn i h→(∀ b∈fp,∀ o,h.get? b=some o→h'.get? b=some o)→tn i h'
 item:∀ (X:Cx),X.prog=P→X.w=w→X.K=K→X.calm=true→∀ (i:Nat) (pins:List (Addr×Obj)) (s:Shared) (σ:St) (H:Hp) (E:Value→Shared→Prop),Inv X pins σ H s→(∀ b∈fp,XB X pins H b)→tn i s.heap→J.go i H →
  wpAny (model P w) X.A (pyNext (.ref it)) (fun r s1=>∃ u,r=some u ∧
   wpAny (model P w) X.A (letOwnedTupleGo tg (.ref it) u) (fun _ s2=>∃ x H',Inv X pins σ H' s2∧YA x u∧J.yld i H x H'∧tn (i+1) s2.heap∧∀ b∈fp,H' b=none) E s1) E s
 done:∀ (X:Cx),X.prog=P→X.w=w→X.K=K→X.calm=true→∀ (i:Nat) (pins:List (Addr×Obj)) (s:Shared) (σ:St) (H:Hp) (E:Value→Shared→Prop),Inv X pins σ H s→(∀ b∈fp,XB X pins H b)→tn i s.heap→J.stop i H →
  wpAny (model P w) X.A (pyNext (.ref it)) (fun r s1=>r=none∧Inv X pins σ H s1) E s
 self:∀ (A:Around) (i:Nat) (s:Shared) (Q:Value→Shared→Prop) (E:Value→Shared→Prop),tn i s.heap→Q (.ref it) s→wpAny (model P w) A (pyIter (.ref it)) Q E s
abbrev TI:=St→Hp→(It→Hp→Prop)→Prop
def PIE (X:Cx) (pins:List (Addr×Obj)) (σ:St) (tg:Expr) (R:It→Hp→Prop) (itv:Value) (s2:Shared):Prop :=
 ∃ (it:Addr) (fp:List Addr) (tn:Nat→Heap→Prop) (J:It) (H':Hp),itv = .ref it∧Inv X pins σ H' s2∧Turn X.prog X.w X.K tg J fp it tn∧tn 0 s2.heap∧(∀ b∈fp,XB X pins H' b)∧R J H'
def PI (X:Cx) (tg iter:Expr) (wi:TI):Prop :=
 ∀ (pins:List (Addr×Obj)) (s:Shared) (σ:St) (H:Hp) (R:It→Hp→Prop),Inv X pins σ H s→wi σ H R →
  wpAny (model X.prog X.w) X.A (eval iter X.env) (fun v s1=>wpAny (model X.prog X.w) X.A (pyIter v) (PIE X pins σ tg R) X.xe s1) X.xe s
theorem QS {M:Model} {A:Around} {E:Value→Shared→Prop} {s:Shared} {tg:Expr} {it:Addr} {u:Value} {o:Obj} {n:String} {vs:Array Value} {Q:Unit→Shared→Prop} (ho:s.heap.get? it=some o) (hc:o.cls = .type n) (hd:o.data = .fields vs)
  (hn:["enumerate","zip","dict_itemiterator","dict_reverseitemiterator","odict_iterator","itertools.zip_longest","itertools.pairwise"].contains n=false) (hQ:Q () s):wpAny M A (letOwnedTupleGo tg (.ref it) u) Q E s:=by
 unfold letOwnedTupleGo
 cases tg<;>first
  | exact wpAny_pure hQ
  | (cases u<;>first
    | exact wpAny_pure hQ
    | (refine wpAny_bind (wpAny_load ho ?_)
       rw [hc,hd]
       show wpAny M A (if (["enumerate","zip","dict_itemiterator","dict_reverseitemiterator","odict_iterator","itertools.zip_longest","itertools.pairwise"].contains n&&vs[0]?==some (rawInt _))=true then _ else _) Q E s
       rw [if_neg (by intro h;rw [hn,Bool.false_and] at h;cases h)]
       exact wpAny_pure hQ))
def Itl (K:PySem.W.Frag) (a:Addr):It :=
 ⟨fun i H=>∃ xs x,SqL K H a xs∧xs[i]?=some x,fun i H x H'=>H'=H∧∀ xs,SqL K H a xs→xs[i]?=some x,fun i H=>∃ xs,SqL K H a xs∧xs.length≤i⟩
def Itt (K:PySem.W.Frag) (a:Addr):It :=
 ⟨fun i H=>∃ xs x,SqT K H a xs∧xs[i]?=some x,fun i H x H'=>H'=H∧∀ xs,SqT K H a xs→xs[i]?=some x,fun i H=>∃ xs,SqT K H a xs∧xs.length≤i⟩
def Itr (lo:Int) (n:Nat):It:=⟨fun i _=>i<n,fun i H x H'=>H'=H∧x = .int (lo+i),fun i _=>n≤i⟩
theorem YcD {P:Program} {w:World} {K:PySem.W.Frag} {tg:Expr} (a it:Addr):Turn P w K tg (Itl K a) [it] it (fun i h=>h.IsListIter it a i) where
 mem:=by simp
 obj:=fun i h st b hb=>by
  have e:b=it:=by simpa using hb
  subst e
  obtain ⟨o,e,c,d⟩:=st
  exact ⟨o,e,fun v z=>by rw [d] at z;cases z⟩
 keep:=fun i h h' st k=>st.at fun o e=>k it (by simp) o e
 item:=by
  intro X hP hw hK hc i pins s σ H E I hf st hg
  subst hP hw hK
  obtain ⟨xs,x,hq,hx⟩:=hg
  obtain ⟨its,rv,p,hz⟩:=I.list hq
  obtain ⟨u,hu,ru⟩:=rv.get hx
  obtain ⟨f0,f1,f2,f3,f4,f5⟩:=hf it (by simp)
  refine wpAny_pyNext_list_item st p.isList (x:=u) (by simpa using hu) fun h' st' sb=>?_
  have I1:Inv X pins σ H { s with heap:=h' }:=I.turned (t':=s.toks) (fun b o hb e=>(sb.2 b hb).trans e) f0 f1 f3 f4 f5
  obtain ⟨o,e,c,d⟩:=id st'
  exact ⟨u,rfl,QS (s:={ s with heap:=h' }) e c d (by decide) ⟨x,H,I1,ru,⟨rfl,fun ys hy=>by rw [I.list_inj hy hq];exact hx⟩,st',fun b hb=>(hf b hb).1⟩⟩
 done:=by
  intro X hP hw hK hc i pins s σ H E I hf st hg
  subst hP hw hK
  obtain ⟨xs,hq,hx⟩:=hg
  obtain ⟨its,rv,p,hz⟩:=I.list hq
  obtain ⟨f0,f1,f2,f3,f4,f5⟩:=hf it (by simp)
  have hl:=rv.length
  exact wpAny_pyNext_list_end (I.ok.hd hc) st p.isList (by simp;omega) fun h' eb=>⟨rfl,I.turned (t':=s.toks) (fun b o hb e=>eb b o hb e) f0 f1 f3 f4 f5⟩
 self:=fun _ _ _ _ _ st h=>wpAny_pyIter_listiter st h
theorem YbZ {P:Program} {w:World} {K:PySem.W.Frag} {tg:Expr} (a it:Addr):Turn P w K tg (Itt K a) [it] it (fun i h=>h.IsTupleIter it a i) where
 mem:=by simp
 obj:=fun i h st b hb=>by
  have e:b=it:=by simpa using hb
  subst e
  obtain ⟨o,e,c,d⟩:=st
  exact ⟨o,e,fun v z=>by rw [d] at z;cases z⟩
 keep:=fun i h h' st k=>st.at fun o e=>k it (by simp) o e
 item:=by
  intro X hP hw hK hc i pins s σ H E I hf st hg
  subst hP hw hK
  obtain ⟨xs,x,hq,hx⟩:=hg
  obtain ⟨its,rv,p,hz⟩:=I.tuple hq
  obtain ⟨u,hu,ru⟩:=rv.get hx
  obtain ⟨f0,f1,f2,f3,f4,f5⟩:=hf it (by simp)
  refine wpAny_pyNext_tuple_item st (show s.heap.IsTuple a its.toArray from p) (x:=u) (by simpa using hu) fun h' st' sb=>?_
  have I1:Inv X pins σ H { s with heap:=h' }:=I.turned (t':=s.toks) (fun b o hb e=>(sb.2 b hb).trans e) f0 f1 f3 f4 f5
  obtain ⟨o,e,c,d⟩:=id st'
  exact ⟨u,rfl,QS (s:={ s with heap:=h' }) e c d (by decide) ⟨x,H,I1,ru,⟨rfl,fun ys hy=>by rw [I.tuple_inj hy hq];exact hx⟩,st',fun b hb=>(hf b hb).1⟩⟩
 done:=by
  intro X hP hw hK hc i pins s σ H E I hf st hg
  subst hP hw hK
  obtain ⟨xs,hq,hx⟩:=hg
  obtain ⟨its,rv,p,hz⟩:=I.tuple hq
  obtain ⟨f0,f1,f2,f3,f4,f5⟩:=hf it (by simp)
  have hl:=rv.length
  exact wpAny_pyNext_tuple_end (I.ok.hd hc) st (show s.heap.IsTuple a its.toArray from p) (by simp;omega) fun h' eb=>⟨rfl,I.turned (t':=s.toks) (fun b o hb e=>eb b o hb e) f0 f1 f3 f4 f5⟩
 self:=fun _ _ _ _ _ st h=>wpAny_pyIter_tupleiter st h
theorem Yb0 {P:Program} {w:World} {K:PySem.W.Frag} {tg:Expr} (it:Addr) (lo:Int) (n:Nat):Turn P w K tg (Itr lo n) [it] it (fun i h=>IsRangeIter h it (lo+(i:Nat)*1) ((n:Int) - (i:Nat)) 1) where
 mem:=by simp
 obj:=fun i h st b hb=>by
  have e:b=it:=by simpa using hb
  subst e
  exact ⟨_,st,fun v z=>by
   have z':Data.fields _=Data.cell v:=z
   cases z'⟩
 keep:=fun i h h' st k=>k it (by simp) _ st
 item:=by
  intro X hP hw hK hc i pins s σ H E I hf st hg
  subst hP hw hK
  obtain ⟨f0,f1,f2,f3,f4,f5⟩:=hf it (by simp)
  have W:=Walks.range (prog:=X.prog) (w:=X.w) (I.ok.hd hc) it lo 1 n
  refine W.item i s _ _ hg st fun v h' tk hv st' kk=>?_
  obtain ⟨t,rfl⟩:=hv
  have I1:Inv X pins σ H { s with heap:=h',toks:=tk }:=I.turned (fun b o hb e=>kk b o (by simpa using hb) e) f0 f1 f3 f4 f5
  refine ⟨_,rfl,QS (s:={ s with heap:=h',toks:=tk }) (n:="range_iterator") st' rfl rfl (by decide) ⟨.int (lo+i),H,I1,⟨t,?_⟩,⟨rfl,rfl⟩,st',fun b hb=>(hf b hb).1⟩⟩
  rw [Int.mul_one]
 done:=by
  intro X hP hw hK hc i pins s σ H E I hf st hg
  subst hP hw hK
  obtain ⟨f0,f1,f2,f3,f4,f5⟩:=hf it (by simp)
  exact wpAny_pyNext_range_end (I.ok.hd hc) st (by have:n≤i:=hg;omega) fun h' eb=>⟨rfl,I.turned (t':=s.toks) (fun b o hb e=>eb b o hb e) f0 f1 f3 f4 f5⟩
 self:=fun _ _ _ _ _ st h=>wpAny_pyIter_rangeiter st h
end L2
namespace L2
open PySem PySem.Spec PyProof.Rows
section
variable {X:Cx} {tg:Expr}
def WZ (K:PySem.W.Frag) (tl:TE):TI:=fun σ H R=>tl σ H fun x H1=>∃ a,x = .ref a∧(∃ xs,SqL K H1 a xs)∧R (Itl K a) H1
def Yb1 (K:PySem.W.Frag) (tl:TE):TI:=fun σ H R=>tl σ H fun x H1=>∃ a,x = .ref a∧(∃ xs,SqT K H1 a xs)∧R (Itt K a) H1
theorem Y3 {l:Expr} {tl:TE} (hl:PE X l tl):PI X tg l (WZ X.K tl):=by
 intro pins s σ H R I h
 refine thn (hl pins s σ H _ I h) fun v s1 ⟨x,H1,I1,r1,q1⟩=>?_
 obtain ⟨a,e,⟨xs,hq⟩,q⟩:=q1
 subst e
 cases r1
 obtain ⟨its,rv,p,hz⟩:=I1.list hq
 refine wpAny_pyIter_list p.isList ?_
 refine ⟨s1.heap.objs.size,[s1.heap.objs.size],_,_,H1,rfl,I1.kept (t':=s1.toks) fun b o e=>Heap.get?_push_of_some _ e,YcD a _,⟨_,Heap.get?_push_size _ rfl,rfl,rfl⟩,fun b hb=>?_,q⟩
 have e:b=s1.heap.objs.size:=by simpa using hb
 subst e
 exact I1.fpOk (Nat.le_refl _) (I1.hok.fresh (Nat.le_refl _))
theorem WA {l:Expr} {tl:TE} (hl:PE X l tl):PI X tg l (Yb1 X.K tl):=by
 intro pins s σ H R I h
 refine thn (hl pins s σ H _ I h) fun v s1 ⟨x,H1,I1,r1,q1⟩=>?_
 obtain ⟨a,e,⟨xs,hq⟩,q⟩:=q1
 subst e
 cases r1
 obtain ⟨its,rv,p,hz⟩:=I1.tuple hq
 refine wpAny_pyIter_tuple (show s1.heap.IsTuple a its.toArray from p) ?_
 refine ⟨s1.heap.objs.size,[s1.heap.objs.size],_,_,H1,rfl,I1.kept (t':=s1.toks) fun b o e=>Heap.get?_push_of_some _ e,YbZ a _,⟨_,Heap.get?_push_size _ rfl,rfl,rfl⟩,fun b hb=>?_,q⟩
 have e:b=s1.heap.objs.size:=by simpa using hb
 subst e
 exact I1.fpOk (Nat.le_refl _) (I1.hok.fresh (Nat.le_refl _))
theorem YdJ {pins:List (Addr×Obj)} {σ:St} {H:Hp} {s:Shared} {R:It→Hp→Prop} {E:Value→Shared→Prop} {lo hi:Int} {t u v:Tok} {tk:Nat} (I:Inv X pins σ H s) (h1 : -(2^62)≤lo) (h2:lo<2^62) (h3 : -(2^62)≤hi) (h4:hi<2^62)
  (q:R (Itr lo (hi - lo).toNat) H):wpAny (model X.prog X.w) X.A (pyIter (.ref s.heap.objs.size)) (PIE X pins σ tg R) E { s with heap:=s.heap.push { cls := .type "range",data := .fields #[.int lo t,.int hi u,.int 1 v] },toks:=tk }:=by
 refine wpAny_pyIter_range (IsRange.new ..) (small_one h1 h2 h3 h4) ?_
 have I1:Inv X pins σ H { s with heap:=s.heap.push { cls := .type "range",data := .fields #[.int lo t,.int hi u,.int 1 v] },toks:=tk }:=I.kept fun b o e=>Heap.get?_push_of_some _ e
 refine ⟨(s.heap.push { cls := .type "range",data := .fields #[.int lo t,.int hi u,.int 1 v] }).objs.size,[(s.heap.push { cls := .type "range",data := .fields #[.int lo t,.int hi u,.int 1 v] }).objs.size],_,_,H,rfl,
  I1.kept (t':=tk) fun b o e=>Heap.get?_push_of_some _ e,Yb0 _ lo (hi - lo).toNat,?_,fun b hb=>?_,q⟩
 ·have e1:lo+((0:Nat):Int)*1=lo:=by simp
  have e2:(((hi - lo).toNat:Nat):Int) - ((0:Nat):Int)=Builtin.Range.rangeSize lo hi 1:=by rw [rangeSize_one];split<;>omega
  show IsRangeIter _ _ (lo+((0:Nat):Int)*1) ((((hi - lo).toNat:Nat):Int) - ((0:Nat):Int)) 1
  rw [e1,e2]
  exact Heap.get?_push_size _ rfl
 ·have e:b=(s.heap.push { cls := .type "range",data := .fields #[.int lo t,.int hi u,.int 1 v] }).objs.size:=by simpa using hb
  subst e
  exact I1.fpOk (Nat.le_refl _) (I1.hok.fresh (Nat.le_refl _))
def Yb2 (ta:TA):TI:=fun σ H R=>ta σ H fun vs H1=>∃ j:Int,vs=[.int j] ∧ -(2^62)≤j∧j<2^62∧R (Itr 0 j.toNat) H1
theorem We {a:Expr} {ta:TA} {p pos:Pos} (hg:Gl X "range") (hm:X.mg "range"=none) (ha:PA X [a] ta) (hs:starEach [a] X.env=[(false,eval a X.env)]):PI X tg (.Call (.Name "range" p) [a] [] pos) (Yb2 ta):=by
 intro pins s σ H R I h
 refine Call_ (Va I hg hm boot_range (PyProof.Rows.callWith_type1 (thn (ha pos pins s σ H _ I h) fun us s1 ⟨vs,H1,I1,r1,q1⟩=>?_) hs rfl))
 obtain ⟨j,e,q1,q2,q⟩:=q1
 subst e
 cases r1 with
 | cons r rr =>
  cases rr
  obtain ⟨t,rfl⟩:=r
  exact call_range_1 (YdJ I1 (by omega) (by omega) q1 q2 (by simpa using q))
def Yb3 (wi:TI) (g:TG) (tb:TS):TS:=fun D σ H=>wi σ H fun J H1=>∃ W:Nat→Nat→St→Hp→Prop,(∃ m,W 0 m σ H1)∧∀ i m σ H,W i m σ H →
 (J.stop i H∧D.nx σ H)∨(J.go i H∧∃ N:St→Hp→Prop,(∀ σ' H',N σ' H'→∃ m',m'<m∧W (i+1) m' σ' H')∧∀ x H',J.yld i H x H'→g x σ H' fun σ2 H2=>tb { D with nx:=N,ct:=N,bk:=D.nx } σ2 H2)
def WB (fp:List Addr) (h:Heap):List (Addr×Obj):=fp.filterMap fun b=>(h.get? b).map fun o=>(b,o)
theorem Y6 {fp:List Addr} {h:Heap} {b:Addr} {o:Obj} (hb:b∈fp) (e:h.get? b=some o):(b,o)∈WB fp h:=List.mem_filterMap.mpr ⟨b,hb,by rw [e];rfl⟩
theorem YcE {fp:List Addr} {h:Heap} {p:Addr×Obj} (hp:p∈WB fp h):p.1∈fp∧h.get? p.1=some p.2:=by
 obtain ⟨b,hb,e⟩:=List.mem_filterMap.mp hp
 cases q:h.get? b with
 | none=>rw [q] at e;cases e
 | some o =>
  rw [q] at e
  have e':(b,o)=p:=Option.some.inj e
  subst e'
  exact ⟨hb,q⟩
theorem Inv.pinned {pins:List (Addr×Obj)} {σ:St} {H:Hp} {s:Shared} {fp:List Addr} (I:Inv X pins σ H s) (hf:∀ b∈fp,XB X pins H b) (ho:∀ b∈fp,∃ o,s.heap.get? b=some o∧∀ v,o.data ≠ .cell v):Inv X (pins++WB fp s.heap) σ H s :=
 I.pins_of fun p hp=>(List.mem_append.mp hp).elim (fun z=>I.pin p (List.mem_append_right _ z)) fun z=>by
  obtain ⟨hb,e⟩:=YcE z
  obtain ⟨f0,f1,f2,_⟩:=hf p.1 hb
  obtain ⟨o,e',d⟩:=ho p.1 hb
  rw [e] at e';cases e'
  exact ⟨e,f0,f1,f2,d⟩
theorem Inv.unpinned {pins pl:List (Addr×Obj)} {σ:St} {H:Hp} {s:Shared} (I:Inv X (pins++pl) σ H s):Inv X pins σ H s:=I.pins_of fun p hp=>I.pin p (List.mem_append_right _ (List.mem_append_left _ hp))
theorem Xg {iter:Expr} {body:List Stmt} {wi:TI} {g:TG} {tb:TS} {pos:Pos} (hp:PassesOwn (model X.prog X.w) X.A X.env X.xe) (hc:X.calm=true) (hi:PI X tg iter wi) (hg:PG X tg g) (hb:PSs X body tb)
  (hs:∀ x,foldedSetIterable iter X.env x=pure x):PS X (.For tg iter body [] pos) (Yb3 wi g tb):=by
 intro pins s σ H D I h
 refine wpAny_For (thn (hi pins s σ H _ I h) fun v s1 h1=>thn h1 fun itv s2 h2=>?_) hs
 obtain ⟨it,fp,tn,J,H2,e,I2,T,st2,f2,W,⟨m0,w0⟩,turn⟩:=h2
 subst e
 -- what stays true of the iterator's objects through the loop
 have stat:∀ {H':Hp},(∀ b∈fp,H' b=none)→∀ b∈fp,XB X pins H' b:=fun hn b hb=>⟨hn b hb,(f2 b hb).2⟩
 refine codeAny_forLoop_any (fun n s'=>∃ i σ' H',Inv X pins σ' H' s'∧tn i s'.heap∧(∀ b∈fp,H' b=none)∧W i n σ' H') ?_ m0 ⟨0,σ,H2,I2,st2,fun b hb=>(f2 b hb).1,w0⟩
 rintro n s3 ⟨i,σ3,H3,I3,st3,fr3,w3⟩
 rcases turn i n σ3 H3 w3 with ⟨stop,qn⟩ | ⟨go,N,hN,step⟩
 ·refine wpAny_passesOwn hp (thn (T.done X rfl rfl rfl hc i pins s3 σ3 H3 X.xe I3 (stat fr3) st3 stop) fun r s4 ⟨hr,I4⟩=>?_)
  subst hr
  exact wpAny_execs_nil ⟨σ3,H3,I4,qn⟩
 ·refine wpAny_passesOwn hp (thn (T.item X rfl rfl rfl hc i pins s3 σ3 H3 X.xe I3 (stat fr3) st3 go) fun r s4 ⟨u,hr,h4⟩=>?_)
  subst hr
  refine wpAny_passesOwn hp (thn h4 fun _ s5 ⟨x,H5,I5,r5,y5,st5,fr5⟩=>?_)
  have I5':=I5.pinned (stat fr5) (T.obj _ _ st5)
  refine wpAny_passesOwn hp (thn (hg _ s5 σ3 H5 x u _ I5' r5 (step x H5 y5)) fun _ s6 ⟨σ6,H6,I6,q6⟩=>?_)
  refine wpAny_passesOwn hp (thn (hb _ s6 σ6 H6 _ I6 q6) fun f s7 q7=>?_)
  have again:∀ {σ7:St} {H7:Hp},Inv X (pins++WB fp s5.heap) σ7 H7 s7→N σ7 H7→∃ m,m<n∧∃ i σ' H',Inv X pins σ' H' s7∧tn i s7.heap∧(∀ b∈fp,H' b=none)∧W i m σ' H':=fun {σ7 H7} I7 n7=>by
   obtain ⟨m',hm,w7⟩:=hN σ7 H7 n7
   refine ⟨m',hm,i+1,σ7,H7,I7.unpinned,T.keep _ _ _ st5 fun b hb o e=>(I7.pin (b,o) (List.mem_append_right _ (List.mem_append_right _ (Y6 hb e)))).1,fun b hb=>?_,w7⟩
   obtain ⟨o,e,d⟩:=T.obj _ _ st5 b hb
   exact (I7.pin (b,o) (List.mem_append_right _ (List.mem_append_right _ (Y6 hb e)))).2.1
  cases f with
  | next=>obtain ⟨σ7,H7,I7,n7⟩:=q7;exact again I7 n7
  | cont=>obtain ⟨σ7,H7,I7,n7⟩:=q7;exact again I7 n7
  | brk=>obtain ⟨σ7,H7,I7,q7⟩:=q7;exact ⟨σ7,H7,I7.unpinned,q7⟩
  | ret v=>obtain ⟨x7,σ7,H7,I7,r7,q7⟩:=q7;exact ⟨x7,σ7,H7,I7.unpinned,r7,q7⟩
end
theorem Q5 {K:PySem.W.Frag} {a:Addr} {xs:List V} {g:TG} {tb:TS} {D:Ends} {σ:St} {H:Hp} (Pv:Nat→St→Hp→Prop) (h0:Pv 0 σ H) (hl:∀ i σ H,i≤xs.length→Pv i σ H→SqL K H a xs)
  (hs:∀ i x σ H,xs[i]?=some x→Pv i σ H→g x σ H fun σ2 H2=>tb { D with nx:=Pv (i+1),ct:=Pv (i+1),bk:=D.nx } σ2 H2) (hd:∀ σ H,Pv xs.length σ H→D.nx σ H) :
  ∃ W:Nat→Nat→St→Hp→Prop,(∃ m,W 0 m σ H)∧∀ i m σ H,W i m σ H →
   ((Itl K a).stop i H∧D.nx σ H)∨((Itl K a).go i H∧∃ N:St→Hp→Prop,(∀ σ' H',N σ' H'→∃ m',m'<m∧W (i+1) m' σ' H')∧∀ x H',(Itl K a).yld i H x H'→g x σ H' fun σ2 H2=>tb { D with nx:=N,ct:=N,bk:=D.nx } σ2 H2):=by
 refine ⟨fun i m σ H=>m=xs.length - i∧i≤xs.length∧Pv i σ H,⟨xs.length,by simp,Nat.zero_le _,h0⟩,?_⟩
 rintro i m σ H ⟨rfl,hi,p⟩
 have q:=hl i σ H hi p
 by_cases hlt:i<xs.length
 ·refine .inr ⟨⟨xs,xs[i],q,by simp [hlt]⟩,Pv (i+1),fun σ' H' p'=>⟨xs.length - (i+1),by omega,rfl,hlt,p'⟩,fun x H' y=>?_⟩
  obtain ⟨e,y⟩:=y
  subst e
  exact hs i x σ _ (y xs q) p
 ·have e:i=xs.length:=by omega
  subst e
  exact .inl ⟨⟨xs,q,Nat.le_refl _⟩,hd σ H p⟩
theorem YcF {lo:Int} {n:Nat} {g:TG} {tb:TS} {D:Ends} {σ:St} {H:Hp} (Pv:Nat→St→Hp→Prop) (h0:Pv 0 σ H)
  (hs:∀ i σ H,i<n→Pv i σ H→g (.int (lo+i)) σ H fun σ2 H2=>tb { D with nx:=Pv (i+1),ct:=Pv (i+1),bk:=D.nx } σ2 H2) (hd:∀ σ H,Pv n σ H→D.nx σ H) :
  ∃ W:Nat→Nat→St→Hp→Prop,(∃ m,W 0 m σ H)∧∀ i m σ H,W i m σ H →
   ((Itr lo n).stop i H∧D.nx σ H)∨((Itr lo n).go i H∧∃ N:St→Hp→Prop,(∀ σ' H',N σ' H'→∃ m',m'<m∧W (i+1) m' σ' H')∧∀ x H',(Itr lo n).yld i H x H'→g x σ H' fun σ2 H2=>tb { D with nx:=N,ct:=N,bk:=D.nx } σ2 H2):=by
 refine ⟨fun i m σ H=>m=n - i∧i≤n∧Pv i σ H,⟨n,by simp,Nat.zero_le _,h0⟩,?_⟩
 rintro i m σ H ⟨rfl,hi,p⟩
 by_cases hlt:i<n
 ·refine .inr ⟨hlt,Pv (i+1),fun σ' H' p'=>⟨n - (i+1),by omega,rfl,hlt,p'⟩,fun x H' y=>?_⟩
  obtain ⟨e,y⟩:=y
  subst e y
  exact hs i σ _ hlt p
 ·have e:i=n:=by omega
  subst e
  exact .inl ⟨Nat.le_refl _,hd σ H p⟩
end L2
namespace L2
open PySem PySem.Spec PyProof.Rows
abbrev R2:=V→V→Hp→VK→Prop
def OpR (X:Cx) (f:Value→Value→Sem Value) (r:R2):Prop :=
 ∀ (pins:List (Addr×Obj)) (s:Shared) (σ:St) (H:Hp) (x y:V) (v u:Value) (Q:VK),Inv X pins σ H s→YA x v→YA y u→r x y H Q →
  wpAny (model X.prog X.w) X.A (f v u) (EP X pins σ Q) X.xe s
def Xh (X:Cx) (f:Value) (r:List V→Hp→VK→Prop):Prop :=
 ∀ (pins:List (Addr×Obj)) (s:Shared) (σ:St) (H:Hp) (xs:List V) (us:List Value) (Q:VK),Inv X pins σ H s→Yr xs us→r xs H Q →
  wpAny (model X.prog X.w) X.A (call f us) (EP X pins σ Q) X.xe s
def tOp (r:R2) (ta tb:TE):TE:=fun σ H Q=>ta σ H fun x H1=>tb σ H1 fun y H2=>r x y H2 Q
def tUn (r:V→Hp→VK→Prop) (ta:TE):TE:=fun σ H Q=>ta σ H fun x H1=>r x H1 Q
def rI (C:Int→Int→Prop) (g:Int→Int→V):R2:=fun x y H Q=>∃ i j,x = .int i∧y = .int j∧C i j∧Q (g i j) H
def rI0 (g:Int→Int→V):R2:=fun x y H Q=>∃ i j,x = .int i∧y = .int j∧Q (g i j) H
def rU (g:Int→V):V→Hp→VK→Prop:=fun x H Q=>∃ i,x = .int i∧Q (g i) H
section
variable {X:Cx} {a b c:Expr} {ta tb tc:TE} {pos:Pos}
theorem binT (ha:PE X a ta) (hb:PE X b tb) {pins:List (Addr×Obj)} {s:Shared} {σ:St} {H:Hp} {R:V→V→Hp→Prop} (I:Inv X pins σ H s)
  (h:ta σ H fun x H1=>tb σ H1 fun y H2=>R x y H2) {Q:Value→Shared→Prop} {f:Value→Value→Sem Value}
  (hf:∀ v u s2 x y H2,Inv X pins σ H2 s2→YA x v→YA y u→R x y H2→wpAny (model X.prog X.w) X.A (f v u) Q X.xe s2) :
  wpAny (model X.prog X.w) X.A (eval a X.env) (fun v s₁=>wpAny (model X.prog X.w) X.A (eval b X.env) (fun u s₂=>wpAny (model X.prog X.w) X.A (f v u) Q X.xe s₂) X.xe s₁) X.xe s:=by
 refine thn (ha pins s σ H _ I h) fun v s1 ⟨x,H1,I1,r1,q1⟩=>?_
 refine thn (hb pins s1 σ H1 _ I1 q1) fun u s2 ⟨y,H2,I2,r2,q2⟩=>?_
 exact hf v u s2 x y H2 I2 r1 r2 q2
theorem Yl {op:Operator} {r:R2} (ho:OpR X (binaryOp op) r) (ha:PE X a ta) (hb:PE X b tb):PE X (.BinOp a op b pos) (tOp r ta tb):=by
 intro pins s σ H Q I h
 exact wpAny_BinOp (binT ha hb I h fun v u s2 x y H2 I2 rx ry q=>ho pins s2 σ H2 x y v u Q I2 rx ry q)
theorem opI {f:Value→Value→Sem Value} {C:Int→Int→Prop} {g:Int→Int→Int}
  (rule:∀ (i j:Int) (t u:Tok) (s:Shared) (Q:Value→Shared→Prop) (E:Value→Shared→Prop),C i j→Q (.int (g i j) s.toks) { s with toks:=s.toks+1 }→wpAny (model X.prog X.w) X.A (f (.int i t) (.int j u)) Q E s) :
  OpR X f (rI C fun i j => .int (g i j)):=by
 intro pins s σ H x y v u Q I rx ry h
 obtain ⟨i,j,rfl,rfl,hc,q⟩:=h
 obtain ⟨t,rfl⟩:=rx
 obtain ⟨t',rfl⟩:=ry
 exact rule i j t t' s _ _ hc ⟨.int (g i j),H,I.tok _,⟨_,rfl⟩,q⟩
theorem opI0 {f:Value→Value→Sem Value} {g:Int→Int→Int}
  (rule:∀ (i j:Int) (t u:Tok) (s:Shared) (Q:Value→Shared→Prop) (E:Value→Shared→Prop),Q (.int (g i j) s.toks) { s with toks:=s.toks+1 }→wpAny (model X.prog X.w) X.A (f (.int i t) (.int j u)) Q E s) :
  OpR X f (rI0 fun i j => .int (g i j)):=by
 intro pins s σ H x y v u Q I rx ry h
 obtain ⟨i,j,rfl,rfl,q⟩:=h
 obtain ⟨t,rfl⟩:=rx
 obtain ⟨t',rfl⟩:=ry
 exact rule i j t t' s _ _ ⟨.int (g i j),H,I.tok _,⟨_,rfl⟩,q⟩
theorem opB0 {f:Value→Value→Sem Value} {g:Int→Int→Bool}
  (rule:∀ (i j:Int) (t u:Tok) (s:Shared) (Q:Value→Shared→Prop) (E:Value→Shared→Prop),Q (.bool (g i j)) s→wpAny (model X.prog X.w) X.A (f (.int i t) (.int j u)) Q E s) :
  OpR X f (rI0 fun i j => .bl (g i j)):=by
 intro pins s σ H x y v u Q I rx ry h
 obtain ⟨i,j,rfl,rfl,q⟩:=h
 obtain ⟨t,rfl⟩:=rx
 obtain ⟨t',rfl⟩:=ry
 exact rule i j t t' s _ _ ⟨.bl (g i j),H,I,rfl,q⟩
def CPow (i j:Int):Prop:=0≤j∧j≤1000000∧i.natAbs<2^64
def CMul (i j:Int):Prop:=(-(2^64)<i∧i<2^64)∨(-(2^64)<j∧j<2^64)
theorem CMul.ok {i j:Int} (h:CMul i j):IntMulOk i j:=by
 rcases h with ⟨h1,h2⟩ | ⟨h1,h2⟩
 ·exact .of_left (intBits_le_64 h1 h2)
 ·exact .of_right (intBits_le_64 h1 h2)
theorem X3:OpR X (binaryOp .Add) (rI0 fun i j => .int (i+j)):=opI0 fun _ _ _ _ _ _ _ q=>add_int q
theorem YcG:OpR X (binaryOp .Sub) (rI0 fun i j => .int (i - j)):=opI0 fun _ _ _ _ _ _ _ q=>sub_int q
theorem YR:OpR X (binaryOp .Mod) (rI (fun _ j=>0<j) fun i j => .int (i%j)):=opI fun i j _ _ _ _ _ hc q=>by
 have h1:(0:Int)<j:=hc
 exact mod_int' (by omega) (by rw [Int.fmod_eq_emod_of_nonneg i (by omega)];exact q)
theorem WC:OpR X (binaryOp .Pow) (rI CPow fun i j => .int (i^j.toNat)):=opI fun _ _ _ _ _ _ _ hc q=>pow_int_small hc.1 hc.2.1 hc.2.2 q
end
def Yb4:V→V→Bool
 | .non,.non=>true | .non,.int _=>true | .int _,.non=>true | .non,.bl _=>true | .bl _,.non=>true | .non,.str _=>true | .str _,.non=>true
 | .int _,.int _=>true | .bl _,.bl _=>true | .str _,.str _=>true | .byt _,.byt _=>true
 | .int _,.str _=>true | .str _,.int _=>true | .bl _,.str _=>true | .str _,.bl _=>true
 | _,_=>false
def rEq:R2:=fun x y H Q=>Yb4 x y=true∧Q (.bl (decide (x=y))) H
def rNe:R2:=fun x y H Q=>Yb4 x y=true∧Q (.bl (!decide (x=y))) H
theorem Ybk {i j:Int}:decide (V.int i=V.int j)=(i==j):=by
 rw [Bool.eq_iff_iff]
 simp
theorem YcH {i j:Bool}:decide (V.bl i=V.bl j)=(i==j):=by
 rw [Bool.eq_iff_iff]
 simp
theorem Ybl {i j:Str}:decide (V.str i=V.str j)=(i==j):=by
 rw [Bool.eq_iff_iff]
 simp
theorem Ybm {i j:Array UInt8}:decide (V.byt i=V.byt j)=(i.toList==j.toList):=by
 rw [Bool.eq_iff_iff]
 cases i
 cases j
 simp
section
variable {X:Cx} {a b c:Expr} {ta tb tc:TE} {pos:Pos}
theorem YO {pins:List (Addr×Obj)} {σ:St} {H:Hp} {s:Shared} {Q:VK} {k k':Bool} (I:Inv X pins σ H s) (q:Q (.bl k) H) (e:k=k'):EP X pins σ Q (.bool k') s:=by
 subst e
 exact ⟨.bl k,H,I,rfl,q⟩
theorem YF:OpR X (compareOp .Eq) rEq:=by
 intro pins s σ H x y v u Q I rx ry h
 obtain ⟨hs,q⟩:=h
 cases x with
 | non =>
  cases rx
  cases y with
  | non=>cases ry;exact PySem.EqNone.eq_none_none (YO I q (by simp))
  | bl j=>cases ry;exact PySem.EqNone.eq_none_bool (YO I q (by simp))
  | int j=>obtain ⟨t',rfl⟩:=ry;exact PySem.EqNone.eq_none_int (YO I q (by simp))
  | str j=>obtain ⟨t',rfl⟩:=ry;exact PySem.EqNone.eq_none_str (YO I q (by simp))
  | _=>exact absurd (show false=true from hs) Bool.false_ne_true
 | bl i =>
  cases rx
  cases y with
  | non=>cases ry;exact PySem.EqNone.eq_bool_none (YO I q (by simp))
  | bl j=>cases ry;exact eq_bool (YO I q YcH)
  | str j=>obtain ⟨t',rfl⟩:=ry;exact PySem.EqMixed.eq_bool_str (YO I q (by simp))
  | _=>exact absurd (show false=true from hs) Bool.false_ne_true
 | int i =>
  obtain ⟨t,rfl⟩:=rx
  cases y with
  | non=>cases ry;exact PySem.EqNone.eq_int_none (YO I q (by simp))
  | int j=>obtain ⟨t',rfl⟩:=ry;exact eq_int (YO I q Ybk)
  | str j=>obtain ⟨t',rfl⟩:=ry;exact PySem.EqMixed.eq_int_str (YO I q (by simp))
  | _=>exact absurd (show false=true from hs) Bool.false_ne_true
 | str i =>
  obtain ⟨t,rfl⟩:=rx
  cases y with
  | non=>cases ry;exact PySem.EqNone.eq_str_none (YO I q (by simp))
  | bl j=>cases ry;exact PySem.EqMixed.eq_str_bool (YO I q (by simp))
  | int j=>obtain ⟨t',rfl⟩:=ry;exact PySem.EqMixed.eq_str_int (YO I q (by simp))
  | str j=>obtain ⟨t',rfl⟩:=ry;exact eq_str (YO I q Ybl)
  | _=>exact absurd (show false=true from hs) Bool.false_ne_true
 | byt i =>
  obtain ⟨t,rfl⟩:=rx
  cases y with
  | byt j=>obtain ⟨t',rfl⟩:=ry;exact PySem.W.eq_bytes (YO I q Ybm)
  | _=>exact absurd (show false=true from hs) Bool.false_ne_true
 | _=>cases y<;>exact absurd (show false=true from hs) Bool.false_ne_true
theorem Uk:OpR X (compareOp .NotEq) rNe:=by
 intro pins s σ H x y v u Q I rx ry h
 obtain ⟨hs,q⟩:=h
 cases x with
 | non =>
  cases rx
  cases y with
  | non=>cases ry;exact PySem.EqNone.ne_none_none (YO I q (by simp))
  | bl j=>cases ry;exact PySem.EqNone.ne_none_bool (YO I q (by simp))
  | int j=>obtain ⟨t',rfl⟩:=ry;exact PySem.EqNone.ne_none_int (YO I q (by simp))
  | str j=>obtain ⟨t',rfl⟩:=ry;exact PySem.EqNone.ne_none_str (YO I q (by simp))
  | _=>exact absurd (show false=true from hs) Bool.false_ne_true
 | bl i =>
  cases rx
  cases y with
  | non=>cases ry;exact PySem.EqNone.ne_bool_none (YO I q (by simp))
  | bl j=>cases ry;exact ne_bool (YO I q (congrArg not YcH))
  | str j=>obtain ⟨t',rfl⟩:=ry;exact PySem.EqMixed.ne_bool_str (YO I q (by simp))
  | _=>exact absurd (show false=true from hs) Bool.false_ne_true
 | int i =>
  obtain ⟨t,rfl⟩:=rx
  cases y with
  | non=>cases ry;exact PySem.EqNone.ne_int_none (YO I q (by simp))
  | int j=>obtain ⟨t',rfl⟩:=ry;exact ne_int (YO I q (congrArg not Ybk))
  | str j=>obtain ⟨t',rfl⟩:=ry;exact PySem.EqMixed.ne_int_str (YO I q (by simp))
  | _=>exact absurd (show false=true from hs) Bool.false_ne_true
 | str i =>
  obtain ⟨t,rfl⟩:=rx
  cases y with
  | non=>cases ry;exact PySem.EqNone.ne_str_none (YO I q (by simp))
  | bl j=>cases ry;exact PySem.EqMixed.ne_str_bool (YO I q (by simp))
  | int j=>obtain ⟨t',rfl⟩:=ry;exact PySem.EqMixed.ne_str_int (YO I q (by simp))
  | str j=>obtain ⟨t',rfl⟩:=ry;exact ne_str (YO I q (congrArg not Ybl))
  | _=>exact absurd (show false=true from hs) Bool.false_ne_true
 | byt i =>
  obtain ⟨t,rfl⟩:=rx
  cases y with
  | byt j=>obtain ⟨t',rfl⟩:=ry;exact PySem.W.ne_bytes (YO I q (congrArg not Ybm))
  | _=>exact absurd (show false=true from hs) Bool.false_ne_true
 | _=>cases y<;>exact absurd (show false=true from hs) Bool.false_ne_true
theorem QT:OpR X (compareOp .Lt) (rI0 fun i j => .bl (decide (i<j))):=opB0 fun _ _ _ _ _ _ _ q=>lt_int q
theorem Wy:OpR X (compareOp .LtE) (rI0 fun i j => .bl (decide (i≤j))):=opB0 fun _ _ _ _ _ _ _ q=>le_int q
theorem UJ:OpR X (compareOp .Gt) (rI0 fun i j => .bl (decide (j<i))):=opB0 fun _ _ _ _ _ _ _ q=>gt_int q
theorem Q6:OpR X (compareOp .Is) (fun x y H Q=>y = .non∧Q (.bl (decide (x = .non))) H):=by
 intro pins s σ H x y v u Q I rx ry h
 obtain ⟨rfl,q⟩:=h
 cases ry
 refine is_none_gen (YO I q ?_)
 cases x<;>first
  | (cases rx;rfl)
  | (obtain ⟨t,rfl⟩:=rx;rfl)
theorem YeT:OpR X (compareOp .IsNot) (fun x y H Q=>y = .non∧Q (.bl (!decide (x = .non))) H):=by
 intro pins s σ H x y v u Q I rx ry h
 obtain ⟨rfl,q⟩:=h
 cases ry
 refine isnot_none_gen (YO I q ?_)
 cases x<;>first
  | (cases rx;rfl)
  | (obtain ⟨t,rfl⟩:=rx;rfl)
theorem Yo (b:Expr) {op:CmpOp} (h:op ≠ .In:=by decide) (h2:op ≠ .NotIn:=by decide):behindInMarks op b=false:=by
 have e1:(op==CmpOp.In)=false:=by cases op<;>first | rfl | exact absurd rfl h
 have e2:(op==CmpOp.NotIn)=false:=by cases op<;>first | rfl | exact absurd rfl h2
 cases b<;>simp [behindInMarks,e1,e2]
theorem XV {op:CmpOp} {r:R2} (ho:OpR X (compareOp op) r) (ha:PE X a ta) (hb:PE X b tb) (hm:behindInMarks op b=false):PE X (.Compare a [op] [b] pos) (tOp r ta tb):=by
 intro pins s σ H Q I h
 exact wpAny_Compare1 (binT ha hb I h fun v u s2 x y H2 I2 rx ry q=>ho pins s2 σ H2 x y v u Q I2 rx ry q) hm
def Yb5 (t:TE):TT:=fun σ H Q=>t σ H fun x H'=>∃ k,x = .bl k∧Q k H'
theorem Yk {op:CmpOp} {r:R2} (ho:OpR X (compareOp op) r) (ha:PE X a ta) (hb:PE X b tb) (hm:behindInMarks op b=false):PT X (.Compare a [op] [b] pos) (Yb5 (tOp r ta tb)):=by
 intro pins s σ H Q I h
 refine wpAny_isTrue_Compare1 (thn (ha pins s σ H _ I h) fun v s1 ⟨x,H1,I1,r1,q1⟩=>thn (hb pins s1 σ H1 _ I1 q1) fun u s2 ⟨y,H2,I2,r2,q2⟩ =>
  thn (ho pins s2 σ H2 x y v u _ I2 r1 r2 q2) fun c s3 ⟨z,H3,I3,r3,k,e,q3⟩=>?_) hm
 subst e
 cases r3
 exact wpAny_truthy_bool ⟨H3,I3,q3⟩
def Q7 (r r':R2) (ta tb tc:TE):TE:=fun σ H Q=>ta σ H fun x H1=>tb σ H1 fun y H2=>r x y H2 fun z H3=>∃ k,z = .bl k ∧
 (if k=true then tc σ H3 fun w' H4=>r' y w' H4 Q else Q (.bl false) H3)
theorem Vt {op op':CmpOp} {r r':R2} (ho:OpR X (compareOp op) r) (ho':OpR X (compareOp op') r') (ha:PE X a ta) (hb:PE X b tb) (hc:PE X c tc)
  (hm:lastMarks [op,op'] [b,c]=false:=by with_unfolding_all rfl):PE X (.Compare a [op,op'] [b,c] pos) (Q7 r r' ta tb tc):=by
 intro pins s σ H Q I h
 refine Compare_chain (thn (ha pins s σ H _ I h) fun v s1 ⟨x,H1,I1,r1,q1⟩=>chain_link (thn (hb pins s1 σ H1 _ I1 q1) fun u s2 ⟨y,H2,I2,r2,q2⟩ =>
  thn (ho pins s2 σ H2 x y v u _ I2 r1 r2 q2) fun d s3 ⟨z,H3,I3,r3,k,e,q3⟩=>?_)) hm
 subst e
 cases r3
 refine wpAny_truthy_bool ?_
 cases k with
 | false=>exact ite_ff ⟨.bl false,H3,I3,rfl,q3⟩
 | true=>exact ite_tt (chain_last (thn (hc pins s3 σ H3 _ I3 q3) fun w' s4 ⟨z',H4,I4,r4,q4⟩=>ho' pins s4 σ H4 y z' u w' Q I4 r2 r4 q4))
theorem Vu {op op':CmpOp} {r r':R2} (ho:OpR X (compareOp op) r) (ho':OpR X (compareOp op') r') (ha:PE X a ta) (hb:PE X b tb) (hc:PE X c tc)
  (hm:lastMarks [op,op'] [b,c]=false):PT X (.Compare a [op,op'] [b,c] pos) (Yb5 (Q7 r r' ta tb tc)):=by
 intro pins s σ H Q I h
 refine isTrue_chain (thn (ha pins s σ H _ I h) fun v s1 ⟨x,H1,I1,r1,q1⟩=>test_link (thn (hb pins s1 σ H1 _ I1 q1) fun u s2 ⟨y,H2,I2,r2,q2⟩ =>
  thn (ho pins s2 σ H2 x y v u _ I2 r1 r2 q2) fun d s3 ⟨z,H3,I3,r3,k,e,q3⟩=>?_)) hm
 subst e
 cases r3
 refine wpAny_truthy_bool ?_
 cases k with
 | false =>
  obtain ⟨k',e',q'⟩:=q3
  cases e'
  exact ite_ff ⟨H3,I3,q'⟩
 | true =>
  refine ite_tt (test_last (thn (hc pins s3 σ H3 _ I3 q3) fun w' s4 ⟨z',H4,I4,r4,q4⟩=>thn (ho' pins s4 σ H4 y z' u w' _ I4 r2 r4 q4) fun d' s5 ⟨z2,H5,I5,r5,k2,e2,q5⟩=>?_))
  subst e2
  cases r5
  exact wpAny_truthy_bool ⟨H5,I5,q5⟩
theorem Vd:(sizeLine:Nat)<2^63:=by rw [sizeLine_eq];decide
theorem Yu:OpR X (binaryOp .Add) (fun x y H Q=>∃ i j,x = .str i∧y = .str j∧i.length+j.length≤sizeLine∧Q (.str (i++j)) H):=by
 intro pins s σ H x y v u Q I rx ry h
 obtain ⟨i,j,rfl,rfl,hz,q⟩:=h
 obtain ⟨t,rfl⟩:=rx
 obtain ⟨t',rfl⟩:=ry
 exact add_str (fun t' tk=>⟨.str (i++j),H,I.tok _,⟨_,rfl⟩,q⟩) hz
theorem Xw {x:V} {us:List Value} (r:Yr [x] us):∃ u,us=[u]∧YA x u:=by
 cases r with
 | cons r1 r2=>cases r2;exact ⟨_,rfl,r1⟩
theorem Yeq {x y:V} {us:List Value} (r:Yr [x,y] us):∃ u w',us=[u,w']∧YA x u∧YA y w':=by
 cases r with
 | cons r1 r2 =>
  cases r2 with
  | cons r3 r4=>cases r4;exact ⟨_,_,rfl,r1,r3⟩
theorem YcI:Xh X (.type "int") (fun xs H Q=>(∃ i,xs=[.int i]∧Q (.int i) H)∨∃ k,xs=[.bl k]∧Q (.int (if k then 1 else 0)) H):=by
 intro pins s σ H xs us Q I r h
 rcases h with ⟨i,rfl,q⟩ | ⟨k,rfl,q⟩
 ·obtain ⟨u,rfl,t,rfl⟩:=Xw r
  exact call_int_int ⟨.int i,H,I,⟨_,rfl⟩,q⟩
 ·obtain ⟨u,rfl,r1⟩:=Xw r
  cases r1
  exact call_int_bool ⟨.int (if k then 1 else 0),H,I.tok _,⟨_,rfl⟩,q⟩
theorem XC:Xh X (.type "str") (fun xs H Q=>∃ i,xs=[.int i]∧i.natAbs.log2<1920∧Q (.str (toString i)) H):=by
 intro pins s σ H xs us Q I r h
 obtain ⟨i,rfl,hz,q⟩:=h
 obtain ⟨u,rfl,t,rfl⟩:=Xw r
 exact PySem.P.str_of_int hz ⟨.str _,H,I.tok _,⟨_,rfl⟩,q⟩
end
end L2
namespace L2
open PySem PySem.Spec PyProof.Rows
structure ObjM (h:Heap) (x dx C:Addr) (mA:Str→Option Value):Prop where
 obj:h.get? x=some (PySem.W.instObj C dx)
 ns:h.Ns1 dx mA
 ne:dx≠x
theorem YcJ {h:Heap} {dx:Addr} {mA:Str→Option Value} (n:h.Ns1 dx mA):∃ od,h.get? dx=some od∧∀ name,PySem.W.lookIn name od=some (mA name):=by
 obtain ⟨o,es,ep,ho,hd,hk,_,hm⟩:=n
 refine ⟨o,ho,fun name=>?_⟩
 have e:=hm name
 unfold nsFind findBy at e
 rw [← Array.find?_toList] at e
 unfold PySem.W.lookIn
 rw [hd]
 dsimp only
 split
 ·rename_i y q
  rw [q] at e
  exact congrArg some e
 ·rename_i q
  rw [q] at e
  have a:es.toList.any (·.refKey)=false:=by
   rw [List.any_eq_false]
   intro y hy
   obtain ⟨z,t,hkey⟩:=hk y (Array.mem_toList_iff.mp hy)
   simp [DictEntry.refKey,hkey]
  have a':¬ es.toList.any (·.refKey)=true:=by rw [a];exact Bool.false_ne_true
  rw [if_neg a']
  exact congrArg some e
theorem ObjM.look {h:Heap} {x dx C:Addr} {mA:Str→Option Value} (I:ObjM h x dx C mA):∃ od,PySem.W.InstAt h x (PySem.W.instObj C dx) C (some od)∧∀ name,PySem.W.lookIn name od=some (mA name) :=
 let ⟨od,ho,hl⟩:=YcJ I.ns
 ⟨od,⟨I.obj,rfl,rfl,ho⟩,hl⟩
section
variable {prog:Program} {w:World} {A:Around} {E:Value→Shared→Prop} {s:Shared} {K:PySem.W.Frag} {x dx C f:Addr} {mA:Str→Option Value} {name:Str} {v:Value}
theorem YeU {expr:Bool} {Q:Value→Shared→Prop} (X:K.In s.heap) (I:ObjM s.heap x dx C mA) (hg:PySem.W.plainGet K C name=true) (hh:PySem.W.hasDictIn K C=true)
  (ha:PySem.W.findIn K (.ref C) name=some none) (hv:mA name=some v) (hv':PySem.W.handedIn v=true) (h:Q v { s with toks:=s.toks+1 }) :
  wpAny (model prog w) A (getAttr (.ref x) name expr) Q E s:=by
 obtain ⟨od,J,hl⟩:=I.look
 exact PySem.W.get_value X J (PySem.W.plainGet_of hg).1 (PySem.W.findObj_own hh ha rfl (by rw [hl,hv])) hv' h
theorem YdK {pl:Sem Bool} {Q:Value×List Value→Shared→Prop} (X:K.In s.heap) (I:ObjM s.heap x dx C mA) (hg:PySem.W.plainGet K C name=true)
  (hf:PySem.W.findIn K (.ref C) name=some (some (.ref f))) (ht:PySem.W.isFn K (.ref f)=true) (hv:mA name=none) (h:Q (.ref f,[.ref x]) s) :
  wpAny (model prog w) A (getMethod (.ref x) name pl) Q E s:=by
 obtain ⟨od,J,hl⟩:=I.look
 exact PySem.W.method_fn X J (PySem.W.plainGet_of hg).1 (PySem.W.plainGet_of hg).2 hf (beq_iff_eq.mp ht) (by show (PySem.W.lookIn name od).map (·.isSome)=some false;rw [hl,hv];rfl) h
theorem YeV {ns:List Str} {Q:Unit→Shared→Prop} (X:K.In s.heap) (I:ObjM s.heap x dx C mA)
  (hs:PySem.W.findIn K (.ref C) "__setattr__"=some (some (.builtin "object.__setattr__"))) (hp:PySem.W.plainOver K C=true) (ht:PySem.W.takerIn K C name=some none) (hh:PySem.W.hasDictIn K C=true)
  (hw:PySem.Within mA ns) (hsz:ns.length≤sizeLine)
  (h:∀ h',ObjM h' x dx C (fun y=>if y=name then some v else mA y)→Heap.SameBut dx s.heap h'→Q () { s with heap:=h',toks:=s.toks+2 }) :
  wpAny (model prog w) A (setAttr (.ref x) name v) Q E s:=by
 obtain ⟨od,J,hl⟩:=I.look
 refine PySem.W.set_plain X J hs (PySem.W.osa_open (s:={ s with toks:=s.toks+1 }) (r:=none) X J hp ht fun b=>?_)
 obtain ⟨cd,hc,hd'⟩:=PySem.W.any_some hh
 have hx:s.heap.get? x=some ⟨.ref C,some dx,.plain,#[]⟩:=I.obj
 refine wpAny_bind (wpAny_pure (wpAny_bind (wpAny_bind (wpAny_loadPart hx (wpAny_bind (PySem.W.Looks.here (s:={ s with toks:=s.toks+1 }) (PySem.W.looks_clsIn X hc) ?_))))))
 rw [hd']
 refine wpAny_pure (a:=some dx) (wpAny_bind (wpAny_pure (wpAny_bind ?_)))
 refine wpAny_nsSet1 (s:={ s with toks:=s.toks+1 }) I.ns fun h' hn2 hs2=>?_
 obtain ⟨oD,esD,epD,hoD,hdD,hcD⟩:=hn2.count (PySem.Within.cons name v hw)
 refine wpAny_bind (wpAny_lookBehind hoD (by rw [hdD];exact pastItsLine_dict (Nat.le_trans hcD (by rw [List.length_cons];omega))) ?_)
 exact wpAny_pure (h _ ⟨(hs2.2 _ (Ne.symm I.ne)).trans I.obj,hn2,I.ne⟩ hs2)
theorem YdL {R:Result→Shared→Prop} {vs:List Value} {kw:List (Str×Value)} (X:K.In s.heap) (hm:PySem.W.makesIn K C=true)
  (hi:PySem.W.findIn K (.ref C) "__init__"=some (some (.ref f))) (hf:PySem.W.typeIn K (.ref f)=some (.type "function"))
  (h:codeAny (model prog w) (A.under (.builtin "type.__call__" ⟨.ref C::vs,kw⟩)) (.call (.ref f) ⟨.ref (s.heap.objs.size+1)::vs,kw⟩) (PySem.W.InitBack (s.heap.objs.size+1) R)
   { s with heap:=(s.heap.push PySem.W.emptyDict).push (PySem.W.instObj C s.heap.objs.size) }) :
  codeAny (model prog w) A (.call (.ref C) ⟨vs,kw⟩) R s:=by
 obtain ⟨hh,g,d,t,os⟩:=s
 exact PySem.W.make_core (PySem.W.makes_of X hm) (PySem.W.looks_findIn X hi) (fun self=>PySem.W.bind_fn X self hf) (.inl rfl) h
end
def Xj (f:Str) (v:V):List (Str×V)→List (Str×V)
 | []=>[(f,v)]
 | (g,x)::r=>if g=f then (g,v)::r else (g,x)::Xj f v r
theorem Uw (f g:Str) (v:V):∀ fs:List (Str×V),(Xj f v fs).lookup g=if g=f then some v else fs.lookup g
 | []=>by
  show List.lookup g [(f,v)]=_
  by_cases h:g=f
  ·have hb:(g==f)=true:=beq_iff_eq.mpr h
   simp only [List.lookup,hb,if_pos h]
  ·have hb:(g==f)=false:=beq_eq_false_iff_ne.mpr h
   simp only [List.lookup,hb,if_neg h]
 | (k,x)::r=>by
  have ih:=Uw f g v r
  rw [show Xj f v ((k,x)::r)=(if k=f then (k,v)::r else (k,x)::Xj f v r) from rfl]
  by_cases hk:k=f
  ·rw [if_pos hk]
   by_cases h:g=k
   ·have hb:(g==k)=true:=beq_iff_eq.mpr h
    simp only [List.lookup,hb,if_pos (h.trans hk)]
   ·have hb:(g==k)=false:=beq_eq_false_iff_ne.mpr h
    simp only [List.lookup,hb,if_neg (fun e:g=f=>h (e.trans hk.symm))]
  ·rw [if_neg hk]
   by_cases h:g=k
   ·have hb:(g==k)=true:=beq_iff_eq.mpr h
    simp only [List.lookup,hb,if_neg (fun e:g=f=>hk (h.symm.trans e))]
   ·have hb:(g==k)=false:=beq_eq_false_iff_ne.mpr h
    simp only [List.lookup,hb]
    exact ih
theorem VW (f:Str) (v:V):∀ fs:List (Str×V),f∈(Xj f v fs).map (·.1)∧∀ g,g∈fs.map (·.1)→g∈(Xj f v fs).map (·.1)
 | []=>⟨by simp [Xj],fun g h=>by simp at h⟩
 | (k,x)::r=>by
  obtain ⟨i1,i2⟩:=VW f v r
  rw [show Xj f v ((k,x)::r)=(if k=f then (k,v)::r else (k,x)::Xj f v r) from rfl]
  by_cases hk:k=f
  ·rw [if_pos hk]
   subst hk
   exact ⟨by simp,fun g h=>by simpa using h⟩
  ·rw [if_neg hk]
   refine ⟨?_,fun g h=>?_⟩
   ·rw [List.map_cons]
    exact List.mem_cons_of_mem _ i1
   ·rw [List.map_cons] at h ⊢
    rcases List.mem_cons.mp h with e | e
    ·exact List.mem_cons.mpr (.inl e)
    ·exact List.mem_cons_of_mem _ (i2 g e)
theorem Ux (f:Str) (v:V):∀ fs:List (Str×V),(Xj f v fs).length≤fs.length+1
 | []=>by simp [Xj]
 | (k,x)::r=>by
  have ih:=Ux f v r
  rw [show Xj f v ((k,x)::r)=(if k=f then (k,v)::r else (k,x)::Xj f v r) from rfl]
  by_cases hk:k=f
  ·rw [if_pos hk,List.length_cons,List.length_cons];omega
  ·rw [if_neg hk,List.length_cons,List.length_cons];omega
theorem W7.some_of {v:V} {o:Option Value} (r:W7 (some v) o):∃ u,o=some u∧YA v u:=by
 cases o with
 | none=>exact (show False from r).elim
 | some u=>exact ⟨u,rfl,r⟩
theorem W7.none_of {o:Option Value} (r:W7 none o):o=none:=by
 cases o with
 | none=>rfl
 | some u=>exact (show False from r).elim
theorem YcK {v:V} {u:Value} (r:YA v u):PySem.W.handedIn u=true:=by
 cases v with
 | non=>cases (show u=Value.none from r);rfl
 | bl b=>cases (show u=Value.bool b from r);rfl
 | int i=>obtain ⟨t,e⟩:=(show ∃ t,u=Value.int i t from r);cases e;rfl
 | str x=>obtain ⟨t,e⟩:=(show ∃ t,u=Value.str x t from r);cases e;rfl
 | byt b=>obtain ⟨t,e⟩:=(show ∃ t,u=Value.bytes b t from r);cases e;rfl
 | flt b=>obtain ⟨t,e⟩:=(show ∃ t,u=Value.float b t from r);cases e;rfl
 | ref a=>cases (show u=Value.ref a from r);rfl
 | ty n=>cases (show u=Value.type n from r);rfl
section
variable {P:Program} {w:World} {H H':Hp} {h h':Heap} {a C dx:Addr} {fs fs':List (Str×V)}
theorem Ve (hok:HOk P w H h) (e:H a=some (.ins C dx fs)):∃ mA,ObjM h a dx C mA∧(∀ f,W7 (fs.lookup f) (mA f))∧PySem.Within mA (fs.map (·.1))∧fs.length≤1000∧H dx=some (.own a):=by
 obtain ⟨d,z,ne,ob,mA,n,r,q⟩:=(show YT P w H h a (.ins C dx fs) from hok a _ e)
 exact ⟨mA,⟨ob,n,ne⟩,r,q,z,d⟩
end
structure Cls (K:PySem.W.Frag) (C:Addr):Prop where
 pg:PySem.W.plainGet K C Str.empty=true
 hd:PySem.W.hasDictIn K C=true
 po:PySem.W.plainOver K C=true
 sa:PySem.W.findIn K (.ref C) "__setattr__"=some (some (.builtin "object.__setattr__"))
theorem Cls.get {K:PySem.W.Frag} {C:Addr} (c:Cls K C) (f:Str):PySem.W.plainGet K C f=true:=c.pg
def Xc (K:PySem.W.Frag) (C:Addr) (f:Str):Prop:=PySem.W.findIn K (.ref C) f=some none
theorem Xc.taker {K:PySem.W.Frag} {C:Addr} {f:Str} (n:Xc K C f):PySem.W.takerIn K C f=some none:=by
 unfold PySem.W.takerIn
 rw [show PySem.W.findIn K (.ref C) f=some none from n]
 rfl
structure Meth (K:PySem.W.Frag) (C:Addr) (m:Str) (f:Addr):Prop where
 at_:PySem.W.findIn K (.ref C) m=some (some (.ref f))
 fn:PySem.W.isFn K (.ref f)=true
 kp:PySem.W.keepIn K (.ref f)=true
section
variable {X:Cx} {pins:List (Addr×Obj)} {σ:St} {H:Hp} {s:Shared} {a C dx:Addr} {fs:List (Str×V)} {f:Str} {v:V} {A:Around} {E:Value→Shared→Prop}
theorem UK {b:Bool} {Q:Value→Shared→Prop} (I:Inv X pins σ H s) (e:H a=some (.ins C dx fs)) (c:Cls X.K C) (n:Xc X.K C f) (l:fs.lookup f=some v)
  (h:∀ u s',Inv X pins σ H s'→YA v u→Q u s'):wpAny (model X.prog X.w) A (getAttr (.ref a) f b) Q E s:=by
 obtain ⟨mA,O,r,_,_,_⟩:=Ve I.hok e
 obtain ⟨u,hu,ru⟩:=W7.some_of (v:=v) (o:=mA f) (by rw [← l];exact r f)
 exact YeU I.kIn O (c.get f) c.hd n hu (YcK ru) (h u _ (I.tok _) ru)
theorem UL {m:Str} {g:Addr} {pl:Sem Bool} {Q:Value×List Value→Shared→Prop} (I:Inv X pins σ H s) (e:H a=some (.ins C dx fs)) (c:Cls X.K C) (k:Meth X.K C m g) (l:fs.lookup m=none)
  (h:Q (.ref g,[.ref a]) s):wpAny (model X.prog X.w) A (getMethod (.ref a) m pl) Q E s:=by
 obtain ⟨mA,O,r,_,_,_⟩:=Ve I.hok e
 have hn:mA m=none:=W7.none_of (by rw [← l];exact r m)
 exact YdK I.kIn O (c.get m) k.at_ k.fn hn h
theorem UM {y:V} {u:Value} {Q:Unit→Shared→Prop} (I:Inv X pins σ H s) (e:H a=some (.ins C dx fs)) (c:Cls X.K C) (n:Xc X.K C f) (hl:fs.length<1000) (ry:YA y u)
  (h:∀ s',Inv X pins σ (upd H a (.ins C dx (Xj f y fs))) s'→Q () s'):wpAny (model X.prog X.w) A (setAttr (.ref a) f u) Q E s:=by
 obtain ⟨mA,O,r,wi,_,ho⟩:=Ve I.hok e
 have hz:(fs.map (·.1)).length≤sizeLine:=by rw [List.length_map,sizeLine_eq];omega
 refine YeV I.kIn O c.sa c.po n.taker c.hd wi hz fun h' O' sb=>h _ ?_
 have hd:∃ o,h'.get? dx=some o:=let ⟨o,_,_,e',_⟩:=O'.ns;⟨o,e'⟩
 refine I.write (x:=a) (e:=dx) (by rw [e];exact True.intro) (.inr ho) (fun b q hb z=>(sb.2 b hb).trans z) hd ?_
 refine ⟨by rw [Yt O.ne];exact ho,?_,O.ne,O'.obj,_,O'.ns,fun g=>?_,fun g hg=>?_⟩
 ·have:=Ux f y fs;omega
 ·show W7 ((Xj f y fs).lookup g) (if g=f then some u else mA g)
  rw [Uw]
  by_cases q:g=f
  ·rw [if_pos q,if_pos q];exact ry
  ·rw [if_neg q,if_neg q];exact r g
 ·by_cases q:g=f
  ·rw [q];exact (VW f y fs).1
  ·refine (VW f y fs).2 g (wi g fun z=>hg ?_)
   show (if g=f then some u else mA g)=none
   rw [if_neg q];exact z
theorem Inv.made (I:Inv X pins σ H s):Inv X pins σ (upd (upd H s.heap.objs.size (.own (s.heap.objs.size+1))) (s.heap.objs.size+1) (.ins C s.heap.objs.size []))
  { s with heap:=(s.heap.push PySem.W.emptyDict).push (PySem.W.instObj C s.heap.objs.size) }:=by
 have e1:(s.heap.push PySem.W.emptyDict).get? s.heap.objs.size=some PySem.W.emptyDict:=Heap.get?_push_size s.heap rfl
 have e2:((s.heap.push PySem.W.emptyDict).push (PySem.W.instObj C s.heap.objs.size)).get? (s.heap.objs.size+1)=some (PySem.W.instObj C s.heap.objs.size):=by
  have:=Heap.get?_push_size (s.heap.push PySem.W.emptyDict) (o:=PySem.W.instObj C s.heap.objs.size) rfl
  rwa [Heap.size_push] at this
 have e3:(s.heap.push PySem.W.emptyDict).Ns s.heap.objs.size (fun _=>none):=⟨PySem.W.emptyDict,#[],_,e1,rfl,(fun e he=>absurd he (by simp)),fun _=>rfl⟩
 have I1:=I.laid (a:=s.heap.objs.size) (o := .own (s.heap.objs.size+1)) (h':=s.heap.push PySem.W.emptyDict) (t':=s.toks) (fun b u q=>Heap.get?_push_of_some _ q) (Nat.le_refl _) ⟨_,e1⟩
 refine I1.laid (a:=s.heap.objs.size+1) (o := .ins C s.heap.objs.size []) (t':=s.toks) (fun b u q=>Heap.get?_push_of_some _ q) (Nat.le_of_eq (Heap.size_push _ _)) ?_
 have ne:s.heap.objs.size≠s.heap.objs.size+1:=Nat.ne_of_lt (Nat.lt_succ_self _)
 refine ⟨by rw [Yt ne,Ye],Nat.zero_le _,ne,e2,fun _=>none,(Heap.Ns1.of_empty e3).at fun o q=>Heap.get?_push_of_some _ q,fun _=>True.intro,fun y hy=>absurd rfl hy⟩
theorem YeW {prog:Program} {w:World} {env:Env} {e:Expr} {f:Str} {pos:Pos} {s:Shared} {Q:Value→Shared→Prop} (hb:attributeBase e f env (eval e env)=eval e env)
  (h:wpAny (model prog w) A (eval e env) (fun o s₁=>wpAny (model prog w) A (getAttr o f true) Q E s₁) E s):wpAny (model prog w) A (eval (.Attribute e f pos) env) Q E s :=
 Attribute_any_ h (by rw [arm_eval_Attribute,hb])
end
def tFld (K:PySem.W.Frag) (ta:TE) (f:Str):TE:=fun σ H Q=>ta σ H fun x H1=>∃ a C dx fs v,x = .ref a∧H1 a=some (.ins C dx fs)∧Cls K C∧Xc K C f∧fs.lookup f=some v∧Q v H1
def sFld (K:PySem.W.Frag) (ta tv:TE) (f:Str):TS:=fun D σ H=>tv σ H fun y H1=>ta σ H1 fun x H2=>∃ a C dx fs,x = .ref a∧H2 a=some (.ins C dx fs)∧Cls K C∧Xc K C f∧fs.length<1000 ∧
 D.nx σ (upd H2 a (.ins C dx (Xj f y fs)))
def InOp (X:Cx) (op:Operator) (rd:V→V→Hp→VK→Prop):Prop :=
 ∀ (pins:List (Addr×Obj)) (s:Shared) (σ:St) (H:Hp) (x y:V) (u v:Value) (Q:VK),Inv X pins σ H s→YA x u→YA y v→rd x y H Q→wpAny (model X.prog X.w) X.A (inplaceOp op u v) (EP X pins σ Q) X.xe s
def YeX (K:PySem.W.Frag) (ta tv:TE) (rd:V→V→Hp→VK→Prop) (f:Str):TS:=fun D σ H=>ta σ H fun x H1=>∃ a C dx fs v,x = .ref a∧H1 a=some (.ins C dx fs)∧Cls K C∧Xc K C f∧fs.lookup f=some v ∧
 tv σ H1 fun y H2=>rd v y H2 fun z H3=>∃ dx' fs',H3 a=some (.ins C dx' fs')∧fs'.length<1000∧D.nx σ (upd H3 a (.ins C dx' (Xj f z fs')))
section
variable {X:Cx} {o e value:Expr} {f:Str} {pos pos' tpos:Pos} {ta tv:TE}
theorem WD (he:PE X e ta) (hb:attributeBase e f X.env (eval e X.env)=eval e X.env):PE X (.Attribute e f pos) (tFld X.K ta f):=by
 intro pins s σ H Q I h
 refine YeW hb (thn (he pins s σ H _ I h) fun u s1 ⟨x,H1,I1,rx,a,C,dx,fs,v,ex,ea,c,n,l,q⟩=>?_)
 subst ex
 obtain rfl:u=Value.ref a:=rx
 exact UK I1 ea c n l fun u' s2 I2 ru=>⟨v,H1,I2,ru,q⟩
theorem YcL (ha:PE X o ta) (hv:PE X value tv) (hs:swapsWith value (some (.Attribute o f pos')) pos.line X.env=pure false):PS X (.Assign [.Attribute o f pos'] value pos) (sFld X.K ta tv f):=by
 intro pins s σ H D I h
 refine plainObj_wpAny_Assign_Attribute (thn (hv pins s σ H _ I h) fun u s1 ⟨y,H1,I1,ry,q⟩=>thn (ha pins s1 σ H1 _ I1 q) fun ov s2 ⟨x,H2,I2,rx,a,C,dx,fs,ex,ea,c,n,l,q2⟩=>?_) hs
 subst ex
 obtain rfl:ov=Value.ref a:=rx
 exact UM I2 ea c n l ry fun s3 I3=>⟨σ,_,I3,q2⟩
theorem Qr {op:Operator} {rd:V→V→Hp→VK→Prop} (ha:PE X o ta) (hv:PE X value tv) (hop:InOp X op rd):PS X (.AugAssign (.Attribute o f tpos) op value pos) (YeX X.K ta tv rd f):=by
 intro pins s σ H D I h
 refine wpAny_AugAssign_AttributeAny (thn (ha pins s σ H _ I h) fun ov s1 ⟨x,H1,I1,rx,a,C,dx,fs,v,ex,ea,c,n,l,q⟩=>?_)
 subst ex
 obtain rfl:ov=Value.ref a:=rx
 refine UK I1 ea c n l fun u s2 I2 ru=>thn (hv pins s2 σ H1 _ I2 q) fun w3 s3 ⟨y,H2,I3,ry,q3⟩=>thn (hop pins s3 σ H2 v y u w3 _ I3 ru ry q3) fun w4 s4 ⟨z,H3,I4,rz,dx',fs',ea',l',q4⟩=>?_
 exact UM I4 ea' c n l' rz fun s5 I5=>⟨σ,_,I5,q4⟩
def rAdd:V→V→Hp→VK→Prop:=fun x y H Q=>∃ i j,x = .int i∧y = .int j∧Q (.int (i+j)) H
theorem YcM:InOp X .Add rAdd:=by
 rintro pins s σ H x y u v Q I rx ry ⟨i,j,rfl,rfl,q⟩
 obtain ⟨t,rfl⟩:=(show ∃ t,u=Value.int i t from rx)
 obtain ⟨t',rfl⟩:=(show ∃ t',v=Value.int j t' from ry)
 exact PyProof.Rows.iadd_int ⟨.int (i+j),H,I.tok _,⟨_,rfl⟩,q⟩
end
section
variable {X:Cx} {pins:List (Addr×Obj)} {σ:St} {H:Hp} {s:Shared} {A:Around} {E:Value→Shared→Prop} {Q:Value→Shared→Prop} {c:Value} {b:Bool}
inductive TyOf (K:PySem.W.Frag) (H:Hp):V→Value→Prop where
 | non:TyOf K H .non (.type "NoneType")
 | bl (x:Bool):TyOf K H (.bl x) (.type "bool")
 | int (i:Int):TyOf K H (.int i) (.type "int")
 | str (x:Str):TyOf K H (.str x) (.type "str")
 | flt (x:UInt64):TyOf K H (.flt x) (.type "float")
 | lst {a:Addr} {xs:List V} (e:H a=some (.lst xs)):TyOf K H (.ref a) (.type "list")
 | frz {a:Addr} {o:Obj} {xs:List V} (e:H a=some (.frz o (.lst xs))):TyOf K H (.ref a) (.type "list")
 | tup {a:Addr} {xs:List V} (e:H a=some (.tup xs)):TyOf K H (.ref a) (.type "tuple")
 | dK {a:Addr} {kvs:List (Key×V)} (e:H a=some (.dK kvs)):TyOf K H (.ref a) (.type "dict")
 | dT {a:Addr} {kvs:List (List Key×V)} (e:H a=some (.dT kvs)):TyOf K H (.ref a) (.type "dict")
 | ins {a C dx:Addr} {fs:List (Str×V)} (e:H a=some (.ins C dx fs)) (cl:Cls K C) (ha:PySem.W.findIn K (.ref C) "__class__"=some (some (.builtin "object.__class__")))
   (hn:PySem.W.specialIn K (.builtin "object.__class__") "__get__"=some (some (.builtin "getset_descriptor.__get__"))) (htk:PySem.W.takesIn K (.builtin "object.__class__")=some true)
   (hm:PySem.W.mroIn K C (.type "object")=some true):TyOf K H (.ref a) (.ref C)
theorem YcN {x:V} {u t:Value} (I:Inv X pins σ H s) (rx:YA x u) (ty:TyOf X.K H x t) (e:PySem.W.kitOne X.K t c=some b) (h:∀ tk,Q (.bool b) { s with toks:=tk }) :
  wpAny (model X.prog X.w) A (call (.builtin "isinstance") [u,c]) Q E s:=by
 cases ty with
 | non=>cases (show u=Value.none from rx);exact PySem.W.kia_one PySem.W.kitx_none I.kIn True.intro e (fun z=>nomatch z) h
 | bl y=>cases (show u=Value.bool y from rx);exact PySem.W.kia_one PySem.W.kitx_bool I.kIn True.intro e (fun z=>nomatch z) h
 | int i=>obtain ⟨t,q⟩:=(show ∃ t,u=Value.int i t from rx);cases q;exact PySem.W.kia_one PySem.W.kitx_int I.kIn True.intro e (fun z=>nomatch z) h
 | str y=>obtain ⟨t,q⟩:=(show ∃ t,u=Value.str y t from rx);cases q;exact PySem.W.kia_one PySem.W.kitx_str I.kIn True.intro e (fun z=>nomatch z) h
 | flt y=>obtain ⟨t,q⟩:=(show ∃ t,u=Value.float y t from rx);cases q;exact PySem.W.kia_one PySem.W.kitx_float I.kIn True.intro e (fun z=>nomatch z) h
 | @lst a xs ea =>
  cases (show u=Value.ref a from rx)
  obtain ⟨_,_,n,_,h1⟩:=(show YT X.prog X.w H s.heap a (.lst xs) from I.hok a _ ea)
  exact PySem.W.kia_one PySem.W.kitx_list I.kIn ⟨_,h1,rfl⟩ e (fun z=>nomatch z) h
 | @frz a ob xs ea =>
  cases (show u=Value.ref a from rx)
  obtain ⟨_,_,_,n,_,h1⟩:=(show YT X.prog X.w H s.heap a (.frz ob (.lst xs)) from I.hok a _ ea)
  exact PySem.W.kia_one PySem.W.kitx_list I.kIn ⟨_,h1,rfl⟩ e (fun z=>nomatch z) h
 | @tup a xs ea =>
  cases (show u=Value.ref a from rx)
  obtain ⟨_,_,_,p⟩:=(show YT X.prog X.w H s.heap a (.tup xs) from I.hok a _ ea)
  obtain ⟨o,h1,h2,_⟩:=p
  exact PySem.W.kia_one PySem.W.kitx_tuple I.kIn ⟨o,h1,h2⟩ e (fun z=>nomatch z) h
 | @dK a kvs ea =>
  cases (show u=Value.ref a from rx)
  obtain ⟨_,_,vs,_,p⟩:=(show YT X.prog X.w H s.heap a (.dK kvs) from I.hok a _ ea)
  obtain ⟨o,es,ep,h1,h2,_⟩:=p
  exact PySem.W.kia_one PySem.W.kitx_dict I.kIn ⟨o,h1,h2.1⟩ e (fun z=>nomatch z) h
 | @dT a kvs ea =>
  cases (show u=Value.ref a from rx)
  obtain ⟨_,_,xs,_,o,es,ep,h1,h2,_⟩:=(show YT X.prog X.w H s.heap a (.dT kvs) from I.hok a _ ea)
  exact PySem.W.kia_one PySem.W.kitx_dict I.kIn ⟨o,h1,h2.1⟩ e (fun z=>nomatch z) h
 | @ins a C dx fs ea cl ha hn htk hm =>
  cases (show u=Value.ref a from rx)
  obtain ⟨mA,O,_⟩:=Ve I.hok ea
  obtain ⟨od,J,_⟩:=O.look
  exact PySem.W.kia_one (PySem.W.kitx_own (cl.get _) cl.hd ha hn htk hm) I.kIn J e (fun z=>nomatch z) h
end
end L2
namespace L2
open PySem PySem.Spec PyProof.Rows
structure Room (k:Nat) (A:Around):Prop where
 hd:A.handled=none
 dp:A.depth+3*k+5<recursionLimit
 un:A.units+16*k+200<cLine
theorem Room.mono {j k:Nat} {A:Around} (r:Room k A) (h:j≤k):Room j A:=⟨r.hd,by have:=r.dp;omega,by have:=r.un;omega⟩
theorem Room.deeper {k:Nat} {A:Around} (r:Room (k+1) A) (env:Env):Room k (A.deeper env) :=
 ⟨r.hd,by have:=r.dp;show A.depth+1+3*k+5<_;omega,by have:=r.un;show A.units+3+16*k+200<_;omega⟩
theorem Room.in1 {k:Nat} {A:Around} (r:Room (k+1) A):Room k A.in1 :=
 ⟨r.hd,by have:=r.dp;show A.depth+3*k+5<_;omega,by have:=r.un;show A.units+1+16*k+200<_;omega⟩
theorem Yb6 {A:Around} {C:Addr} {us:List Value} {kw:List (Str×Value)}:(A.under (.builtin "type.__call__" ⟨.ref C::us,kw⟩)).depth=A.depth+1:=by
 first | rfl | simp [Around.under,Code.weight,Code.isCreation,Code.isGuard,Code.isCaller,Code.frames,Code.isFrame,guardIds]
theorem Yb7 {A:Around} {C:Addr} {us:List Value} {kw:List (Str×Value)}:(A.under (.builtin "type.__call__" ⟨.ref C::us,kw⟩)).units=A.units+1:=by
 first | rfl | simp [Around.under,Code.cUnits,Code.frames,Code.isFrame]
theorem Room.make {k:Nat} {A:Around} (r:Room (k+1) A) (C:Addr) (us:List Value) (kw:List (Str×Value)):Room k (A.under (.builtin "type.__call__" ⟨.ref C::us,kw⟩)) :=
 ⟨r.hd,by have:=r.dp;rw [Yb6];omega,by have:=r.un;rw [Yb7];omega⟩
theorem Room.depth {k:Nat} {A:Around} (r:Room k A):A.depth<recursionLimit:=by have:=r.dp;omega
theorem Room.units {k:Nat} {A:Around} (r:Room k A):A.units+64<cLine:=by have:=r.un;omega
def Q8:TA:=fun _ H Q=>Q [] H
def Yer (ta:TE) (tr:TA):TA:=fun σ H Q=>ta σ H fun x H1=>tr σ H1 fun xs H2=>Q (x::xs) H2
section
variable {X:Cx} {e:Expr} {es:List Expr} {te:TE} {t:TA} {pos:Pos}
theorem Yb:PA X [] Q8:=fun _ _ _ _ H Q I h=>Calls.spliced_nil ⟨[],H,I,.nil,h⟩
theorem Ya (ha:PE X e te) (hr:PA X es t) (hs:starEach (e::es) X.env=(false,eval e X.env)::starEach es X.env:=by rfl):PA X (e::es) (Yer te t):=by
 intro pos pins s σ H Q I h
 rw [hs]
 show wpAny _ _ (spliced ((false,eval e X.env)::backTo pos (starEach es X.env))) _ _ s
 refine Calls.spliced_cons (thn (ha pins s σ H _ I h) fun u s1 ⟨x,H1,I1,r1,q1⟩=>?_)
 exact thn (hr pos pins s1 σ H1 _ I1 q1) fun us s2 ⟨xs,H2,I2,r2,q2⟩=>⟨x::xs,H2,I2,.cons r1 r2,q2⟩
def tTup (t:TA):TE:=fun σ H Q=>t σ H fun xs H1=>xs.length≤sizeLine∧∀ p,H1 p=none→Q (.ref p) (upd H1 p (.tup xs))
def tLst (t:TA):TE:=fun σ H Q=>t σ H fun xs H1=>xs.length≤sizeLine∧∀ p,H1 p=none→Q (.ref p) (upd H1 p (.lst xs))
theorem Yx {x1} (h:PA X es t):PE X (.Tuple es x1 pos) (tTup t):=by
 intro pins s σ H Q I hq
 refine wpAny_Tuple_spliced (thn (h pos pins s σ H _ I hq) fun us s1 ⟨xs,H1,I1,r,z,q⟩=>⟨by rw [← r.length];exact z,?_⟩)
 have hf:H1 s1.heap.objs.size=none:=I1.hok.fresh (Nat.le_refl _)
 refine ⟨.ref s1.heap.objs.size,upd H1 s1.heap.objs.size (.tup xs),I1.laid (t':=s1.toks) (fun b u e=>Heap.get?_push_of_some _ e) (Nat.le_refl _) ?_,rfl,q _ hf⟩
 exact ⟨z,us,r,⟨_,Heap.get?_push_size _ rfl,rfl,_,rfl⟩⟩
theorem Xk (h:PA X es t):PE X (.List es pos) (tLst t):=by
 intro pins s σ H Q I hq
 refine wpAny_List_spliced (thn (h pos pins s σ H _ I hq) fun us s1 ⟨xs,H1,I1,r,z,q⟩=>⟨by rw [← r.length];exact z,?_⟩)
 have hf:H1 s1.heap.objs.size=none:=I1.hok.fresh (Nat.le_refl _)
 refine ⟨.ref s1.heap.objs.size,upd H1 s1.heap.objs.size (.lst xs),I1.laid (t':=s1.toks) (fun b u e=>Heap.get?_push_of_some _ e) (Nat.le_refl _) ?_,rfl,q _ hf⟩
 exact ⟨z,us,0,r,Heap.get?_push_size _ rfl⟩
end
abbrev Sp:=List V→Hp→VK→XK→Prop
abbrev CXT:=List Env→Hp→Shared→XK→Value→Shared→Prop
structure Env0 (P:Program) (w:World) (K:PySem.W.Frag) (mg:Str→Option Value) (base:Heap) (A:Around) (outer:List Env) (s:Shared) (H:Hp):Prop where
 frames:A.frames=some outer
 mod:Mod K mg base
 bs:∀ b o,base.get? b=some o→s.heap.get? b=some o∧H b=none
 bsz:base.objs.size≤s.heap.objs.size
 funs:s.heap.FunFrames base outer
 frf:∀ b∈frs outer,H b=none
 hok:HOk P w H s.heap
 bare:AllBare s.gens
def CE (outer:List Env) (P:Program) (w:World) (H:Hp) (s:Shared) (Q:VK) (u:Value) (s':Shared):Prop :=
 ∃ v H',s'.os=s.os∧AllBare s'.gens∧Un (frs outer) [] H H' s.heap s'.heap∧HOk P w H' s'.heap∧YA v u∧Q v H'
def CR (CX:CXT) (outer:List Env) (P:Program) (w:World) (H:Hp) (s:Shared) (Q:VK) (E:XK) (r:Result) (s':Shared):Prop :=
 match r with
 | .ok (.ret u)=>CE outer P w H s Q u s'
 | .ok _=>False
 | .error e=>CX outer H s E e s'
structure FnOk (P:Program) (w:World) (K:PySem.W.Frag) (mg:Str→Option Value) (base:Heap) (CX:CXT) (k:Nat) (f:Addr) (fd:FuncData) (ps:List Str) (sp:Sp):Prop where
 len:∀ vs H Q E,sp vs H Q E→vs.length=ps.length
 run:∀ (A:Around) (outer:List Env) (s:Shared) (H:Hp) (args:Args) (us:List Value) (vs:List V) (Q:VK) (E:XK),Room k A→Env0 P w K mg base A outer s H→BindsTo s fd args (ps.zip us)→Yr vs us→sp vs H Q E →
  codeAny (model P w) A (.call (.ref f) args) (CR CX outer P w H s Q E) s
theorem FnOk.mono {P:Program} {w:World} {K:PySem.W.Frag} {mg:Str→Option Value} {base:Heap} {CX:CXT} {j k:Nat} {f:Addr} {fd:FuncData} {ps:List Str} {sp:Sp} (F:FnOk P w K mg base CX j f fd ps sp) (h:j≤k) :
  FnOk P w K mg base CX k f fd ps sp:=⟨F.len,fun A outer s H args us vs Q E hr=>F.run A outer s H args us vs Q E (hr.mono h)⟩
theorem Env0.make {P:Program} {w:World} {K:PySem.W.Frag} {mg:Str→Option Value} {base:Heap} {A:Around} {outer:List Env} {s:Shared} {H:Hp} (e:Env0 P w K mg base A outer s H) (C:Addr) (us:List Value) (kw:List (Str×Value)) :
  Env0 P w K mg base (A.under (.builtin "type.__call__" ⟨.ref C::us,kw⟩)) outer s H:=⟨by first | exact e.frames | (simpa [Around.under,Code.envs,Code.isFrame,pushEnvs] using e.frames),e.mod,e.bs,e.bsz,e.funs,e.frf,e.hok,e.bare⟩
theorem Env0.in1 {P:Program} {w:World} {K:PySem.W.Frag} {mg:Str→Option Value} {base:Heap} {A:Around} {outer:List Env} {s:Shared} {H:Hp} (e:Env0 P w K mg base A outer s H) :
  Env0 P w K mg base A.in1 outer s H:=⟨e.frames,e.mod,e.bs,e.bsz,e.funs,e.frf,e.hok,e.bare⟩
section
variable {X:Cx} {pins:List (Addr×Obj)} {σ:St} {H:Hp} {s s':Shared}
theorem Inv.env0 (I:Inv X pins σ H s):Env0 X.prog X.w X.K X.mg X.base X.A X.stack s H :=
 ⟨I.ok.frames,I.ok.mod,I.bs,Nat.le_trans I.ok.bsz I.sz,I.stack,I.stkFree,I.hok,I.bare⟩
theorem Inv.after {Q:VK} {u:Value} (I:Inv X pins σ H s) (h:CE X.stack X.prog X.w H s Q u s'):EP X pins σ Q u s':=by
 obtain ⟨v,H',os,bare,un,hok,r,q⟩:=h
 obtain ⟨hh,g,d,t,os'⟩:=s'
 obtain rfl:os'=s.os:=os
 exact ⟨v,H',I.call (h':=hh) (g':=g) (d':=d) (t':=t) (ch:=[]) un hok bare (fun b z=>absurd z (by simp)),r,q⟩
end
def QU (sp:Sp) (dvs:List V) (E:XK) (t:TA):TE:=fun σ H Q=>t σ H fun vs H1=>sp (vs++dvs) H1 Q E
def Ul (C:Addr) (m:Str) (sp:Sp) (dvs:List V) (E:XK) (ta:TE) (t:TA):TE:=fun σ H Q=>ta σ H fun x H1=>∃ a dx fs,x = .ref a∧H1 a=some (.ins C dx fs)∧fs.lookup m=none ∧
 t σ H1 fun vs H2=>sp (x::(vs++dvs)) H2 Q E
def Yb8 (C:Addr) (sp:Sp) (dvs:List V) (E:XK) (t:TA):TE:=fun σ H Q=>t σ H fun vs H1=>∀ x dx,H1 x=none→H1 dx=none→dx≠x →
 sp (.ref x::(vs++dvs)) (upd (upd H1 dx (.own x)) x (.ins C dx [])) (fun v H2=>v = .non∧Q (.ref x) H2) E
def Xr (K:PySem.W.Frag) (fd:FuncData) (ps:List Str) (ds:List Value):Prop :=
 ∀ (s:Shared) (us:List Value),K.In s.heap→(us++ds).length=ps.length→BindsTo s fd ⟨us,[]⟩ (ps.zip (us++ds))
theorem Xr.all {K:PySem.W.Frag} {fd:FuncData} {ps:List Str} (h:∀ us:List Value,us.length=ps.length→bindArgs fd ⟨us,[]⟩=pure (ps.zip us)):Xr K fd ps []:=fun s us _ hl=>by
 rw [List.append_nil] at hl ⊢
 exact .of_eq (h us hl)
def XL (CX:CXT) (X:Cx) (E:XK):Prop:=∀ (pins:List (Addr×Obj)) (σ:St) (H:Hp) (s:Shared) (e:Value) (s':Shared),Inv X pins σ H s→CX X.stack H s E e s'→X.xe e s'
section
variable {X:Cx} {CX:CXT} {k:Nat} {f C:Addr} {fd:FuncData} {ps:List Str} {sp:Sp} {dvs:List V} {ds:List Value} {E:XK} {x m:Str} {p pos apos:Pos} {e o:Expr} {es:List Expr} {ta:TE} {t:TA}
theorem Q9 {pins:List (Addr×Obj)} {σ:St} {H:Hp} {s:Shared} {Q:VK} {us:List Value} {vs:List V} (F:FnOk X.prog X.w X.K X.mg X.base CX k f fd ps sp) (hr:Room k X.A) (hb:Xr X.K fd ps ds) (hd:Yr dvs ds) (hx:XL CX X E)
  (I:Inv X pins σ H s) (r:Yr vs us) (h:sp (vs++dvs) H Q E):wpAny (model X.prog X.w) X.A (call (.ref f) us) (EP X pins σ Q) X.xe s:=by
 have r2:Yr (vs++dvs) (us++ds):=r.append hd
 have hl:(us++ds).length=ps.length:=by rw [← r2.length];exact F.len _ _ _ _ h
 refine wpAny_call (codeAny_mono (F.run X.A X.stack s H ⟨us,[]⟩ (us++ds) (vs++dvs) Q E hr I.env0 (hb s us I.kIn hl) r2 h) fun r s' hq=>?_)
 cases r with
 | error e=>exact hx pins σ H s e s' I hq
 | ok fl =>
  cases fl with
  | ret u=>exact I.after hq
  | next=>exact False.elim hq
  | brk=>exact False.elim hq
  | cont=>exact False.elim hq
theorem Ybn (F:FnOk X.prog X.w X.K X.mg X.base CX k f fd ps sp) (hr:Room k X.A) (hg:Gl X x) (hm:X.mg x=some (.ref f)) (hk:PySem.W.keepIn X.K (.ref f)=true) (hb:Xr X.K fd ps ds) (hd:Yr dvs ds) (hx:XL CX X E)
  (ha:PA X (e::es) t) (hdb:(x==("__debug__":Str))=false:=by decide) (he:starEach (e::es) X.env=(false,eval e X.env)::starEach es X.env:=by rfl) (hpl:(backTo pos (starEach es X.env)).any (·.1)=false:=by rfl) :
  PE X (.Call (.Name x p) (e::es) [] pos) (QU sp dvs E t):=by
 intro pins s σ H Q I h
 refine wpAny_Call_Name_kw (WL I hg hm ?_ hdb)
 refine PySem.W.callWith_K (h₀:=X.base) I.ok.mod.kin hk (thn (ha pos pins s σ H _ I h) fun us s1 ⟨vs,H1,I1,r,q⟩=>⟨I1.kIn,?_⟩) he hpl
 exact Q9 F hr hb hd hx I1 r q
theorem YeY {pl:Sem Bool} (he:PE X o ta) (c:Cls X.K C) (hm:Meth X.K C m f) (F:FnOk X.prog X.w X.K X.mg X.base CX k f fd ps sp) (hr:Room k X.A) (hb:Xr X.K fd ps ds) (hd:Yr dvs ds) (hx:XL CX X E) (ha:PA X (e::es) t)
  (hst:starEach (e::es) X.env=(false,eval e X.env)::starEach es X.env:=by rfl) (hpl:(backTo pos (starEach es X.env)).any (·.1)=false:=by rfl)
  (ht:eval (.Call (.Attribute o m apos) (e::es) [] pos) X.env=(do
   let ov ← eval o X.env
   standAt apos.atName
   let (f,first) ← holding [ov] (getMethod ov m pl)
   callWith pos f first (backTo pos (starEach (e::es) X.env)) (backToKw pos (keywordEach [] X.env))):=by rfl) :
  PE X (.Call (.Attribute o m apos) (e::es) [] pos) (Ul C m sp dvs E ta t):=by
 intro pins s σ H Q I h
 refine PySem.W.methodCall_KW (pl:=pl) (thn (he pins s σ H _ I h) fun u s1 ⟨x,H1,I1,rx,a,dx,fs,ex,ea,l,q⟩=>?_) ht
 subst ex
 obtain rfl:u=Value.ref a:=rx
 refine UL I1 ea c hm l ?_
 refine PySem.W.callWith_K (first:=[.ref a]) (h₀:=X.base) I.ok.mod.kin hm.kp (thn (ha pos pins s1 σ H1 _ I1 q) fun us s2 ⟨vs,H2,I2,r,q2⟩=>⟨I2.kIn,?_⟩) hst hpl
 exact Q9 (us := .ref a::us) (vs := .ref a::vs) F hr hb hd hx I2 (.cons rfl r) q2
theorem Yaa {pl:Sem Bool} (he:PE X o ta) (c:Cls X.K C) (hm:Meth X.K C m f) (F:FnOk X.prog X.w X.K X.mg X.base CX k f fd ps sp) (hr:Room k X.A) (hb:Xr X.K fd ps ds) (hd:Yr dvs ds) (hx:XL CX X E)
  (ht:eval (.Call (.Attribute o m apos) [] [] pos) X.env=(do
   let ov ← eval o X.env
   standAt apos.atName
   let (f,first) ← holding [ov] (getMethod ov m pl)
   callWith pos f first (backTo pos (starEach [] X.env)) (backToKw pos (keywordEach [] X.env))):=by rfl) :
  PE X (.Call (.Attribute o m apos) [] [] pos) (Ul C m sp dvs E ta Q8):=by
 intro pins s σ H Q I h
 refine PySem.W.methodCall_KW (pl:=pl) (thn (he pins s σ H _ I h) fun u s1 ⟨x,H1,I1,rx,a,dx,fs,ex,ea,l,q⟩=>?_) ht
 subst ex
 obtain rfl:u=Value.ref a:=rx
 refine UL I1 ea c hm l ?_
 exact PySem.W.callWith_K0 (first:=[.ref a]) I1.kIn hm.kp (Q9 (us:=[.ref a]) (vs:=[.ref a]) F hr hb hd hx I1 (.cons rfl .nil) q)
structure Mk (K:PySem.W.Frag) (C f:Addr):Prop where
 makes:PySem.W.makesIn K C=true
 init:PySem.W.findIn K (.ref C) "__init__"=some (some (.ref f))
 fn:PySem.W.isFn K (.ref f)=true
 kp:PySem.W.keepIn K (.ref C)=true
theorem YdM {pins:List (Addr×Obj)} {σ:St} {H:Hp} {s:Shared} {Q:VK} {us:List Value} {vs:List V} (M:Mk X.K C f) (F:FnOk X.prog X.w X.K X.mg X.base CX k f fd ps sp) (hr:Room (k+1) X.A) (hb:Xr X.K fd ps ds) (hd:Yr dvs ds)
  (hx:XL CX X E) (I:Inv X pins σ H s) (r:Yr vs us)
  (h:∀ x dx,H x=none→H dx=none→dx≠x→sp (.ref x::(vs++dvs)) (upd (upd H dx (.own x)) x (.ins C dx [])) (fun v H2=>v = .non∧Q (.ref x) H2) E) :
  wpAny (model X.prog X.w) X.A (call (.ref C) us) (EP X pins σ Q) X.xe s:=by
 have hq:=h (s.heap.objs.size+1) s.heap.objs.size (I.hok.fresh (Nat.le_succ _)) (I.hok.fresh (Nat.le_refl _)) (Nat.ne_of_lt (Nat.lt_succ_self _))
 have I2:=Inv.made (C:=C) I
 have r2:Yr (V.ref (s.heap.objs.size+1)::(vs++dvs)) (Value.ref (s.heap.objs.size+1)::(us++ds)) := .cons rfl (r.append hd)
 have hl:(Value.ref (s.heap.objs.size+1)::us++ds).length=ps.length:=by
  have e:=r2.length
  rw [F.len _ _ _ _ hq] at e
  exact e.symm
 refine wpAny_call (YdL (f:=f) I.kIn M.makes M.init (beq_iff_eq.mp M.fn) (codeAny_mono (F.run _ X.stack _ _ ⟨Value.ref (s.heap.objs.size+1)::us,[]⟩ (Value.ref (s.heap.objs.size+1)::(us++ds)) _ _ E (hr.make C us [])
  (I2.env0.make C us []) (hb _ (Value.ref (s.heap.objs.size+1)::us) I2.kIn hl) r2 hq) fun r s' hq'=>?_))
 cases r with
 | error e=>exact hx pins σ _ _ e s' I2 hq'
 | ok fl =>
  cases fl with
  | ret u =>
   obtain ⟨v,H',I3,rv,ev,q3⟩:=I2.after hq'
   subst ev
   exact ⟨rv,⟨V.ref (s.heap.objs.size+1),H',I3,rfl,q3⟩⟩
  | next=>exact False.elim hq'
  | brk=>exact False.elim hq'
  | cont=>exact False.elim hq'
theorem YeZ (M:Mk X.K C f) (F:FnOk X.prog X.w X.K X.mg X.base CX k f fd ps sp) (hr:Room (k+1) X.A) (hg:Gl X x) (hm:X.mg x=some (.ref C)) (hb:Xr X.K fd ps ds) (hd:Yr dvs ds) (hx:XL CX X E)
  (ha:PA X (e::es) t) (hdb:(x==("__debug__":Str))=false:=by decide) (he:starEach (e::es) X.env=(false,eval e X.env)::starEach es X.env:=by rfl) (hpl:(backTo pos (starEach es X.env)).any (·.1)=false:=by rfl) :
  PE X (.Call (.Name x p) (e::es) [] pos) (Yb8 C sp dvs E t):=by
 intro pins s σ H Q I h
 refine wpAny_Call_Name_kw (WL I hg hm ?_ hdb)
 refine PySem.W.callWith_K (h₀:=X.base) I.ok.mod.kin M.kp (thn (ha pos pins s σ H _ I h) fun us s1 ⟨vs,H1,I1,r,q⟩=>⟨I1.kIn,?_⟩) he hpl
 exact YdM M F hr hb hd hx I1 r q
end
section
variable {X:Cx} {CX:CXT} {k:Nat} {f C:Addr} {fd:FuncData} {ps ks:List Str} {sp:Sp} {E:XK} {x m:Str} {p pos apos kpos:Pos} {e o:Expr} {es:List Expr} {kws:List Keyword} {te ta:TE} {t tk:TA} {nm:Option Str}
variable {g:List Value→List Value→List Value} {gV:List V→List V→List V}
end
structure FnScope (N P:List Str) (sc:Scope):Prop where
 kind:sc.kind = .function
 co:sc.isCoroutine=false
 gen:sc.isGenerator=false
 nd:N.Nodup
 pre:N.take P.length=P
 par:∀ x∈P,sc.names.lookup x=some .local∨sc.names.lookup x=some .cell
 nofree:∀ y∈sc.names,y.2 ≠ .free
theorem Qs {kindOf:Str→Option NameKind} {x:Str}:∀ {binds:List (Str×Value)} {m:Str→Option Value},(∀ v,(x,v)∉binds)→bindL kindOf binds m x=m x
 | [],_,_=>rfl
 | (n,v)::r,m,h=>by
  unfold bindL
  rw [Qs fun w hw=>h w (List.mem_cons_of_mem _ hw)]
  split
  ·have:x≠n:=by rintro rfl;exact h v List.mem_cons_self
   simp [this]
  ·rfl
theorem Qt {kindOf:Str→Option NameKind} {x:Str}:∀ {binds:List (Str×Value)} {m:Str→Option Value},(∀ v,(x,v)∉binds)→bindC kindOf binds m x=m x
 | [],_,_=>rfl
 | (n,v)::r,m,h=>by
  unfold bindC
  rw [Qt fun w hw=>h w (List.mem_cons_of_mem _ hw)]
  split
  ·rfl
  ·have:x≠n:=by rintro rfl;exact h v List.mem_cons_self
   simp [this]
theorem Qu {kindOf:Str→Option NameKind} {x:Str} {v:Value}:∀ {P:List Str} {vs:List Value} {i:Nat} {m:Str→Option Value},P.Nodup→P[i]?=some x→vs[i]?=some v→kindOf x=some .local →
  bindL kindOf (P.zip vs) m x=some v
 | [],_,_,_,_,h,_,_=>by simp at h
 | _::_,[],_,_,_,_,h,_=>by simp at h
 | p::P,w::vs,0,m,nd,h1,h2,hk=>by
  simp at h1 h2;subst h1;subst h2
  show bindL kindOf ((p,w)::P.zip vs) m p=_
  unfold bindL
  rw [Qs fun v hv=>(List.nodup_cons.mp nd).1 (List.of_mem_zip hv).1,if_pos hk]
  simp
 | p::P,w::vs,i+1,m,nd,h1,h2,hk=>by
  show bindL kindOf ((p,w)::P.zip vs) m x=_
  unfold bindL
  exact Qu (i:=i) (List.nodup_cons.mp nd).2 (by simpa using h1) (by simpa using h2) hk
theorem Qv {kindOf:Str→Option NameKind} {x:Str} {v:Value}:∀ {P:List Str} {vs:List Value} {i:Nat} {m:Str→Option Value},P.Nodup→P[i]?=some x→vs[i]?=some v→kindOf x≠some .local →
  bindC kindOf (P.zip vs) m x=some v
 | [],_,_,_,_,h,_,_=>by simp at h
 | _::_,[],_,_,_,_,h,_=>by simp at h
 | p::P,w::vs,0,m,nd,h1,h2,hk=>by
  simp at h1 h2;subst h1;subst h2
  show bindC kindOf ((p,w)::P.zip vs) m p=_
  unfold bindC
  rw [Qt fun v hv=>(List.nodup_cons.mp nd).1 (List.of_mem_zip hv).1,if_neg hk]
  simp
 | p::P,w::vs,i+1,m,nd,h1,h2,hk=>by
  show bindC kindOf ((p,w)::P.zip vs) m x=_
  unfold bindC
  exact Qv (i:=i) (List.nodup_cons.mp nd).2 (by simpa using h1) (by simpa using h2) hk
def Wl (N:List Str) (vs:List V):St:=vs.map some++List.replicate (N.length - vs.length) none
def Vv (CX:CXT) (P:Program) (w:World) (K:PySem.W.Frag) (mg:Str→Option Value) (base:Heap) (N:List Str) (qual:Str) (scope:Scope) (f:Addr) (cd:Value) (A:Around) (outer:List Env) (s:Shared) (H:Hp) (E:XK):Cx where
 prog:=P
 w:=w
 K:=K
 mg:=mg
 base:=base
 A:=A.deeper (envOfC qual scope s.heap.objs.size f cd)
 N:=N
 s₀:=s
 H₀:=H
 env:=envOfC qual scope s.heap.objs.size f cd
 outer:=outer
 stack:=envOfC qual scope s.heap.objs.size f cd::outer
 ex:=[]
 calm:=true
 fn:=fun _=>true
 pn:=[]
 xe:=fun e s'=>wpAny (model P w) (A.deeper (envOfC qual scope s.heap.objs.size f cd)) (leaving (envOfC qual scope s.heap.objs.size f cd) e) (fun _ s''=>CX outer H s E e s'') (fun e' s''=>CX outer H s E e' s'') s'
theorem Yab {sc:Scope} {n:Nat} {x:Str} (h:sc.names.lookup x=some .cell):∃ c,(cellsFrom n sc.names []).lookup x=some c:=by
 have q:=PySem.W.cellsFrom_some sc.names n [] (.inl h)
 exact Option.isSome_iff_exists.mp q
theorem YcO {CX:CXT} {P:Program} {w:World} {K:PySem.W.Frag} {mg:Str→Option Value} {base:Heap} {N ps:List Str} {qual:Str} {scope:Scope} {f:Addr} {cd:Value} {A:Around} {outer:List Env} {s s1:Shared} {H:Hp} {E:XK} {us:List Value} {vs:List V}
  (S:FnScope N ps scope) (hd:A.handled=none) (e0:Env0 P w K mg base A outer s H) (hl:vs.length=ps.length) (r:Yr vs us)
  (x:InCallC s s.heap.objs.size (bindL (envOfC qual scope s.heap.objs.size f cd).kindOf (ps.zip us) fun _=>none) (cellsFrom (s.heap.objs.size+1) scope.names []) (bindC (envOfC qual scope s.heap.objs.size f cd).kindOf (ps.zip us) fun _=>none) s1) :
  Inv (Vv CX P w K mg base N qual scope f cd A outer s H E) [] (Wl N vs) H s1:=by
 have hpl:ps.length≤N.length:=by have:=congrArg List.length S.pre;rw [List.length_take] at this;omega
 obtain ⟨h1,tk,rfl,hk⟩:=x.done
 have noA:∀ b:Addr,b∉(Vv CX P w K mg base N qual scope f cd A outer s H E).ex:=fun b z=>absurd (show b∈([]:List Addr) from z) (by simp)
 refine ⟨⟨e0.mod,S.kind,rfl,rfl,Nat.le_refl _,fun y z c h1 h2=>?_,fun y hy=>?_,fun y c _ h=>?_,fun _=>hd,Around.frames_deeper e0.frames,.inr ⟨rfl,rfl⟩,fun b z=>absurd z (noA b),e0.bs,e0.bsz,fun b _ _=>noA b,fun b z=>absurd z (noA b),e0.funs,e0.frf⟩,
  rfl,e0.bare,Un.kept hk,⟨_,x.toInCall.ns,fun i y v h1 h2 h3=>?_⟩,fun y c h=>⟨_,x.cell y c h⟩,e0.hok.fresh (Nat.le_refl _),fun y c h=>?_,fun p hp=>absurd (show p∈([]:List (Addr×Obj)) from hp) (by simp),e0.hok.kept hk,?_⟩
 ·exact name_of_addr x.apart (PySem.mem_of_lookup h1) (PySem.mem_of_lookup h2)
 ·have hy:scope.names.lookup y=some .cell∨scope.names.lookup y=some .free:=hy
  rcases hy with hy | hy
  ·exact Yab hy
  ·exact absurd rfl (S.nofree _ (PySem.mem_of_lookup hy))
 ·exact Nat.le_of_lt (x.above y c (PySem.mem_of_lookup h))
 ·have hi:i<vs.length:=by
   unfold Wl at h2
   by_cases hi:i<vs.length
   ·exact hi
   ·rw [List.getElem?_append_right (by simpa using hi)] at h2
    rw [List.getElem?_replicate] at h2
    split at h2<;>cases h2
  have ha:vs[i]?=some v:=by
   unfold Wl at h2
   rw [List.getElem?_append_left (by simpa using hi),List.getElem?_map] at h2
   cases e:vs[i]? with
   | none=>rw [e] at h2;cases h2
   | some a=>rw [e] at h2;cases h2;rfl
  obtain ⟨u,hu,rv⟩:=r.get ha
  have hp:ps[i]?=some y:=by
   rw [← S.pre,List.getElem?_take_of_lt (by omega)];exact h1
  have ndP:ps.Nodup:=by rw [← S.pre];exact S.nd.sublist (List.take_sublist _ _)
  refine ⟨u,rv,?_⟩
  rcases S.par y (List.mem_of_getElem? hp) with k | k
  ·exact .inl ⟨k,Qu ndP hp hu k⟩
  ·obtain ⟨c,e⟩:=Yab (n:=s.heap.objs.size+1) k
   refine .inr ⟨.inl k,c,e,?_⟩
   have q:=x.cell y c e
   rw [Qv ndP hp hu (by show scope.names.lookup y≠_;rw [k];decide)] at q
   exact q
 ·exact e0.hok.fresh (Nat.le_of_lt (x.above y c (PySem.mem_of_lookup h)))
 ·unfold Wl
  show _=N.length
  rw [List.length_append,List.length_map,List.length_replicate]
  omega
theorem Yb9 {CX:CXT} {P:Program} {w:World} {K:PySem.W.Frag} {mg:Str→Option Value} {base:Heap} {k:Nat} {f:Addr} {name qual:Str} {params:Arguments} {body:List Stmt} {scope:Scope} {dV kV doc pm cdv ct oc:Value} {an od:Option Addr}
  {osl:Array (Option Value)} {N ps:List Str} {sp:Sp} (lk:K.lookup f=some ⟨oc,od,.func (PySem.W.fnOf name qual params body scope dV kV doc pm an cdv ct),osl⟩) (hcd:PySem.W.codeIn K cdv qual=true) (S:FnScope N ps scope)
  (len:∀ vs H Q E,sp vs H Q E→vs.length=ps.length)
  (hbody:∀ (A:Around) (outer:List Env) (s:Shared) (H:Hp) (vs:List V) (Q:VK) (E:XK),Room k (A.deeper (envOfC qual scope s.heap.objs.size f cdv))→sp vs H Q E →
   ∃ t,PSs (Vv CX P w K mg base N qual scope f cdv A outer s H E) body t∧t { nx:=fun _ H'=>Q .non H',rt:=Q } (Wl N vs) H) :
  FnOk P w K mg base CX (k+1) f (PySem.W.fnOf name qual params body scope dV kV doc pm an cdv ct) ps sp:=by
 refine ⟨len,fun A outer s H args us vs Q E hr e0 hb r hsp=>?_⟩
 have hl:=len _ _ _ _ hsp
 have KX:K.In s.heap:=e0.mod.kin.keeps fun b o e=>(e0.bs b o e).1
 have lim:s.heap.NoLimit:=e0.mod.nolimit.keeps fun b o e=>(e0.bs b o e).1
 have hkind:∀ y∈ps.zip us,scope.names.lookup y.1=some .local∨(scope.names.lookup y.1=some .cell∧((cellsFrom (s.heap.objs.size+1) scope.names []).lookup y.1).isSome=true):=fun ⟨n,v⟩ hy=>by
  rcases S.par n (List.of_mem_zip hy).1 with q | q
  ·exact .inl q
  ·exact .inr ⟨q,PySem.W.cellsFrom_some _ _ _ (.inl q)⟩
 refine codeAny_call_function hr.depth (KX _ _ lk) rfl S.co S.gen rfl (PySem.W.codeRec_of KX hcd) (hb _ _ _ _ ?_)
 refine wpAny_newFunctionEnv_cells S.kind hkind fun env he s1 x=>?_
 subst he
 refine ⟨lim.keeps x.toInCall.keep,codeAny_func ?_⟩
 obtain ⟨t,ht,hq⟩:=hbody A outer s H vs Q E (hr.deeper _) hsp
 have I:Inv (Vv CX P w K mg base N qual scope f cdv A outer s H E) [] (Wl N vs) H s1:=YcO S hr.hd e0 hl r x
 refine wpAny_mono (ht [] s1 (Wl N vs) H _ I hq) (fun fl s' hs=>?_) fun e s' hs=>hs
 have fin:∀ {σ':St} {H':Hp} {v:V} {u:Value},Inv (Vv CX P w K mg base N qual scope f cdv A outer s H E) [] σ' H' s'→YA v u→Q v H'→CE outer P w H s Q u s' :=
  fun {σ' H' v u} J rv q=>⟨v,H',J.os,J.bare,J.base,J.hok,rv,q⟩
 cases fl with
 | ret u =>
  obtain ⟨v,σ',H',J,rv,q⟩:=hs
  exact fin J rv q
 | next =>
  obtain ⟨σ',H',J,q⟩:=hs
  exact fin (v:=V.non) (u:=Value.none) J rfl q
 | brk =>
  obtain ⟨_,_,_,q⟩:=hs
  exact False.elim q
 | cont =>
  obtain ⟨_,_,_,q⟩:=hs
  exact False.elim q
end L2
namespace L2
open PySem PySem.Spec PyProof.Rows
section
variable {X:Cx} {x:Str} {p pos:Pos} {e:Expr} {es:List Expr} {t:TA} {id T:String} {r:List V→Hp→VK→Prop}
def tCB (r:List V→Hp→VK→Prop) (t:TA):TE:=fun σ H Q=>t σ H fun vs H1=>r vs H1 Q
theorem YdN (hc:Xh X (.builtin id) r) (hg:Gl X x) (hm:X.mg x=none) (hv:bootBuiltins x=some (.builtin id)) (ha:PA X (e::es) t) (hn:x≠"__name__":=by decide) (hdb:(x==("__debug__":Str))=false:=by decide)
  (he:starEach (e::es) X.env=(false,eval e X.env)::starEach es X.env:=by rfl) (hpl:(backTo pos (starEach es X.env)).any (·.1)=false:=by rfl):PE X (.Call (.Name x p) (e::es) [] pos) (tCB r t):=by
 intro pins s σ H Q I h
 refine wpAny_Call_Name_kw (Va I hg hm hv ?_ hn hdb)
 exact PyProof.Rows.callWith_builtin1 (thn (ha pos pins s σ H _ I h) fun us s1 ⟨vs,H1,I1,r1,q1⟩=>hc pins s1 σ H1 vs us Q I1 r1 q1) he hpl
theorem YcP (hc:Xh X (.type T) r) (hg:Gl X x) (hm:X.mg x=none) (hv:bootBuiltins x=some (.type T)) (ha:PA X (e::es) t) (hn:x≠"__name__":=by decide) (hdb:(x==("__debug__":Str))=false:=by decide)
  (he:starEach (e::es) X.env=(false,eval e X.env)::starEach es X.env:=by rfl) (hpl:(backTo pos (starEach es X.env)).any (·.1)=false:=by rfl):PE X (.Call (.Name x p) (e::es) [] pos) (tCB r t):=by
 intro pins s σ H Q I h
 refine wpAny_Call_Name_kw (Va I hg hm hv ?_ hn hdb)
 exact PyProof.Rows.callWith_type1 (thn (ha pos pins s σ H _ I h) fun us s1 ⟨vs,H1,I1,r1,q1⟩=>hc pins s1 σ H1 vs us Q I1 r1 q1) he hpl
end
end L2
namespace HT
open PySem PyProof.Rows
section
open PySem.SeqAt
open PySem.AutoSeq1 (wpAny_loadPart')
open PySem.MeetsSeq PySem.MeetsSeq2 PySem.MeetsSeq3
end
section
variable {prog:Program} {w:World} {A:Around} {E:Value→Shared→Prop} {s:Shared}
def sIx (n d:Nat):Option Int→Nat
 | none=>d
 | some v=>if v<0 then (v+(n:Int)).toNat else min v.toNat n
theorem sIx_none (n d:Nat):sIx n d none=d:=rfl
theorem sIx_nat (n d k:Nat):sIx n d (some (k:Int))=min k n:=by
 show (if (k:Int)<0 then ((k:Int)+(n:Int)).toNat else min (k:Int).toNat n)=min k n
 rw [if_neg (by omega),Int.toNat_natCast]
theorem sIx_le (n d:Nat) (hd:d≤n) (o:Option Int):sIx n d o≤n:=by
 cases o with
 | none=>exact hd
 | some v =>
  show (if v<0 then (v+(n:Int)).toNat else min v.toNat n)≤n
  by_cases hv:v<0
  ·rw [if_pos hv];omega
  ·rw [if_neg hv];exact Nat.min_le_right _ _
end
end HT
namespace L2
open PySem PySem.Spec PyProof.Rows
abbrev TO:=St→Hp→(Option Int→Hp→Prop)→Prop
def PO (X:Cx) (e:Option Expr) (t:TO):Prop :=
 ∀ (pins:List (Addr×Obj)) (s:Shared) (σ:St) (H:Hp) (Q:Option Int→Hp→Prop),Inv X pins σ H s→t σ H Q →
  wpAny (model X.prog X.w) X.A (evalPart e X.env) (fun u s'=>∃ o H',Inv X pins σ H' s'∧IsPart u o∧Q o H') X.xe s
def Ybo:TO:=fun _ H Q=>Q none H
def Yes (t:TE):TO:=fun σ H Q=>t σ H fun x H1=>∃ i,x = .int i∧Q (some i) H1
section
variable {X:Cx} {e:Expr} {te:TE} {lo hi:Option Expr} {tl th:TO} {pos p2:Pos}
theorem Vf:PO X none Ybo:=by
 intro pins s σ H Q I h
 rw [evalPart_none]
 exact wpAny_pure ⟨none,H,I,.none,h⟩
theorem XW (h:PE X e te):PO X (some e) (Yes te):=by
 intro pins s σ H Q I hw
 rw [evalPart_some]
 refine thn (h pins s σ H _ I hw) fun u s1 ⟨x,H1,I1,r1,q1⟩=>?_
 obtain ⟨i,rfl,q⟩:=q1
 obtain ⟨t,rfl⟩:=r1
 exact ⟨some i,H1,I1,.int i t,q⟩
def SlR (X:Cx) (r:V→Option Int→Option Int→Hp→VK→Prop):Prop :=
 ∀ (pins:List (Addr×Obj)) (s:Shared) (σ:St) (H:Hp) (x:V) (v vl vu:Value) (lo hi:Option Int) (sl:Addr) (Q:VK),Inv X pins σ H s→YA x v→s.heap.IsSliceOf sl vl vu .none→IsPart vl lo→IsPart vu hi→r x lo hi H Q →
  ∃ T id,typeLookup (.type T) "__getitem__"=pure (some (.builtin id))∧s.TypeIs v T∧wpAny (model X.prog X.w) X.A (getItem v (.ref sl)) (EP X pins σ Q) X.xe s
def tSl (r:V→Option Int→Option Int→Hp→VK→Prop) (te:TE) (tl th:TO):TE:=fun σ H Q=>te σ H fun x H1=>tl σ H1 fun l H2=>th σ H2 fun u H3=>r x l u H3 Q
theorem X9 {r:V→Option Int→Option Int→Hp→VK→Prop} (hr:SlR X r) (he:PE X e te) (hl:PO X lo tl) (hu:PO X hi th):PE X (.Subscript e (.Slice lo hi none p2) pos) (tSl r te tl th):=by
 intro pins s σ H Q I h
 refine Subscript_ (thn (he pins s σ H _ I h) fun v s1 ⟨x,H1,I1,r1,q1⟩=>?_)
 refine wpAny_Slice (thn (hl pins s1 σ H1 _ I1 q1) fun vl s2 ⟨l,H2,I2,pl,q2⟩=>thn (hu pins s2 σ H2 _ I2 q2) fun vu s3 ⟨u,H3,I3,pu,q3⟩=>?_)
 rw [evalPart_none]
 refine wpAny_pure ?_
 have I4:Inv X pins σ H3 { s3 with heap:=s3.heap.push { cls := .type "slice",data := .fields #[vl,vu,.none] } }:=I3.kept (t':=s3.toks) fun b ob q=>Heap.get?_push_of_some _ q
 obtain ⟨T,id,hT,ht,hg⟩:=hr pins { s3 with heap:=s3.heap.push { cls := .type "slice",data := .fields #[vl,vu,.none] } } σ H3 x v vl vu l u s3.heap.objs.size Q I4 r1 (Heap.IsSliceOf.new ..) pl pu q3
 show wpAny (model X.prog X.w) X.A (subscriptTail e (.Slice lo hi none p2) v (.ref s3.heap.objs.size)) (EP X pins σ Q) X.xe { s3 with heap:=s3.heap.push { cls := .type "slice",data := .fields #[vl,vu,.none] } }
 exact tail_any (ops:=[.ref s3.heap.objs.size,v]) ht hT hg (by with_unfolding_all rfl)
def cutV (xs:List V) (lo hi:Option Int):List V:=(xs.drop (HT.sIx xs.length 0 lo)).take (HT.sIx xs.length xs.length hi - HT.sIx xs.length 0 lo)
end
end L2
namespace L2
open PySem PySem.Spec PyProof.Rows
def ixN (n:Nat) (i:Int):Option Nat:=if 0≤i then (if i<n then some i.toNat else none) else if -(n:Int)≤i then some (i+n).toNat else none
def atI {α:Type} (xs:List α) (i:Int):Option α:=(ixN xs.length i).bind fun j=>xs[j]?
theorem Ybp {n:Nat} {i:Int} {j:Nat} (h:ixN n i=some j):seqIndex? i n=some j∧j<n ∧ -(n:Int)≤i∧i<n:=by
 unfold ixN at h
 by_cases h0:0≤i
 ·rw [if_pos h0] at h
  by_cases h1:i<n
  ·rw [if_pos h1] at h
   have e:i.toNat=j:=Option.some.inj h
   exact ⟨by rw [seqIndex_of h0 h1,e],by omega,by omega,h1⟩
  ·rw [if_neg h1] at h;cases h
 ·rw [if_neg h0] at h
  by_cases h1 : -(n:Int)≤i
  ·rw [if_pos h1] at h
   have e:(i+n).toNat=j:=Option.some.inj h
   exact ⟨by rw [seqIndex_neg (by omega) h1,e],by omega,h1,by omega⟩
  ·rw [if_neg h1] at h;cases h
theorem Qa {α:Type} {xs:List α} {i:Int} {v:α} (h:atI xs i=some v):∃ j,seqIndex? i xs.length=some j∧xs[j]?=some v∧j<xs.length ∧ -(xs.length:Int)≤i∧i<xs.length:=by
 unfold atI at h
 cases e:ixN xs.length i with
 | none=>rw [e] at h;cases h
 | some j =>
  rw [e] at h
  obtain ⟨h1,h2,h3,h4⟩:=Ybp e
  exact ⟨j,h1,h,h2,h3,h4⟩
theorem YC {α:Type} {xs:List α} {j:Nat} {v:α} (h:xs[j]?=some v):atI xs (j:Int)=some v:=by
 have hj:j<xs.length:=(List.getElem?_eq_some_iff.mp h).1
 have e:ixN xs.length (j:Int)=some j:=by
  unfold ixN
  rw [if_pos (by omega),if_pos (by omega)];simp
 unfold atI;rw [e];exact h
def Ye0 (b:Expr):Prop:=∀ o i,subscripted b false o i=operate [o,i] (getItem o i)
def IxR (X:Cx) (r:R2):Prop :=
 ∀ (value slice:Expr) (pins:List (Addr×Obj)) (s:Shared) (σ:St) (H:Hp) (x y:V) (v u:Value) (Q:VK),Inv X pins σ H s→YA x v→YA y u→r x y H Q →
  subscripted slice false v u=operate [v,u] (getItem v u)→wpAny (model X.prog X.w) X.A (subscriptTail value slice v u) (EP X pins σ Q) X.xe s
def MtR (X:Cx) (id:String) (r:V→List V→Hp→VK→Prop):Prop :=
 ∀ (pins:List (Addr×Obj)) (s:Shared) (σ:St) (H:Hp) (x:V) (xs:List V) (v:Value) (us:List Value) (Q:VK),Inv X pins σ H s→YA x v→Yr xs us→r x xs H Q →
  wpAny (model X.prog X.w) X.A (call (.builtin id) (v::us)) (EP X pins σ Q) X.xe s
section
variable {X:Cx} {a b:Expr} {ta tb:TE} {pos:Pos}
theorem Ym {r:R2} (hr:IxR X r) (ha:PE X a ta) (hb:PE X b tb) (hs:Ye0 b):PE X (.Subscript a b pos) (tOp r ta tb):=by
 intro pins s σ H Q I h
 exact Subscript_ (binT ha hb I h fun v u s2 x y H2 I2 rx ry q=>hr a b pins s2 σ H2 x y v u Q I2 rx ry q (hs _ _))
def rIxL (K:PySem.W.Frag):R2:=fun x y H Q=>∃ p xs i v,x = .ref p∧y = .int i∧SqL K H p xs∧atI xs i=some v∧Q v H
def rIxT (K:PySem.W.Frag):R2:=fun x y H Q=>∃ p xs i v,x = .ref p∧y = .int i∧SqT K H p xs∧atI xs i=some v∧Q v H
def rIxS:R2:=fun x y H Q=>∃ z i c,x = .str z∧y = .int i∧z.length≤sizeLine∧atI z.cps.toList i=some c∧Q (.str ⟨#[c]⟩) H
theorem XD:IxR X (rIxL X.K):=by
 intro value slice pins s σ H x y v u Q I rx ry h hs
 obtain ⟨p,xs,i,z,rfl,rfl,hq,he,q⟩:=h
 cases rx
 obtain ⟨t,rfl⟩:=ry
 obtain ⟨its,r,pl,hz⟩:=I.list hq
 obtain ⟨j,h1,h2,h3,h4,h5⟩:=Qa he
 obtain ⟨w,ew,rw'⟩:=r.get h2
 have hl:=r.length
 have hn:=Vd
 have fin:EP X pins σ Q w s:=⟨z,H,I,rw',q⟩
 by_cases h0:0≤i
 ·have hj:i.toNat=j:=by
   rw [seqIndex_of h0 h5] at h1
   exact Option.some.inj h1
  exact item_listR pl.isList h0 (by omega) (by rw [hj];simpa using ew) fin hs
 ·have hj:(i+(its.toArray.size:Int)).toNat=j:=by
   rw [seqIndex_neg (by omega) h4] at h1
   rw [List.size_toArray,← hl]
   exact Option.some.inj h1
  exact subscriptTail_builtinR (x:=w) pl.isList.typeIs slot_list_getitem.lookup
   (wpAny_getItem_list_neg (Q:=fun r s'=>r=w∧EP X pins σ Q r s') pl.isList (by omega) (by rw [List.size_toArray]<;>omega) (by omega) (by rw [hj];simpa using ew) ⟨rfl,fin⟩) hs
theorem Yn:IxR X (rIxT X.K):=by
 intro value slice pins s σ H x y v u Q I rx ry h hs
 obtain ⟨p,xs,i,z,rfl,rfl,hq,he,q⟩:=h
 cases rx
 obtain ⟨t,rfl⟩:=ry
 obtain ⟨its,r,pl,hz⟩:=I.tuple hq
 obtain ⟨j,h1,h2,h3,h4,h5⟩:=Qa he
 obtain ⟨w,ew,rw'⟩:=r.get h2
 have hl:=r.length
 have hn:=Vd
 have fin:EP X pins σ Q w s:=⟨z,H,I,rw',q⟩
 exact subscriptTail_builtinR (x:=w) pl.typeIs slot_tuple_getitem.lookup
  (getItem_tuple (j:=j) (Q:=fun r s'=>r=w∧EP X pins σ Q r s') pl (by omega) (by omega) (by rw [List.size_toArray,← hl];exact h1) (by simpa using ew) ⟨rfl,fin⟩) hs
theorem UN:IxR X rIxS:=by
 intro value slice pins s σ H x y v u Q I rx ry h hs
 obtain ⟨z,i,c,rfl,rfl,hz,he,q⟩:=h
 obtain ⟨t,rfl⟩:=rx
 obtain ⟨t',rfl⟩:=ry
 obtain ⟨j,h1,h2,h3,h4,h5⟩:=Qa he
 have hl:z.cps.toList.length=z.length:=by simp [Str.length]
 rw [hl] at h1 h4 h5
 have hn:=Vd
 exact tail_any (typeIs_str s z t) slot_str_getitem.lookup (getItem_str (c:=c) (by
  have e1:decide (i < -(2^63:Int))=false:=decide_eq_false (by omega)
  have e2:decide (i≥2^63)=false:=decide_eq_false (by omega)
  rw [e1,e2,Bool.or_false]) (by rw [h1];simpa using h2) ⟨.str ⟨#[c]⟩,H,I.tok _,⟨_,rfl⟩,q⟩) hs
theorem Yca (its:List Value) (n j:Nat) (u:Value):Obj.mapSeq (·.setIfInBounds j u) { cls := .type "list",data := .seq its.toArray n }={ cls := .type "list",data := .seq (its.set j u).toArray n }:=by
 simp [Obj.mapSeq]
theorem Inv.lst {pins:List (Addr×Obj)} {σ:St} {H:Hp} {s:Shared} {p:Addr} {xs:List V} (I:Inv X pins σ H s) (h:H p=some (.lst xs)) :
  ∃ (its:List Value) (n:Nat),Yr xs its∧s.heap.get? p=some { cls := .type "list",data := .seq its.toArray n }∧xs.length≤sizeLine:=by
 obtain ⟨z,its,n,r,e⟩:=I.hok p _ h
 exact ⟨its,n,r,e,z⟩
theorem Inv.lstUpd {pins:List (Addr×Obj)} {σ:St} {H:Hp} {s:Shared} {p:Addr} {xs ys:List V} {its its':List Value} {n n':Nat} {f:Obj→Obj} (I:Inv X pins σ H s) (h:H p=some (.lst xs))
  (ho:s.heap.get? p=some { cls := .type "list",data := .seq its.toArray n }) (hf:f { cls := .type "list",data := .seq its.toArray n }={ cls := .type "list",data := .seq its'.toArray n' }) (r:Yr ys its') (hz:ys.length≤sizeLine) (t:Nat) :
  Inv X pins σ (upd H p (.lst ys)) { s with heap:=s.heap.update p f,toks:=t }:=by
 have e:(s.heap.update p f).get? p=some { cls := .type "list",data := .seq its'.toArray n' }:=by
  rw [Heap.get?_update_self f ho (by rw [hf]<;>rfl),hf]
 refine I.write (x:=p) (e:=p) (by rw [h];trivial) (.inl rfl) (fun b u hb q=>(Heap.get?_update_other _ _ (Ne.symm hb)).trans q) ⟨_,e⟩ ?_
 exact ⟨hz,its',n',r,e⟩
def Yet:V→V→V→Hp→(Hp→Prop)→Prop:=fun o i v H Q=>∃ p xs k j,o = .ref p∧i = .int k∧H p=some (.lst xs)∧ixN xs.length k=some j∧Q (upd H p (.lst (xs.set j v)))
theorem YdO:PSet X Yet:=by
 intro pins s σ H o i v ov iv u Q I ro ri rv h
 obtain ⟨p,xs,k,j,rfl,rfl,hp,hj,q⟩:=h
 cases ro
 obtain ⟨t,rfl⟩:=ri
 obtain ⟨its,n,r,ho,hz⟩:=I.lst hp
 obtain ⟨h1,h2,h3,h4⟩:=Ybp hj
 have hl:=r.length
 have hn:=Vd
 have I':Inv X pins σ (upd H p (.lst (xs.set j v))) { s with heap:=s.heap.update p (Obj.mapSeq (·.setIfInBounds j u)) } :=
  I.lstUpd hp ho (Yca its n j u) (r.set rv j) (by rw [List.length_set];exact hz) s.toks
 by_cases h0:0≤k
 ·have hk:k.toNat=j:=by
   rw [seqIndex_of h0 h4] at h1
   exact Option.some.inj h1
  exact PySem.W.ki_setAt ho h0 (by omega) (by rw [List.size_toArray,← hl];exact h4) (by rw [hk];exact ⟨_,I',q⟩)
 ·have hk:(k+(its.toArray.size:Int)).toNat=j:=by
   rw [seqIndex_neg (by omega) h3] at h1
   rw [List.size_toArray,← hl]
   exact Option.some.inj h1
  exact PySem.W.ki_setBack ho (by omega) (by rw [List.size_toArray,← hl];exact h3) (by omega) (by rw [hk];exact ⟨_,I',q⟩)
def rSlL (K:PySem.W.Frag):V→Option Int→Option Int→Hp→VK→Prop:=fun x lo hi H Q=>∃ a xs,x = .ref a∧SqL K H a xs∧∀ p,H p=none→Q (.ref p) (upd H p (.lst (cutV xs lo hi)))
def Wz:V→Bool
 | .non=>true
 | .bl _=>true
 | .int _=>true
 | .str _=>true
 | _=>false
def eqV:V→V→Bool
 | .non,.non=>true
 | .bl a,.bl b=>a==b
 | .bl a,.int b=>(if a then 1 else 0)==b
 | .int a,.bl b=>a==(if b then 1 else 0)
 | .int a,.int b=>a==b
 | .str a,.str b=>a==b
 | _,_=>false
theorem YfR {A:Around} {s:Shared} {y x:V} {u v:Value} (ry:YA y u) (rx:YA x v) (fy:Wz y=true) (fx:Wz x=true):SeqAt.EqAt A s u v (eqV y x):=by
 cases y with
 | non =>
  cases ry
  cases x with
  | non=>cases rx;exact SeqAt.EqAt.same _
  | bl b=>cases rx;exact SeqAt.EqAt.none_bool b
  | int b=>obtain ⟨t,rfl⟩:=rx;exact SeqAt.EqAt.none_int b t
  | str b=>obtain ⟨t,rfl⟩:=rx;exact SeqAt.EqAt.none_str b t
  | _=>exact absurd (show false=true from fx) Bool.false_ne_true
 | bl a =>
  cases ry
  cases x with
  | non=>cases rx;exact SeqAt.EqAt.bool_none a
  | bl b=>cases rx;exact SeqAt.EqAt.bool_bool a b
  | int b=>obtain ⟨t,rfl⟩:=rx;exact SeqAt.EqAt.bool_int a b t
  | str b=>obtain ⟨t,rfl⟩:=rx;exact SeqAt.EqAt.bool_str a b t
  | _=>exact absurd (show false=true from fx) Bool.false_ne_true
 | int a =>
  obtain ⟨t',rfl⟩:=ry
  cases x with
  | non=>cases rx;exact SeqAt.EqAt.int_none a t'
  | bl b=>cases rx;exact SeqAt.EqAt.int_bool a t' b
  | int b=>obtain ⟨t,rfl⟩:=rx;exact SeqAt.EqAt.int_int a t' b t
  | str b=>obtain ⟨t,rfl⟩:=rx;exact SeqAt.EqAt.int_str a t' b t
  | _=>exact absurd (show false=true from fx) Bool.false_ne_true
 | str a =>
  obtain ⟨t',rfl⟩:=ry
  cases x with
  | non=>cases rx;exact SeqAt.EqAt.str_none a t'
  | bl b=>cases rx;exact SeqAt.EqAt.str_bool a t' b
  | int b=>obtain ⟨t,rfl⟩:=rx;exact SeqAt.EqAt.str_int a t' b t
  | str b=>obtain ⟨t,rfl⟩:=rx;exact SeqAt.EqAt.str_str a t' b t
  | _=>exact absurd (show false=true from fx) Bool.false_ne_true
 | _=>exact absurd (show false=true from fy) Bool.false_ne_true
def eqU (x:V) (u:Value):Bool:=match u with
 | .none=>eqV .non x
 | .bool b=>eqV (.bl b) x
 | .int i _=>eqV (.int i) x
 | .str z _=>eqV (.str z) x
 | _=>false
theorem YcQ {x y:V} {u:Value} (r:YA y u) (f:Wz y=true):eqU x u=eqV y x:=by
 cases y with
 | non=>cases r;rfl
 | bl b=>cases r;rfl
 | int i=>obtain ⟨t,rfl⟩:=r;rfl
 | str z=>obtain ⟨t,rfl⟩:=r;rfl
 | _=>exact absurd (show false=true from f) Bool.false_ne_true
theorem Vg {x:V}:∀ {xs:List V} {us:List Value},Yr xs us→xs.all Wz=true→us.any (eqU x)=xs.any fun y=>eqV y x
 | _,_,.nil,_=>rfl
 | y::xs,u::us,.cons r t,f=>by
  rw [List.all_cons,Bool.and_eq_true] at f
  rw [List.any_cons,List.any_cons,YcQ r f.1,Vg t f.2]
theorem WP {A:Around} {s:Shared} {x:V} {v:Value} (rx:YA x v) (fx:Wz x=true):∀ {xs:List V} {us:List Value},Yr xs us→xs.all Wz=true→∀ u∈us,SeqAt.EqAt A s u v (eqU x u)
 | _,_,.nil,_=>fun u hu=>by cases hu
 | y::xs,u::us,.cons r t,f=>fun u' hu=>by
  rw [List.all_cons,Bool.and_eq_true] at f
  rcases List.mem_cons.mp hu with rfl | hu
  ·rw [YcQ r f.1];exact YfR r rx f.1 fx
  ·exact WP rx fx t f.2 u' hu
def inV (x:V) (xs:List V):Bool:=xs.any fun y=>eqV y x
def rIn (K:PySem.W.Frag) (neg:Bool):R2:=fun x y H Q=>∃ p xs,y = .ref p∧(SqL K H p xs∨SqT K H p xs)∧Wz x=true∧xs.all Wz=true∧Q (.bl (if neg then !inV x xs else inV x xs)) H
theorem VX:OpR X (compareOp .In) (rIn X.K false):=by
 intro pins s σ H x y v u Q I rx ry h
 obtain ⟨p,xs,rfl,hq,fx,fs,q⟩:=h
 cases ry
 rcases hq with hq | hq
 ·obtain ⟨its,r,pl,hz⟩:=I.list hq
  refine SeqAt.in_listAt (eqU x) pl.isList (fun w hw=>WP rx fx r fs w (by simpa using hw)) ⟨.bl _,H,I,rfl,?_⟩
  rw [show its.toArray.any (eqU x)=its.any (eqU x) by simp,Vg r fs]
  exact q
 ·obtain ⟨its,r,pl,hz⟩:=I.tuple hq
  refine SeqAt.in_tupleAt (eqU x) pl (fun w hw=>WP rx fx r fs w (by simpa using hw)) ⟨.bl _,H,I,rfl,?_⟩
  rw [show its.toArray.any (eqU x)=its.any (eqU x) by simp,Vg r fs]
  exact q
theorem WQ:OpR X (compareOp .NotIn) (rIn X.K true):=by
 intro pins s σ H x y v u Q I rx ry h
 obtain ⟨p,xs,rfl,hq,fx,fs,q⟩:=h
 cases ry
 rcases hq with hq | hq
 ·obtain ⟨its,r,pl,hz⟩:=I.list hq
  refine SeqAt.notIn_listAt (eqU x) pl.isList (fun w hw=>WP rx fx r fs w (by simpa using hw)) ⟨.bl _,H,I,rfl,?_⟩
  rw [show its.toArray.any (eqU x)=its.any (eqU x) by simp,Vg r fs]
  exact q
 ·obtain ⟨its,r,pl,hz⟩:=I.tuple hq
  refine SeqAt.notIn_tupleAt (eqU x) pl (fun w hw=>WP rx fx r fs w (by simpa using hw)) ⟨.bl _,H,I,rfl,?_⟩
  rw [show its.toArray.any (eqU x)=its.any (eqU x) by simp,Vg r fs]
  exact q
theorem YW:Xh X (.builtin "len") (fun xs H Q=>∃ p ys,xs=[.ref p]∧(SqL X.K H p ys∨SqT X.K H p ys)∧Q (.int ys.length) H):=by
 intro pins s σ H xs us Q I r h
 obtain ⟨p,ys,rfl,hq,q⟩:=h
 obtain ⟨u,rfl,rx⟩:=Xw r
 cases rx
 have hn:=Vd
 rcases hq with hq | hq
 ·obtain ⟨its,r',pl,hz⟩:=I.list hq
  have hlen:=r'.length
  exact Calls.call_len_list pl.isList (by simp only [List.size_toArray]<;>omega) ⟨.int ys.length,H,I.tok _,⟨s.toks+1,by rw [List.size_toArray,hlen]⟩,q⟩
 ·obtain ⟨its,r',pl,hz⟩:=I.tuple hq
  have hlen:=r'.length
  exact len_tuple pl (by simp only [List.size_toArray]<;>omega) ⟨.int ys.length,H,I.tok _,⟨s.toks+1,by rw [List.size_toArray,hlen]⟩,q⟩
theorem Xl:Xh X (.builtin "len") (fun xs H Q=>∃ z,xs=[.str z]∧z.length≤sizeLine∧Q (.int z.length) H):=by
 intro pins s σ H xs us Q I r h
 obtain ⟨z,rfl,hz,q⟩:=h
 obtain ⟨u,rfl,t,rfl⟩:=Xw r
 have hn:=Vd
 exact len_str (by omega) ⟨.int z.length,H,I.tok _,⟨_,rfl⟩,q⟩
theorem VY:Xh X (.type "list") (fun xs H Q=>∃ p ys,xs=[.ref p]∧(SqL X.K H p ys∨SqT X.K H p ys)∧∀ l,H l=none→Q (.ref l) (upd H l (.lst ys))):=by
 intro pins s σ H xs us Q I r h
 obtain ⟨p,ys,rfl,hq,q⟩:=h
 obtain ⟨u,rfl,rx⟩:=Xw r
 cases rx
 have fin:∀ (its:List Value),Yr ys its→ys.length≤sizeLine→∀ (h':Heap) (c':Nat),(∀ b o',s.heap.get? b=some o'→h'.get? b=some o') →
   h'.get? s.heap.objs.size=some { cls := .type "list",dict:=none,data := .seq its.toArray c',slots:=#[] }→EP X pins σ Q (.ref s.heap.objs.size) { s with heap:=h' }:=fun its r' hz h' c' kp e =>
  ⟨.ref s.heap.objs.size,_,I.laid (t':=s.toks) kp (Nat.le_refl _) (show YT X.prog X.w _ h' _ (.lst ys) from ⟨hz,its,c',r',e⟩),rfl,q _ (I.hok.fresh (Nat.le_refl _))⟩
 rcases hq with hq | hq
 ·obtain ⟨its,r',pl,hz⟩:=I.list hq
  have hlen:=r'.length
  obtain ⟨o,ho,hc,n,hd⟩:=pl.isList
  exact call_list_seq p (.inl rfl) ho hc hd (fun h' c' kp e=>fin its r' hz h' c' kp e) (by simp only [List.size_toArray]<;>omega)
 ·obtain ⟨its,r',pl,hz⟩:=I.tuple hq
  have hlen:=r'.length
  obtain ⟨o,ho,hc,n,hd⟩:=pl
  exact call_list_seq p (.inr rfl) ho hc hd (fun h' c' kp e=>fin its r' hz h' c' kp e) (by simp only [List.size_toArray]<;>omega)
theorem WF:Xh X (.type "tuple") (fun xs H Q=>∃ p ys,xs=[.ref p]∧((SqL X.K H p ys∧∀ l,H l=none→Q (.ref l) (upd H l (.tup ys)))∨(SqT X.K H p ys∧Q (.ref p) H))):=by
 intro pins s σ H xs us Q I r h
 obtain ⟨p,ys,rfl,h⟩:=h
 obtain ⟨u,rfl,rx⟩:=Xw r
 cases rx
 rcases h with ⟨hq,q⟩ | ⟨hq,q⟩
 ·obtain ⟨its,r',pl,hz⟩:=I.list hq
  have hlen:=r'.length
  refine call_tuple_list pl.isList (fun h' kp=>?_) (by simp only [List.size_toArray]<;>omega)
  have I1:Inv X pins σ H { s with heap:=h' }:=I.kept (t':=s.toks) kp
  have I2:Inv X pins σ (upd H h'.objs.size (.tup ys)) { s with heap:=h'.push { cls := .type "tuple",data := .seq its.toArray } } :=
   I1.laid (t':=s.toks) (fun b o e=>Heap.get?_push_of_some _ e) (Nat.le_refl _) (show YT X.prog X.w _ _ _ (.tup ys) from ⟨hz,its,r',IsTup.new _ _⟩)
  exact ⟨.ref h'.objs.size,_,I2,rfl,q _ (I1.hok.fresh (Nat.le_refl _))⟩
 ·obtain ⟨its,r',pl,hz⟩:=I.tuple hq
  exact call_tuple_same pl ⟨.ref p,H,I,rfl,q⟩
def tyV (K:PySem.W.Frag) (T:String) (x:V) (H:Hp):Prop:=match x with
 | .str _=>T="str"
 | .int _=>T="int"
 | .ref p=>(T="list"∧∃ xs,SqL K H p xs)∨(T="tuple"∧∃ o,K.lookup p=some o∧o.cls = .type "tuple"∧o.dict=none) ∨
   (T="dict"∧((∃ kvs,H p=some (.dK kvs))∨∃ kvs,H p=some (.dT kvs)))∨(T="set"∧∃ S n,H p=some (.set S n))
 | _=>False
theorem YfS {pins:List (Addr×Obj)} {σ:St} {H:Hp} {s:Shared} {T:String} {x:V} {v:Value} (I:Inv X pins σ H s) (r:YA x v) (ty:tyV X.K T x H) :
  s.TypeIs v T∧∀ a,v = .ref a→∃ ob,s.heap.get? a=some ob∧ob.dict=none:=by
 cases x with
 | str z =>
  obtain ⟨t,rfl⟩:=r
  cases (show T="str" from ty)
  exact ⟨typeIs_str s z t,fun _ e=>nomatch e⟩
 | int i =>
  obtain ⟨t,rfl⟩:=r
  cases (show T="int" from ty)
  exact ⟨typeIs_int s i t,fun _ e=>nomatch e⟩
 | ref p =>
  cases r
  rcases ty with ⟨rfl,xs,hq⟩ | ⟨rfl,o,hk,hc,hd⟩ | ⟨rfl,hk⟩ | ⟨rfl,S,n,hk⟩
  ·obtain ⟨its,_,pl,_⟩:=I.list hq
   refine ⟨pl.isList.typeIs,fun a e=>?_⟩
   cases e
   obtain ⟨o,n,e,c,hd,_⟩:=pl
   exact ⟨o,e,hd⟩
  ·refine ⟨⟨o,I.kIn p o hk,hc⟩,fun a e=>?_⟩
   cases e
   exact ⟨o,I.kIn _ o hk,hd⟩
  ·have z:∃ o,s.heap.get? p=some o∧o.ExactDict:=by
    rcases hk with ⟨kvs,hk⟩ | ⟨kvs,hk⟩
    ·obtain ⟨_,_,_,_,o,_,_,e,ex,_⟩:=I.hok p _ hk
     exact ⟨o,e,ex⟩
    ·obtain ⟨_,_,_,_,o,_,_,e,ex,_⟩:=I.hok p _ hk
     exact ⟨o,e,ex⟩
   obtain ⟨o,e,ex⟩:=z
   refine ⟨⟨o,e,ex.1⟩,fun a e2=>?_⟩
   cases e2
   exact ⟨o,e,ex.2.1⟩
  ·obtain ⟨o,_,_,_,e,ex,_⟩:=I.hok p _ hk
   refine ⟨⟨o,e,ex.1⟩,fun a e2=>?_⟩
   cases e2
   exact ⟨o,e,ex.2.1⟩
 | _=>exact False.elim ty
def tBM0 (K:PySem.W.Frag) (T:String) (r:V→List V→Hp→VK→Prop) (to:TE):TE:=fun σ H Q=>to σ H fun x H1=>tyV K T x H1∧r x [] H1 Q
def tBM (K:PySem.W.Frag) (T:String) (r:V→List V→Hp→VK→Prop) (to:TE) (t:TA):TE:=fun σ H Q=>to σ H fun x H1=>tyV K T x H1∧t σ H1 fun xs H2=>r x xs H2 Q
variable {o e:Expr} {es:List Expr} {to:TE} {t:TA} {name:Str} {apos cpos:Pos} {T id:String} {r:V→List V→Hp→VK→Prop}
theorem Xx (pa:PlainAttrs T) (slot:Slot T name id) (hty:typeOf (.builtin id)=pure (.type "method_descriptor")) (hm:MtR X id r) (ho:PE X o to) (ha:PA X (e::es) t)
  (hbase:attributeBase o name X.env (eval o X.env)=eval o X.env)
  (hfew:((backTo cpos (starEach (e::es) X.env)).all (fun x => !x.1)&&(backToKw cpos (keywordEach [] X.env)).all (fun x=>x.1.isSome)
   && decide ((e::es).length+([]:List Keyword).length+(if ([]:List Keyword).isEmpty then 0 else 1)<30))=true)
  (hline:(apos.endLine==cpos.line)=true) (hs:starEach (e::es) X.env=(false,eval e X.env)::starEach es X.env) (hplain:(backTo cpos (starEach es X.env)).any (·.1)=false) :
  PE X (.Call (.Attribute o name apos) (e::es) [] cpos) (tBM X.K T r to t):=by
 intro pins s σ H Q I h
 refine wpAny_Call_method_late hbase hfew hline rfl (thn (ho pins s σ H _ I h) fun v s1 ⟨x,H1,I1,r1,ty,q1⟩=>?_)
 obtain ⟨h1,h2⟩:=YfS I1 r1 ty
 refine ⟨T,id,pa,slot,hty,h1,h2,?_⟩
 have hA:=ha cpos pins s1 σ H1 _ I1 q1
 rw [hs] at hA ⊢
 refine Calls.callWith_builtin (by show (false||(backTo cpos (starEach es X.env)).any (·.1))=false;rw [hplain]<;>rfl) (Calls.evalArgs_plain ?_)
 exact thn hA fun us s2 ⟨vs,H2,I2,r2,q2⟩=>hm pins s2 σ H2 x vs v us Q I2 r1 r2 q2
/- xs.append(e),list.index on a module's tuple .. are MtR facts of 06m -/
end
end L2
namespace L2
open PySem PySem.Spec PyProof.Rows
def MtM (X:Cx) (id:String) (r:V→List V→Hp→VK→Prop):Prop :=
 ∀ (pins:List (Addr×Obj)) (s:Shared) (σ:St) (H:Hp) (x:V) (xs:List V) (v:Value) (us:List Value) (Q:VK),Inv X pins σ H s→YA x v→Yr xs us→r x xs H Q →
  wpAny (model X.prog X.w) X.A (call (.builtin id) (v::us)) (EP X pins σ Q) X.xe s
theorem Yr.one:∀ {x:V} {us:List Value},Yr [x] us→∃ u,us=[u]∧YA x u
 | _,_,.cons r .nil=>⟨_,rfl,r⟩
theorem Yr.two:∀ {x y:V} {us:List Value},Yr [x,y] us→∃ u v,us=[u,v]∧YA x u∧YA y v
 | _,_,_,.cons r (.cons q .nil)=>⟨_,_,rfl,r,q⟩
theorem Yr.zero:∀ {us:List Value},Yr [] us→us=[]
 | _,.nil=>rfl
theorem Yr.reverse {xs:List V} {us:List Value} (h:Yr xs us):Yr xs.reverse us.reverse:=by
 induction h with
 | nil=>exact .nil
 | cons r t ih=>rw [List.reverse_cons,List.reverse_cons];exact Yr.append ih (.cons r .nil)
section
variable {X:Cx} {pins:List (Addr×Obj)} {σ:St} {H:Hp} {s:Shared} {l b:Addr} {xs ys zs:List V}
theorem Inv.lset {its its':List Value} {n:Nat} {f:Array Value→Array Value} {t':Nat} (I:Inv X pins σ H s) (hH:H l=some (.lst xs))
  (e:s.heap.get? l=some { cls := .type "list",data := .seq its.toArray n }) (hf:f its.toArray=its'.toArray) (hv:Yr ys its') (hz:ys.length≤sizeLine) :
  Inv X pins σ (upd H l (.lst ys)) { s with heap:=s.heap.update l (Obj.mapSeq f),toks:=t' }:=by
 have q:=PySem.IsL.update e f
 rw [hf] at q
 refine I.write (x:=l) (e:=l) (by rw [hH];exact trivial) (.inl rfl) (fun b' u hb hu=>(Heap.get?_update_other s.heap (Obj.mapSeq f) (Ne.symm hb)).trans hu) ⟨_,q⟩ ?_
 exact ⟨hz,its',_,hv,q⟩
theorem Inv.lnew {its:List Value} {t':Nat} (I:Inv X pins σ H s) (hv:Yr ys its) (hz:ys.length≤sizeLine) :
  Inv X pins σ (upd H s.heap.objs.size (.lst ys)) { s with heap:=s.heap.push { cls := .type "list",data := .seq its.toArray },toks:=t' } :=
 I.laid (fun _ _ q=>Heap.get?_push_of_some _ q) (Nat.le_refl _) ⟨hz,its,0,hv,Heap.get?_push_size _ rfl⟩
theorem Inv.fresh (I:Inv X pins σ H s):H s.heap.objs.size=none:=I.hok.fresh (Nat.le_refl _)
theorem Inv.lstM (I:Inv X pins σ H s) (hH:H l=some (.lst xs)):xs.length≤sizeLine∧∃ (its:List Value) (n:Nat),Yr xs its∧xs.length=its.length∧s.heap.get? l=some { cls := .type "list",data := .seq its.toArray n }:=by
 obtain ⟨z,its,n,r,e⟩:=I.hok l _ hH
 exact ⟨z,its,n,r,r.length,e⟩
theorem YdP {n:Nat} (h:n≤sizeLine):Builtin.List.listTooLong n=false:=by
 unfold Builtin.List.listTooLong
 exact decide_eq_false (by omega)
end
section
variable {X:Cx}
def Ybq:V→List V→Hp→VK→Prop:=fun x vs H Q=>∃ l xs y,x = .ref l∧vs=[y]∧H l=some (.lst xs)∧xs.length<sizeLine∧Q .non (upd H l (.lst (xs++[y])))
theorem Xs:MtM X "list.append" Ybq:=by
 intro pins s σ H x vs v us Q I rx rv h
 obtain ⟨l,xs,y,rfl,rfl,hH,hz,q⟩:=h
 cases rx
 obtain ⟨u,rfl,ru⟩:=rv.one
 obtain ⟨z,its,n,r,hl,e⟩:=I.lstM hH
 refine call_meets F.slot_list_append ⟨_,e,rfl⟩ F.entry_list_append (F.args_list_append_2 _ _) (PySem.list_append l its.toArray n u (by rw [List.size_toArray];omega)) ⟨e,?_⟩
 refine ⟨.non,_,I.lset (its':=its++[u]) hH e (by simp) (r.append (.cons ru .nil)) ?_,rfl,q⟩
 rw [List.length_append,List.length_singleton]
 omega
def Ye1:V→List V→Hp→VK→Prop:=fun x vs H Q=>∃ l b xs zs,x = .ref l∧vs=[.ref b]∧H l=some (.lst xs)∧H b=some (.lst zs)∧xs.length+zs.length≤sizeLine∧Q .non (upd H l (.lst (xs++zs)))
theorem YcR:MtM X "list.extend" Ye1:=by
 intro pins s σ H x vs v us Q I rx rv h
 obtain ⟨l,b,xs,zs,rfl,rfl,hH,hB,hz,q⟩:=h
 cases rx
 obtain ⟨u,rfl,ru⟩:=rv.one
 cases ru
 obtain ⟨z,its,n,r,hl,e⟩:=I.lstM hH
 obtain ⟨z2,its2,n2,r2,hl2,e2⟩:=I.lstM hB
 have hsz:its.toArray.size+its2.toArray.size≤sizeLine:=by rw [List.size_toArray,List.size_toArray];omega
 have hlong:¬ (!its.toArray.isEmpty&&Builtin.List.listTooLong (its.toArray.size+its2.toArray.size))=true:=by
  rw [YdP hsz,Bool.and_false]
  exact Bool.false_ne_true
 refine call_meets F.slot_list_extend ⟨_,e,rfl⟩ F.entry_list_extend (F.args_list_extend_2 _ _)
  (AutoSeq1.list_extend_list_list_0 l its.toArray n b its2.toArray n2 hlong (by rw [List.size_toArray];omega) (by omega)) ⟨e,e2,?_⟩
 refine ⟨.non,_,I.lset (its':=its++its2) hH e (by simp) (r.append r2) ?_,rfl,q⟩
 rw [List.length_append]
 omega
def YdQ:V→List V→Hp→VK→Prop:=fun x vs H Q=>∃ l xs,x = .ref l∧vs=[]∧H l=some (.lst xs)∧Q .non (upd H l (.lst xs.reverse))
def rCat:R2:=fun x y H Q=>∃ l b xs zs,x = .ref l∧y = .ref b∧H l=some (.lst xs)∧H b=some (.lst zs)∧xs.length+zs.length≤sizeLine∧∀ p,H p=none→Q (.ref p) (upd H p (.lst (xs++zs)))
theorem YfT:OpR X (binaryOp .Add) rCat:=by
 intro pins s σ H x y v u Q I rx ry h
 obtain ⟨l,b,xs,zs,rfl,rfl,hH,hB,hz,q⟩:=h
 cases rx
 cases ry
 obtain ⟨z,its,n,r,hl,e⟩:=I.lstM hH
 obtain ⟨z2,its2,n2,r2,hl2,e2⟩:=I.lstM hB
 refine PySem.P.add_list e e2 ?_ (by rw [List.size_toArray,List.size_toArray];omega)
 have ea:its.toArray++its2.toArray=(its++its2).toArray:=by simp
 rw [ea]
 exact ⟨.ref _,_,I.lnew (t':=s.toks) (r.append r2) (by rw [List.length_append];omega),rfl,q _ I.fresh⟩
end
section
variable {prog:Program} {w:World} {A:Around} {E:Value→Shared→Prop} {s:Shared}
end
section
variable {X:Cx}
end
end L2
namespace Att
open PySem PySem.W PySem.Calls PyProof.Rows
theorem UO {P:Params} {h:Heap}:∀ (ns:List Int) (vs:List Value),WellAll P h vs (ns.map WData.int)→IntsAre vs ns:=by
 intro ns
 induction ns with
 | nil =>
  intro vs w
  rw [List.map_nil] at w
  cases w
  exact .nil
 | cons n ns ih =>
  intro vs w
  rw [List.map_cons] at w
  cases w with
  | cons a b =>
   cases a
   exact .cons _ _ (ih _ b)
theorem YcS {l:OpenLaw} {n:Nat} (hn:l.most=some n) {P:Params} {h:Heap} {args:List WData} {vals:List Value}
  (hpre:l.row.toRowW.claim.pre args=true) (hwl:WellAll P h vals args) :
  ∃ a vs ns,vals=[Value.ref a]∧args=[WData.list (ns.map WData.int)]∧h.get? a=some { cls := .type "list",data := .seq vs.toArray }∧IntsAre vs ns∧ns.length≤n:=by
 have hsh:WShape.hasAll [] args [.list .int]=true:=(pre_splitW hpre).1
 have hc:l.pre.holds [] { args:=args }=true:=(pre_splitW hpre).2
 obtain ⟨d,r,rfl,h1,h2⟩:=hasAllW_cons hsh
 obtain rfl:=hasAllW_nil h2
 obtain ⟨xs,rfl,h3⟩:=hasW_list h1
 obtain ⟨ns,rfl⟩:=items_int h3
 have hlen:ns.length≤n:=by
  unfold OpenLaw.pre at hc
  have h4:(WTm.not (.lt (.lit (.int (n:Int))) (.len (.arg 0)))).holds [] { args:=[.list (ns.map .int)] }=true:=by
   have h4:=(holds_andW hc).1
   rw [hn] at h4
   exact h4
  have h5:=condW_of h4 (w_not (w_lt w_lit (w_len_list (w_arg rfl))))
  rw [List.length_map] at h5
  refine Nat.le_of_not_lt fun q=>?_
  have q':(n:Int)<((ns.length:Nat):Int):=by omega
  first
   | (rw [decide_eq_true q'] at h5;exact absurd h5 (by decide))
   | (simp at h5;omega)
 cases hwl with
 | cons w1 w2 =>
  cases w2
  cases w1 with
  | list ho hall=>exact ⟨_,_,ns,rfl,rfl,ho,UO ns _ hall,hlen⟩
theorem YcT (l:OpenLaw) (args:List WData):l.row.toRowW.claim.post args (.bool true) args=true :=
 postW_of (r:=l.row.toRowW) (X:=(true==true))
  (show WShape.has [] (.bool true) .bool=true by first | rfl | decide | simp [WShape.has,WShape.arms,WShape.armsAll])
  (show (WTm.eq .res (.lit (.bool true))).value [] { args:=args,res:=some (.bool true),after:=args }=some (.bool (true==true)) from w_eq_bool (w_res rfl) w_lit) rfl
theorem attach_call {l:OpenLaw} {n:Nat} {q:Program} {loose:List Str} {XP:(Str→Option Value)→Heap→Prop} {YP:World→Heap→Prop} {d:DefRec}
  (hn:l.most=some n) (hdf:d.params.defaults=[])
  (call:∀ (w:World) (s₀ s₁:Shared) (mg mb:Str→Option Value) (fa:Addr) (o:Obj) (pm cd doc:Value) (a:Addr) (vs:List Value) (ns:List Int),
   Ground q loose [] XP w s₀ mg mb s₁.heap→YP w s₁.heap →
   s₁.heap.get? fa=some o→o.data = .func (docDef d.name d.params d.body d.scope pm cd doc)→s₁.heap.CodeRec cd d.name→mg d.name=some (.ref fa) →
   s₁.heap.get? a=some { cls := .type "list",data := .seq vs.toArray }→IntsAre vs ns→ns.length≤n→s₁.gens=#[] →
   codeAny (model l.prog w) callerA (.call (.ref fa) ⟨[.ref a],[]⟩) (fun r s'=>r = .ok (.ret (.bool true))∧OldK s₁.heap s'.heap∧s'.os=s₁.os∧AllBare s'.gens) s₁) :
  WalkO q loose XP YP l.row.toRowW d [] (fun f vs=>PySem.call f vs):=by
 intro w s₀ s₁ mg mb G Y fa o pm cd doc dV kV ho hd hcd hD hmg hg args vals as hpre hlay hrd hwl hlo
 obtain rfl:dV = .none:=Dflts.none hD hdf
 obtain rfl:kV = .none:=Dflts.noKw hD
 obtain ⟨a,vs,ns,rfl,rfl,hobj,hints,hlen⟩:=YcS hn hpre hwl
 refine enter_call (codeAny_mono (call w s₀ s₁ mg mb fa o pm cd doc a vs ns G Y ho (fd_plain hd) hcd hmg hobj hints hlen hg) fun r s' hq=>?_)
 obtain ⟨rfl,h2,h3,h4⟩:=hq
 exact ⟨.inl ⟨.bool true,.bool true,[],rfl,fun _=>rfl,.bool true,YcT l _,fun _=>⟨List.Pairwise.nil,fun _ hm=>(nomatch hm)⟩⟩,h2,h3,h4⟩
section
variable {prog:Program} {w:World} {A:Around} {E:Value→Shared→Prop} {s:Shared} {K:Frag}
def ledger (h:Heap) (L d:Addr):List (Addr×Obj):=(List.range h.objs.size).filterMap fun a=>if a=L∨a=d then none else (h.get? a).map fun o=>(a,o)
end
end Att
namespace L2
open PySem PySem.Spec PyProof.Rows
theorem Qw:∀ {vs:List Value} {ns:List Int},IntsAre vs ns→Yr (ns.map V.int) vs
 | _,_,.nil => .nil
 | _,_,.cons n t h => .cons ⟨t,rfl⟩ (Qw h)
def Only (H:Hp):Prop:=∀ b,H b=none∨∃ o xs,H b=some (.frz o (.lst xs))
theorem YdR {P:Program} {w:World} {K:PySem.W.Frag} {mg mb:Str→Option Value} {CX:CXT} {k:Nat} {fa a:Addr} {fd:FuncData} {x:Str} {sp:Sp} {s₁:Shared} {vs:List Value} {ns:List Int}
  (KX:K.In s₁.heap) (hns:s₁.heap.Ns mainGlobals mg) (hb:s₁.heap.Ns builtinsNs mb) (hbb:∀ x:Str,x≠"__name__"→mb x=bootBuiltins x) (hlim:s₁.heap.NoLimit) (hg:s₁.gens=#[])
  (ha:s₁.heap.get? a=some { cls := .type "list",data := .seq vs.toArray }) (hi:IntsAre vs ns) (hl:ns.length≤sizeLine) (hr:Room k callerA)
  (F:∀ base:Heap,K.In base→base.Ns mainGlobals mg→FnOk P w K mg base CX k fa fd [x] sp) (hbind:∀ (s:Shared) (u:Value),BindsTo s fd ⟨[u],[]⟩ [(x,u)])
  (hsp:∀ H:Hp,Only H→SqL K H a (ns.map V.int)→sp [.ref a] H (fun v _=>v = .bl true) fun _ _ _=>False)
  (hCX:∀ H e s',CX [] H s₁ (fun _ _ _=>False) e s'→False) :
  codeAny (model P w) callerA (.call (.ref fa) ⟨[.ref a],[]⟩) (fun r s'=>r = .ok (.ret (.bool true))∧OldK s₁.heap s'.heap∧s'.os=s₁.os∧AllBare s'.gens) s₁:=by
 have rv:=Qw hi
 have lenV:=hi.length
 -- from an abstract heap in which nothing but the script may be tracked
 have core:∀ H:Hp,Only H→SqL K H a (ns.map V.int)→HOk P w H s₁.heap→(∀ b,H b≠none→b=a)→(H a≠none→K.lookup a=none) →
   codeAny (model P w) callerA (.call (.ref fa) ⟨[.ref a],[]⟩) (fun r s'=>r = .ok (.ret (.bool true))∧OldK s₁.heap s'.heap∧s'.os=s₁.os∧AllBare s'.gens) s₁:=by
  intro H hO hS hok hA hK
  have base_of:∀ {b:Addr} {o:Obj},s₁.heap.get? b=some o→H b=none→(Vr s₁.heap H).get? b=some o:=fun e n=>YdG e n
  have noA:∀ {b:Addr} {o:Obj} {es:Array DictEntry} {ep:Nat},s₁.heap.get? b=some o→o.data = .dict es ep→H b=none:=fun {b o es ep} e d=>by
   cases q:H b with
   | none=>rfl
   | some u =>
    have e':b=a:=hA b (by rw [q];simp)
    subst e'
    rw [ha] at e;cases e
    have d':Data.seq vs.toArray _=Data.dict es ep:=d
    cases d'
  have nsK:∀ {b:Addr} {m:Str→Option Value},s₁.heap.Ns b m→(Vr s₁.heap H).Ns b m:=fun {b m} ⟨o,es,ep,e,d,r⟩=>⟨o,es,ep,base_of e (noA e d),d,r⟩
  have hKb:K.In (Vr s₁.heap H):=fun b o e=>base_of (KX b o e) (by
   cases q:H b with
   | none=>rfl
   | some u =>
    have e':b=a:=hA b (by rw [q];simp)
    subst e'
    rw [hK (by rw [q];simp)] at e;cases e)
  have hM:Mod K mg (Vr s₁.heap H):=⟨hKb,nsK hns,⟨mb,nsK hb,hbb⟩,let ⟨mc,h1,h2⟩:=hlim;⟨mc,nsK h1,h2⟩⟩
  have e0:Env0 P w K mg (Vr s₁.heap H) callerA [] s₁ H:=⟨rfl,hM,fun b o e=>YeQ e,Nat.le_of_eq (Ycz _ _),trivial,fun b hb=>absurd (show b∈([]:List Addr) from hb) (by simp),hok,.of_eq hg⟩
  refine codeAny_mono ((F _ hKb (nsK hns)).run callerA [] s₁ H ⟨[.ref a],[]⟩ [.ref a] [.ref a] _ _ hr e0 (hbind s₁ (.ref a)) (.cons rfl .nil) (hsp H hO hS)) fun r s' h=>?_
  cases r with
  | error e=>exact (hCX H e s' h).elim
  | ok fl =>
   cases fl with
   | next=>exact False.elim h
   | brk=>exact False.elim h
   | cont=>exact False.elim h
   | ret u =>
    obtain ⟨v,H',os,bare,un,hok',r',q⟩:=h
    have q':v = .bl true:=q
    subst q'
    obtain rfl:u=Value.bool true:=r'
    refine ⟨rfl,OldK.of_keep fun b o e=>?_,os,bare⟩
    cases q:H b with
    | none=>exact un.keep b o e q (by intro z;exact absurd (show b∈([]:List Addr) from z) (by simp)) (by simp)
    | some u =>
     rcases hO b with z | ⟨ob,xs,z⟩
     ·rw [q] at z;cases z
     ·have z2:=un.frzs b ob _ z
      obtain ⟨e1,_⟩:=hok b _ z
      obtain ⟨e2,_⟩:=hok' b _ z2
      rw [e] at e1;cases e1
      exact e2
 cases hk:K.lookup a with
 | some o =>
  -- the script is one of the module's own objects
  have e:=KX a o hk
  rw [ha] at e
  cases e
  refine core (fun _=>none) (fun _ => .inl rfl) (.inr ⟨_,vs.toArray,_,hk,rfl,rfl,rfl,by rw [List.size_toArray,lenV];exact hl,by simpa using rv⟩) (fun b u z=>by have z':(none:Option HO)=some u:=z;cases z') (fun b z=>absurd rfl z) fun z=>absurd rfl z
 | none =>
  refine core (fun b=>if b=a then some (.frz { cls := .type "list",data := .seq vs.toArray } (.lst (ns.map V.int))) else none) (fun b=>?_) (.inl (.inr ⟨{ cls := .type "list",data := .seq vs.toArray },if_pos rfl⟩)) (fun b u z=>?_) (fun b z=>?_) fun _=>hk
  ·by_cases hb:b=a
   ·exact .inr ⟨_,_,if_pos hb⟩
   ·exact .inl (if_neg hb)
  ·by_cases hb:b=a
   ·have z':=(if_pos hb).symm.trans z
    cases z'
    subst hb
    exact ⟨ha,by rw [List.length_map];exact hl,vs,_,rv,ha⟩
   ·have z':=(if_neg hb).symm.trans z
    cases z'
  ·by_cases hb:b=a
   ·exact hb
   ·exact absurd (if_neg hb) z
end L2
namespace L2
open PySem PySem.Spec PyProof.Rows
theorem Ye2 {l:PySem.W.OpenLaw} {n k:Nat} {q:Program} {loose:List Str} {XP:(Str→Option Value)→Heap→Prop} {YP:World→Heap→Prop} {d:DefRec} {K:Params→PySem.W.Frag} {CX:World→CXT} {sp:World→Sp} {x:Str}
  (hn:l.most=some n) (hn2:n≤sizeLine) (hdf:d.params.defaults=[]) (hr:Room k callerA)
  (hY:∀ (w:World) (h:Heap),YP w h→(K w.params).In h)
  (F:∀ (w:World) (mg:Str→Option Value) (fa:Addr) (h:Heap),(K w.params).In h→h.Ns mainGlobals mg→mg d.name=some (.ref fa) →
   ∃ fd:FuncData,(∀ (s:Shared) (u:Value),BindsTo s fd ⟨[u],[]⟩ [(x,u)]) ∧
    ∀ base:Heap,(K w.params).In base→base.Ns mainGlobals mg→FnOk l.prog w (K w.params) mg base (CX w) k fa fd [x] (sp w))
  (hsp:∀ (w:World) (H:Hp) (a:Addr) (ns:List Int),ns.length≤n→Only H→SqL (K w.params) H a (ns.map V.int)→sp w [.ref a] H (fun v _=>v = .bl true) fun _ _ _=>False)
  (hCX:∀ (w:World) (H:Hp) (s:Shared) (e:Value) (s':Shared),CX w [] H s (fun _ _ _=>False) e s'→False) :
  PySem.W.WalkO q loose XP YP l.row.toRowW d [] (fun f vs=>PySem.call f vs):=by
 refine Att.attach_call hn hdf fun w s₀ s₁ mg mb fa o pm cd doc a vs ns G Y ho hd hcd hmg hobj hints hlen hg=>?_
 have KX:=hY w _ Y
 obtain ⟨fd,hb,hF⟩:=F w mg fa _ KX G.T.g hmg
 exact YdR KX G.T.g G.T.b G.T.builtins G.T.nolimit hg hobj hints (Nat.le_trans hlen hn2) hr hF hb (fun H hO hS=>hsp w H a ns hlen hO hS) fun H e s'=>hCX w H s₁ e s'
end L2
namespace L2
open PySem PySem.Spec PyProof.Rows
def Ws (s:Stmt) (j:Nat):Stmt:=match s with
 | .ClassDef _ _ _ body _ _ _ _ _ _ _=>body.getD j (.Pass ⟨0,0,0,0⟩)
 | _ => .Pass ⟨0,0,0,0⟩
def Xp (s:Stmt):Arguments:=match s with
 | .FunctionDef _ a _ _ _ _ _ _ _ _=>a
 | _=>{ posonlyargs:=[],args:=[],vararg:=none,kwonlyargs:=[],kw_defaults:=[],kwarg:=none,defaults:=[] }
def Xd (s:Stmt):List Stmt:=match s with
 | .FunctionDef _ _ b _ _ _ _ _ _ _=>b
 | _=>[]
def Yh (s:Stmt):Scope:=match s with
 | .FunctionDef _ _ _ _ _ _ sc _ _ _=>sc
 | _=>{ kind := .function,names:=[],isGenerator:=false,isCoroutine:=false }
abbrev CX0:CXT:=fun _ _ _ _ _ _=>False
abbrev E0:XK:=fun _ _ _=>False
theorem QV {X:Cx}:XL CX0 X E0:=fun _ _ _ _ _ _ _ h=>h.elim
structure Fun (K:PySem.W.Frag) (x qual:Str) (st:Stmt) (f:Addr) (fd:FuncData):Prop where
 ex:∃ (oc:Value) (od:Option Addr) (kV doc pm:Value) (an:Option Addr) (cdv ct:Value) (osl:Array (Option Value)),
  fd=PySem.W.fnOf x qual (Xp st) (Xd st) (Yh st) .none kV doc pm an cdv ct∧K.lookup f=some ⟨oc,od,.func fd,osl⟩∧PySem.W.codeIn K cdv qual=true
 kp:PySem.W.keepIn K (.ref f)=true
section
variable {P:Program} {w:World} {K:PySem.W.Frag} {mg:Str→Option Value} {base:Heap}
theorem Fun.ok {x qual:Str} {st:Stmt} {f:Addr} {fd:FuncData} {N ps:List Str} {k:Nat} {sp:Sp} (F:Fun K x qual st f fd) (S:FnScope N ps (Yh st)) (len:∀ vs H Q E,sp vs H Q E→vs.length=ps.length)
  (hbody:∀ (cdv:Value) (A:Around) (outer:List Env) (s:Shared) (H:Hp) (vs:List V) (Q:VK) (E:XK),Room k (A.deeper (envOfC qual (Yh st) s.heap.objs.size f cdv))→sp vs H Q E →
   ∃ t,PSs (Vv CX0 P w K mg base N qual (Yh st) f cdv A outer s H E).nox (Xd st) t∧t { nx:=fun _ H'=>Q .non H',rt:=Q } (Wl N vs) H):FnOk P w K mg base CX0 (k+1) f fd ps sp:=by
 obtain ⟨oc,od,kV,doc,pm,an,cdv,ct,osl,rfl,lk,hcd⟩:=F.ex
 refine Yb9 lk hcd S len fun A outer s H vs Q E hr hsp=>?_
 obtain ⟨t,h,q⟩:=hbody cdv A outer s H vs Q E hr hsp
 exact ⟨t,h.nox,q⟩
theorem Fun.binds {x qual:Str} {st:Stmt} {f:Addr} {fd:FuncData} {ps:List Str} (F:Fun K x qual st f fd)
  (h:∀ (kV doc pm:Value) (an:Option Addr) (cdv ct:Value) (us:List Value),us.length=ps.length→bindArgs (PySem.W.fnOf x qual (Xp st) (Xd st) (Yh st) .none kV doc pm an cdv ct) ⟨us,[]⟩=pure (ps.zip us)):Xr K fd ps []:=by
 obtain ⟨oc,od,kV,doc,pm,an,cdv,ct,osl,rfl,lk,hcd⟩:=F.ex
 exact .all (h kV doc pm an cdv ct)
theorem UP {x qual:Str} {st:Stmt} {f:Addr} {oc:Value} {od an:Option Addr} {osl:Array (Option Value)} {kV doc pm cdv ct:Value} (l:K.lookup f=some ⟨oc,od,.func (PySem.W.fnOf x qual (Xp st) (Xd st) (Yh st) .none kV doc pm an cdv ct),osl⟩)
  (c:PySem.W.codeIn K cdv qual=true) (k:PySem.W.keepIn K (.ref f)=true):Fun K x qual st f (PySem.W.fnOf x qual (Xp st) (Xd st) (Yh st) .none kV doc pm an cdv ct):=⟨⟨oc,od,kV,doc,pm,an,cdv,ct,osl,rfl,l,c⟩,k⟩
end
section
variable {X:Cx}
theorem pv (i:Nat) {x:Str} {pos:Pos} (hN:X.N[i]?=some x:=by rfl) (hv:Vis X.env.scope x:=by first | exact .inl rfl | exact .inr (.inl rfl) | exact .inr (.inr rfl)) (hd:(x==("__debug__":Str))=false:=by decide)
  (hcd:(x==("__classdict__":Str))=false:=by decide):PE X (.Name x pos) (tVar i):=YfK hN hv hd hcd
end
theorem Vw {A B:Prop} (h:B):if false=true then A else B:=by
 rw [if_neg Bool.false_ne_true]
 exact h
theorem Wa {A B:Prop} (h:A):if true=true then A else B:=by
 rw [if_pos rfl]
 exact h
theorem YG {c A B:Prop} [Decidable c] (h1:c→A) (h2:¬ c→B):if c then A else B:=by
 by_cases h:c
 ·rw [if_pos h]
  exact h1 h
 ·rw [if_neg h]
  exact h2 h
theorem iteNS {c A B:Prop} [Decidable c] (hc:c) (h:B):if (!decide c)=true then A else B:=by
 rw [decide_eq_true hc]
 exact Vw h
def Same (H H':Hp):Prop:=∀ b o,H b=some o→H' b=some o
theorem Same.refl (H:Hp):Same H H:=fun _ _ h=>h
theorem Same.trans {H H1 H2:Hp} (a:Same H H1) (b:Same H1 H2):Same H H2:=fun c o h=>b c o (a c o h)
theorem Same.free {H H':Hp} (e:Same H H') {l:Addr} (h:H' l=Option.none):H l=Option.none:=by
 cases q:H l with
 | none=>rfl
 | some o =>
  rw [e l o q] at h
  cases h
theorem Same.seq {K:PySem.W.Frag} {H H':Hp} {a:Addr} {xs:List V} (e:Same H H') (h:SqL K H a xs):SqL K H' a xs:=by
 rcases h with (h | ⟨o,h⟩) | h
 ·exact .inl (.inl (e _ _ h))
 ·exact .inl (.inr ⟨o,e _ _ h⟩)
 ·exact .inr h
end L2
namespace L2
open PySem PySem.Spec PyProof.Rows
section
variable {κ:Type} [DecidableEq κ]
def Yeu (kvs:List (κ×V)) (k:κ):List (κ×V):=kvs.filter fun kv=>decide (kv.1≠k)
theorem KV.drop {kvs:List (κ×V)} {vs:List (κ×Value)} (r:KV kvs vs) (k:κ):KV (Yeu kvs k) (without vs k):=by
 unfold KV at r ⊢
 unfold Yeu without
 induction r with
 | nil=>exact .nil
 | @cons p q ps qs h t ih =>
  obtain ⟨h1,h2⟩:=h
  rw [List.filter_cons,List.filter_cons]
  by_cases e:p.1=k
  ·have a:¬ decide (p.1≠k)=true:=by simp [e]
   have b:¬ decide (q.1≠k)=true:=by simp [h1.symm.trans e]
   rw [if_neg a,if_neg b];exact ih
  ·have e':¬ q.1=k:=fun z=>e (h1.trans z)
   have a:decide (p.1≠k)=true:=by simp [e]
   have b:decide (q.1≠k)=true:=by simp [e']
   rw [if_pos a,if_pos b];exact .cons ⟨h1,h2⟩ ih
theorem KV.keys {kvs:List (κ×V)} {vs:List (κ×Value)} (r:KV kvs vs):kvs.map (·.1)=vs.map (·.1):=by
 unfold KV at r
 induction r with
 | nil=>rfl
 | cons h t ih=>rw [List.map_cons,List.map_cons,ih,h.1]
theorem KV.length {kvs:List (κ×V)} {vs:List (κ×Value)} (r:KV kvs vs):kvs.length=vs.length:=Paired.length r
end
theorem Yev {P:Program} {w:World} {k:Key} {u:Value} (r:YA (kV k) u):(XU P w).is k u=true:=by
 cases k with
 | inl i=>obtain ⟨t,e⟩:=(show ∃ t,u=Value.int i t from r);subst e;exact Ya7 P w i t
 | inr x=>obtain ⟨t,e⟩:=(show ∃ t,u=Value.str x t from r);subst e;exact Ya8 P w x t
abbrev KT (H:Hp):List (List Key×V)→List (List Key×Addr×Value)→Prop:=Paired fun p q=>p.1=q.1∧H q.2.1=some (.tup (p.1.map kV))∧YA p.2 q.2.2
theorem KT.keeps {H H':Hp} {kvs:List (List Key×V)} {xs:List (List Key×Addr×Value)} (r:KT H kvs xs) (ht:∀ b ys,H b=some (.tup ys)→H' b=some (.tup ys)):KT H' kvs xs :=
 Paired.mapP r fun _ _ z=>⟨z.1,ht _ _ z.2.1,z.2.2⟩
section
variable {P:Program} {w:World} {H:Hp} {h:Heap} {a:Addr}
end
section
variable {X:Cx} {pins:List (Addr×Obj)} {σ:St} {H:Hp} {s:Shared} {a:Addr} {y v:V} {u r:Value} {o:Option V} {A:Around} {E:Value→Shared→Prop}
end
section
variable {X:Cx} {pins:List (Addr×Obj)} {σ:St} {H:Hp} {s:Shared} {a:Addr} {kvs:List (Key×V)} {k:Key} {u:Value} {A:Around} {E:Value→Shared→Prop}
end
section
variable {X:Cx} {o i e value:Expr} {pos pos' tpos:Pos} {td ty tv:TE}
end
section
variable {X:Cx} {pos:Pos}
end
section
variable {X:Cx} {pins:List (Addr×Obj)} {σ:St} {H:Hp} {s:Shared} {a:Addr} {y d:V} {u r:Value} {o:Option V} {A:Around} {E:Value→Shared→Prop}
end
section
variable {X:Cx} {o e f:Expr} {apos cpos:Pos} {td ty tx:TE}
end
section
variable {X:Cx} {pins:List (Addr×Obj)} {σ:St} {H:Hp} {s:Shared} {a:Addr} {kvs:List (Key×V)} {A:Around} {E:Value→Shared→Prop}
end
section
variable {X:Cx} {pins:List (Addr×Obj)} {σ:St} {H:Hp} {s:Shared} {a:Addr} {y:V} {u:Value} {A:Around} {E:Value→Shared→Prop}
end
end L2
namespace L2
open PySem PySem.Spec PyProof.Rows
theorem WR (env:Env):∀ (names:List (Str×NameKind)) (cs:List (Str×Addr)),(∀ x,(x,NameKind.free)∈names→∃ c,env.cells.lookup x=some c) →
  ∃ cl,(forIn names cs fun (p:Str×NameKind) (cs:List (Str×Addr))=>(if (p.2==NameKind.free)=true then (do let c ← cellOf env p.1;pure (ForInStep.yield ((p.1,c)::cs))) else pure (ForInStep.yield cs):Sem (ForInStep (List (Str×Addr)))))=pure cl ∧
   (∀ x c,cl.lookup x=some c→env.cells.lookup x=some c∨cs.lookup x=some c)∧(∀ x,(x,NameKind.free)∈names→∃ c,cl.lookup x=some c)∧(∀ x c,cs.lookup x=some c→∃ d,cl.lookup x=some d)
 | [],cs,_=>⟨cs,by simp,fun _ _ h => .inr h,(fun _ h=>nomatch h),fun x c h=>⟨c,h⟩⟩
 | (n,k)::r,cs,h=>by
  by_cases hk:k=NameKind.free
  ·subst hk
   obtain ⟨c,hc⟩:=h n (List.mem_cons_self ..)
   obtain ⟨cl,e,a,b,d⟩:=WR env r ((n,c)::cs) (fun x hx=>h x (List.mem_cons_of_mem _ hx))
   have hcell:cellOf env n=pure c:=by unfold cellOf;rw [hc]
   refine ⟨cl,?_,fun x c' hx=>?_,fun x hx=>?_,fun x c' hx=>?_⟩
   ·rw [List.forIn_cons]
    simp only [beq_self_eq_true,if_true,hcell,pure_bind]
    exact e
   ·rcases a x c' hx with q | q
    ·exact .inl q
    ·rw [List.lookup_cons] at q
     by_cases hxn:(x==n)=true
     ·rw [hxn] at q
      have hx':x=n:=by simpa using hxn
      subst hx'
      have:c=c':=by simpa using q
      subst this
      exact .inl hc
     ·rw [Bool.eq_false_iff.mpr hxn] at q
      exact .inr q
   ·rcases List.mem_cons.mp hx with q | q
    ·have hx':x=n:=congrArg Prod.fst q
     subst hx'
     exact d x c (by rw [List.lookup_cons];simp)
    ·exact b x q
   ·have:∃ d',((n,c)::cs).lookup x=some d':=by
     rw [List.lookup_cons]
     by_cases hxn:(x==n)=true
     ·rw [hxn];exact ⟨c,rfl⟩
     ·rw [Bool.eq_false_iff.mpr hxn];exact ⟨c',hx⟩
    obtain ⟨d',hd'⟩:=this
    exact d x d' hd'
  ·obtain ⟨cl,e,a,b,d⟩:=WR env r cs (fun x hx=>h x (List.mem_cons_of_mem _ hx))
   have hkf:(k==NameKind.free)=false:=by simpa using hk
   refine ⟨cl,?_,a,fun x hx=>?_,d⟩
   ·rw [List.forIn_cons]
    simp only [hkf,Bool.false_eq_true,if_false,pure_bind]
    exact e
   ·rcases List.mem_cons.mp hx with q | q
    ·exact absurd (congrArg Prod.snd q).symm hk
    ·exact b x q
theorem WH (env:Env) (scope:Scope) (h:∀ x,(x,NameKind.free)∈scope.names→∃ c,env.cells.lookup x=some c) :
  ∃ cl,closureFor scope env=pure cl∧(∀ x c,cl.lookup x=some c→env.cells.lookup x=some c)∧(∀ x,(x,NameKind.free)∈scope.names→∃ c,cl.lookup x=some c):=by
 obtain ⟨cl,e,a,b,_⟩:=WR env scope.names [] h
 refine ⟨cl,?_,fun x c hx=>(a x c hx).elim id (fun z=>by simp at z),b⟩
 unfold closureFor
 simp only [bind_pure]
 exact e
def cxC (X:Cx) (scope:Scope) (N':List Str) (cl:List (Str×Addr)) (C:Addr) (s₀:Shared) (H₀:Hp) (fp:List Addr) (pn:List (Addr×Obj)):Cx :=
 { X with N:=N',s₀:=s₀,H₀:=H₀,env:=compEnvC scope cl C X.env,outer:=X.stack,ex:=fp,fn:=fun _=>false,pn:=pn,xe:=fun _ _=>False }
inductive Cap (X:Cx) (scope:Scope):List (Option Nat)→List Str→Prop
 | nil:Cap X scope [] []
 | own {x src N'}:Cap X scope src N'→Cap X scope (none::src) (x::N')
 | cap {x i src N'}:X.N[i]?=some x→scope.names.lookup x=some NameKind.free→(X.env.scope.names.lookup x=some NameKind.cell∨X.env.scope.names.lookup x=some NameKind.free)→Cap X scope src N'→Cap X scope (some i::src) (x::N')
def YD (src:List (Option Nat)) (σ:St):St:=src.map fun o=>match o with | none=>none | some i=>σ.getD i none
theorem Cap.length {X:Cx} {scope:Scope}:∀ {src:List (Option Nat)} {N':List Str},Cap X scope src N'→src.length=N'.length
 | _,_,.nil=>rfl
 | _,_,.own h=>congrArg (·+1) h.length
 | _,_,.cap _ _ _ h=>congrArg (·+1) h.length
theorem Cap.get {X:Cx} {scope:Scope} {σ:St}:∀ {src:List (Option Nat)} {N':List Str},Cap X scope src N'→∀ (j:Nat) (x:Str) (v:V),N'[j]?=some x→(YD src σ)[j]?=some (some v) →
  ∃ i:Nat,X.N[i]?=some x∧σ[i]?=some (some v)∧scope.names.lookup x=some NameKind.free∧(X.env.scope.names.lookup x=some NameKind.cell∨X.env.scope.names.lookup x=some NameKind.free)
 | _,_,.nil,j,x,v,h,_=>by simp at h
 | _,_,.own h,0,x,v,_,e=>by simp [YD] at e
 | _,_,.own h,j+1,x,v,e1,e2=>h.get j x v (by simpa using e1) (by simpa [YD] using e2)
 | _,_,.cap (x:=y) (i:=i) hN hf hk h,0,x,v,e1,e2=>by
  have ex:y=x:=by simpa using e1
  subst ex
  refine ⟨i,hN,?_,hf,hk⟩
  simp only [YD,List.map_cons,List.getElem?_cons_zero,Option.some.injEq] at e2
  rw [List.getD_eq_getElem?_getD] at e2
  cases q:σ[i]? with
  | none=>rw [q] at e2;simp at e2
  | some o=>rw [q] at e2;simp at e2;rw [e2]
 | _,_,.cap hN hf hk h,j+1,x,v,e1,e2=>h.get j x v (by simpa using e1) (by simpa [YD] using e2)
theorem Vh (env:Env) (x:Str):∀ {names:List (Str×NameKind)},
  (names.map fun (n,k)=>if (k==NameKind.free&&env.scope.kind == .function&&env.kindOf n==some .cell) then (n,NameKind.cell) else (n,k)).lookup x =
   (names.lookup x).map fun k=>if (k==NameKind.free&&env.scope.kind == .function&&env.kindOf x==some .cell) then NameKind.cell else k
 | []=>rfl
 | (n,k)::r=>by
  have ih:=@Vh env x r
  rw [List.map_cons]
  dsimp only
  by_cases hx:(x==n)=true
  ·have e:x=n:=by simpa using hx
   subst e
   by_cases hc:(k==NameKind.free&&env.scope.kind == .function&&env.kindOf x==some .cell)=true
   ·rw [if_pos hc,List.lookup_cons,List.lookup_cons,hx]
    simp only [Option.map_some]
    rw [if_pos hc]
   ·rw [if_neg hc,List.lookup_cons,List.lookup_cons,hx]
    simp only [Option.map_some]
    rw [if_neg hc]
  ·have hx':=Bool.eq_false_iff.mpr hx
   by_cases hc:(k==NameKind.free&&env.scope.kind == .function&&env.kindOf n==some .cell)=true
   ·rw [if_pos hc];simp only [List.lookup_cons,hx'];exact ih
   ·rw [if_neg hc];simp only [List.lookup_cons,hx'];exact ih
theorem W0 {names:List (Str×NameKind)} {x:Str} (h:names.lookup x=some NameKind.free):(x,NameKind.free)∈names:=PySem.mem_of_lookup h
section
variable {X:Cx}
theorem Vx {scope:Scope} {N':List Str} {src:List (Option Nat)} {cl:List (Str×Addr)} {pins:List (Addr×Obj)} {σ:St} {H:Hp} {s s':Shared} {h':Heap} {tk:Nat} {fp:List Addr} {m:Str→Option Value}
  (hk:scope.kind = .function) (hcell:∀ y∈scope.names,y.2 ≠ .cell) (hcap:Cap X scope src N')
  (a:∀ x c,cl.lookup x=some c→X.env.cells.lookup x=some c) (b:∀ x,(x,NameKind.free)∈scope.names→∃ c,cl.lookup x=some c)
  (I:Inv X pins σ H s) (hf:∀ b∈fp,XB X pins H b) (hfl:∀ b∈fp,b<s.heap.objs.size) (es':s'={ s with heap:=h',toks:=tk })
  (keep:∀ b o,s.heap.get? b=some o→h'.get? b=some o) (hn:h'.Ns s.heap.objs.size m) :
  Inv (cxC X scope N' cl s.heap.objs.size s H fp (X.pn++pins)) [] (YD src σ) H s':=by
 subst es'
 have kindOf:∀ x,(compEnvC scope cl s.heap.objs.size X.env).kindOf x=(scope.names.lookup x).map fun k=>if (k==NameKind.free&&X.env.scope.kind == .function&&X.env.kindOf x==some .cell) then NameKind.cell else k:=fun x=>Vh X.env x
 have freeOf:∀ x,((compEnvC scope cl s.heap.objs.size X.env).kindOf x=some .cell∨(compEnvC scope cl s.heap.objs.size X.env).kindOf x=some .free)→scope.names.lookup x=some .free:=fun x h=>by
  rw [kindOf] at h
  cases q:scope.names.lookup x with
  | none=>rw [q] at h;simp at h
  | some k =>
   rw [q] at h
   by_cases hkf:k=NameKind.free
   ·rw [hkf]
   ·have hkf':(k==NameKind.free)=false:=by simpa using hkf
    simp only [Option.map_some,hkf',Bool.false_and,Bool.false_eq_true,if_false] at h
    rcases h with h | h
    ·exact absurd (Option.some.inj h) (hcell _ (PySem.mem_of_lookup q))
    ·exact absurd (Option.some.inj h) hkf
 refine ⟨⟨I.ok.mod,hk,I.ok.glob,I.ok.blt,Nat.le_refl _,fun x y c h1 h2=>I.ok.inj x y c (a x c h1) (a y c h2),fun x hx=>b x (W0 (freeOf x hx)),(fun x c z _=>nomatch z),I.ok.hd,I.ok.frames,.inl rfl,fun b' hb=>?_,I.bs,Nat.le_trans I.ok.bsz I.sz,fun b' o e hb=>?_,fun b' hb z=>?_,I.stack,I.stkFree⟩,
  rfl,I.bare,Un.kept keep,⟨m,hn,fun j x v h1 h2 h3=>?_⟩,fun x c h=>?_,I.hok.fresh (Nat.le_refl _),fun x c h=>I.freeC x c (a x c h),fun p hp=>?_,I.hok.kept keep,?_⟩
 ·obtain ⟨f0,f1,f2,f3,f4,f5⟩:=hf b' hb
  exact ⟨Nat.ne_of_lt (hfl b' hb),fun x c h=>f4 x c (a x c h)⟩
 ·obtain ⟨f0,f1,f2,f3,f4,f5⟩:=hf b' hb
  rcases f3 with z | z
  ·exact I.ok.noex b' o e z
  ·exact absurd (Nat.lt_of_lt_of_le (Heap.lt_size e) (Nat.le_trans I.ok.bsz z)) (Nat.lt_irrefl _)
 ·obtain ⟨f0,f1,f2,f3,f4,f5⟩:=hf b' hb
  rcases List.mem_cons.mp (I.stkSub b' z) with e | e
  ·exact f1 e
  ·exact f2 e
 ·obtain ⟨i,e1,e2,e3,e4⟩:=hcap.get j x v h1 h2
  obtain ⟨m0,hn0,hl⟩:=I.loc
  obtain ⟨u,r,l⟩:=hl i x v e1 e2 (by rcases e4 with e4 | e4;exact .inr (.inl e4);exact .inr (.inr e4))
  refine ⟨u,r,?_⟩
  rcases l with ⟨l,_⟩ | ⟨k,c,e,z⟩
  ·have l':X.env.scope.names.lookup x=some NameKind.local:=l
   rcases e4 with e4 | e4<;>(rw [e4] at l';cases l')
  ·refine .inr ⟨?_,?_⟩
   ·show (compEnvC scope cl s.heap.objs.size X.env).kindOf x=some .cell∨(compEnvC scope cl s.heap.objs.size X.env).kindOf x=some .free
    rw [kindOf,e3]
    simp only [Option.map_some]
    split
    ·exact .inl rfl
    ·exact .inr rfl
   ·obtain ⟨c',hc'⟩:=b x (W0 e3)
    have:=a x c' hc'
    rw [e] at this
    cases this
    obtain ⟨o,ho,hd⟩:=z
    exact ⟨c,hc',o,keep _ _ ho,hd⟩
 ·obtain ⟨v,o,ho,hd⟩:=I.cell x c (a x c h)
  exact ⟨v,o,keep _ _ ho,hd⟩
 ·have hp':p∈X.pn++pins:=by simpa [cxC] using hp
  obtain ⟨e,n,ne,nf,d⟩:=I.pin p hp'
  refine ⟨keep _ _ e,n,Nat.ne_of_lt (Heap.lt_size e),fun z=>?_,d⟩
  rcases List.mem_cons.mp (I.stkSub p.1 z) with q | q
  ·exact ne q
  ·exact nf q
 ·show (YD src σ).length=N'.length
  rw [← hcap.length]
  simp [YD]
end
end L2
namespace L2
open PySem PySem.Spec PyProof.Rows
section
variable {prog:Program} {w:World} {A:Around} {R:Result→Shared→Prop} {s:Shared}
theorem Qx {elt tg iter:Expr} {ifs:List Expr} {scope:Scope} {pos:Pos} {it acc:Value} {env:Env} (J:Nat→Shared→Prop)
  (turn:∀ n s,J n s→wpAny (model prog w) A (pyNext it) (fun r s₁=>match r with
    | none=>R (.ok .next) s₁
    | some v=>wpAny (model prog w) A (letOwnedTupleGo tg it v) (fun _ z₁=>wpAny (model prog w) A (assign tg env v) (fun _ s₂ =>
      wpAny (model prog w) A (forIn ifs true fun c r=>if r=true then do let ok ← isTrue c env (eval c env);pure (ForInStep.yield ok) else pure (ForInStep.yield r))
       (fun ok s₃=>if ok=true then wpAny (model prog w) A (eval elt env) (fun x s₄=>wpAny (model prog w) A (call (.builtin "list.append") [acc,x]) (fun _ s₅=>∃ m,m<n∧J m s₅) (fun _ _=>False) s₄) (fun _ _=>False) s₃
        else ∃ m,m<n∧J m s₃) (fun _ _=>False) s₂) (fun _ _=>False) z₁) (fun _ _=>False) s₁) (fun _ _=>False) s)
  (n:Nat) (h:J n s):codeAny (model prog w) A (.compLoop (.ListComp elt [⟨tg,iter,ifs,0⟩] scope pos) 0 it acc env) R s:=by
 refine codeAny_loop rfl J (fun n s hJ=>?_) n h
 show wpAny _ A (Sem.onRaise (compTurn (.ListComp elt [⟨tg,iter,ifs,0⟩] scope pos) 0 it acc env) (fun x=>do noteFrame x env;theTreesLotGoes x)) _ _ s
 refine wpAny_noted ?_
 rw [compTurn_list]
 have no:∀ {E:Value→Shared→Prop},∀ (e:Value) (s':Shared),False→E e s':=fun _ _ f=>f.elim
 refine wpAny_bind (wpAny_standAt (wpAny_bind (wpAny_mono (turn n s hJ) (fun r s₁ h₁=>?_) no)))
 cases r with
 | none=>exact wpAny_pure h₁
 | some v =>
  refine wpAny_bind (wpAny_mono h₁ (fun _ z₁ hz=>?_) no)
  refine wpAny_bind (wpAny_mono hz (fun _ s₂ h₂=>wpAny_bind (wpAny_mono h₂ (fun ok s₃ h₃=>?_) no)) no)
  cases ok with
  | false=>exact wpAny_pure ⟨rfl,h₃⟩
  | true =>
   exact wpAny_bind (wpAny_bind (wpAny_mono h₃ (fun x s₄ h₄=>wpAny_bind (wpAny_mono h₄ (fun _ s₅ h₅=>wpAny_pure (wpAny_pure ⟨rfl,h₅⟩)) no)) no))
end
def PTs (X:Cx) (ifs:List Expr) (t:TT):Prop :=
 ∀ (pins:List (Addr×Obj)) (s:Shared) (σ:St) (H:Hp) (Q:Bool→Hp→Prop),Inv X pins σ H s→t σ H Q →
  wpAny (model X.prog X.w) X.A (forIn ifs true fun c r=>if r=true then do let ok ← isTrue c X.env (eval c X.env);pure (ForInStep.yield ok) else pure (ForInStep.yield r)) (TP X pins σ Q) X.xe s
def XS:TT:=fun _ H Q=>Q true H
theorem Y0 {X:Cx}:PTs X [] XS:=fun _ _ _ H _ I h=>wpAny_tests_nil ⟨H,I,h⟩
theorem Qb {X:Cx} {c:Expr} {t:TT} (h:PT X c t):PTs X [c] t:=fun pins s σ H Q I q=>wpAny_tests_one (h pins s σ H Q I q)
def LC (src:List (Option Nat)) (J:It) (g:TG) (tt:TT) (te:TE) (σ:St) (H1:Hp) (Q:VK) (D:Addr):Prop:=∃ W:Nat→Nat→List V→St→Hp→Prop,(∃ m,W 0 m [] (YD src σ) (upd H1 D (.lst []))) ∧
 ∀ i m ys σ' H2,W i m ys σ' H2→H2 D=some (.lst ys)∧((J.stop i H2∧Q (.ref D) H2)∨(J.go i H2∧∃ N:List V→St→Hp→Prop,(∀ ys' σ3 H3,N ys' σ3 H3→∃ m',m'<m∧W (i+1) m' ys' σ3 H3)∧∀ x H3,J.yld i H2 x H3→g x σ' H3 fun σ2 H4=>tt σ2 H4 fun b H5 =>
  if b=true then te σ2 H5 fun y H6=>H6 D=some (.lst ys)∧ys.length<sizeLine∧N (ys++[y]) σ2 (upd H6 D (.lst (ys++[y])))
  else N ys σ2 H5))
def tLC (src:List (Option Nat)) (wi:TI) (g:TG) (tt:TT) (te:TE):TE:=fun σ H Q=>wi σ H fun J H1=>∀ D,H1 D=none→LC src J g tt te σ H1 Q D
section
variable {X:Cx}
theorem XG {elt tg iter:Expr} {ifs:List Expr} {scope:Scope} {pos:Pos} {src:List (Option Nat)} {N':List Str} {wi:TI} {g:TG} {tt:TT} {te:TE} (hcap:Cap X scope src N') (hc:X.calm=true) (hi:PI X tg iter wi)
  (hg:∀ cl C s₀ H₀ fp pn,PG (cxC X scope N' cl C s₀ H₀ fp pn) tg g) (ht:∀ cl C s₀ H₀ fp pn,PTs (cxC X scope N' cl C s₀ H₀ fp pn) ifs tt) (he:∀ cl C s₀ H₀ fp pn,PE (cxC X scope N' cl C s₀ H₀ fp pn) elt te)
  (hfree:∀ x,(x,NameKind.free)∈scope.names→X.env.scope.names.lookup x=some NameKind.cell∨X.env.scope.names.lookup x=some NameKind.free)
  (hk:scope.kind = .function:=by rfl) (hcell:∀ y∈scope.names,y.2 ≠ .cell:=by decide) (hnames:∀ y∈scope.names,y.2 = .local→scope.names.lookup y.1=some .local:=by decide +kernel)
  (hs:∀ x,foldedSetIterable iter X.env x=pure x:=by intro _;rfl):PE X (.ListComp elt [⟨tg,iter,ifs,0⟩] scope pos) (tLC src wi g tt te):=by
 intro pins s σ H Q I h
 have no:∀ {E:Value→Shared→Prop},∀ (e:Value) (s':Shared),False→E e s':=fun _ _ f=>f.elim
 obtain ⟨cl,hcl,a,b⟩:=WH X.env scope fun x hx=>I.ok.has x (hfree x hx)
 rw [eval_ListComp]
 refine wpAny_comprehension_free (use:=none) rfl hs hcl hk hnames (thn (hi pins s σ H _ I h) fun v s1 h1=>thn h1 fun itv s2 h2=>?_)
 obtain ⟨it,fp,tn,J,H2,e,I2,T,st2,f2,q⟩:=h2
 subst e
 have hD:H2 s2.heap.objs.size=none:=I2.hok.fresh (Nat.le_refl _)
 obtain ⟨W,⟨m0,w0⟩,turn⟩:=q s2.heap.objs.size hD
 have I3:=I2.lnew (t':=s2.toks) (ys:=[]) (its:=[]) .nil (Nat.zero_le _)
 have fl2:∀ b∈fp,b<s2.heap.objs.size:=fun b hb=>by
  obtain ⟨o,e,_⟩:=T.obj _ _ st2 b hb
  exact Heap.lt_size e
 refine wpAny_newObj_type ?_
 generalize es3:({ s2 with heap:=s2.heap.push { cls := .type "list",dict:=none,data := .seq ([]:List Value).toArray } }:Shared)=s3
 have I3':Inv X pins σ (upd H2 s2.heap.objs.size (.lst [])) s3:=es3▸I3
 have keep3:∀ b o,s2.heap.get? b=some o→s3.heap.get? b=some o:=fun b o e=>by rw [← es3];exact Heap.get?_push_of_some _ e
 have st3:tn 0 s3.heap:=T.keep _ _ _ st2 fun b _ o e=>keep3 b o e
 have fl3:∀ b∈fp,b<s3.heap.objs.size:=fun b hb=>by
  obtain ⟨o,e,_⟩:=T.obj _ _ st3 b hb
  exact Heap.lt_size e
 have f3:∀ b∈fp,XB X pins (upd H2 s2.heap.objs.size (.lst [])) b:=fun b hb=>⟨by rw [Yt (Nat.ne_of_lt (fl2 b hb))];exact (f2 b hb).1,(f2 b hb).2⟩
 generalize eD:s2.heap.objs.size=D at *
 generalize eH3:upd H2 D (.lst [])=H3 at *
 refine wpAny_newFunctionEnv hcell (by intro y hy;simp at hy) (fun h₁ hns₁ hsb₁=>?_) hk
 have keep4:∀ b o,s3.heap.get? b=some o→h₁.get? b=some o:=fun b o e=>hsb₁.extBut b o (Nat.ne_of_lt (Heap.lt_size e)) (Heap.get?_push_of_some _ e)
 have I4:=Vx (N':=N') (src:=src) (tk:=s3.toks+([]:List (Str×Value)).length) hk hcell hcap a b I3' f3 fl3 rfl keep4 hns₁
 -- the iterator's objects,through the block
 have stat:∀ {H':Hp},(∀ b∈fp,H' b=none)→∀ b∈fp,XB (cxC X scope N' cl s3.heap.objs.size s3 H3 fp (X.pn++pins)) [] H' b:=fun hn b' hb=>by
  obtain ⟨f0,f1,fs,fe,f4,f5⟩:=f3 b' hb
  refine ⟨hn b' hb,Nat.ne_of_lt (fl3 b' hb),fun z=>?_,.inl hb,fun x c h=>f4 x c (a x c h),fun p hp=>f5 p (by simpa [cxC] using hp)⟩
  rcases List.mem_cons.mp (I3'.stkSub b' z) with e | e
  ·exact f1 e
  ·exact fs e
 -- behind the block
 have fin:∀ {H':Hp} {s':Shared} {σ':St} {pins':List (Addr×Obj)},Inv (cxC X scope N' cl s3.heap.objs.size s3 H3 fp (X.pn++pins)) pins' σ' H' s'→∀ h',Heap.SameBut s3.heap.objs.size s'.heap h'→Inv X pins σ H' { s' with heap:=h' }:=fun {H' s' σ' pins'} J' h' sb=>by
  have same:∀ b o,b≠s3.heap.objs.size→s'.heap.get? b=some o→h'.get? b=some o:=fun b o hb e=>sb.extBut b o hb e
  have u:Un (frs X.stack) fp H3 H' s3.heap s'.heap:=J'.base
  refine I3'.call' (s':={ s' with heap:=h' }) (ch:=fp) J'.os ⟨fun b o e n hb hx=>?_,fun b o e n hb hx=>?_,u.free,fun b o e hx=>?_,u.tups,u.frzs,u.tbls⟩ (fun b o e=>?_) J'.bare fun b hb=>?_
  ·exact same b o (Nat.ne_of_lt (Heap.lt_size e)) (u.keep b o e n hb hx)
  ·obtain ⟨sl,z⟩:=u.slot b o e n hb hx
   exact ⟨sl,same b _ (Nat.ne_of_lt (Heap.lt_size e)) z⟩
  ·obtain ⟨o',z⟩:=u.there b o e hx
   exact ⟨o',same b o' (Nat.ne_of_lt (Heap.lt_size e)) z⟩
  ·have nC:∀ c v,H' c=some v→c≠s3.heap.objs.size:=fun c v z q=>by
    have:=J'.free
    rw [show (cxC X scope N' cl s3.heap.objs.size s3 H3 fp (X.pn++pins)).env.locals=s3.heap.objs.size from rfl,← q,z] at this
    cases this
   refine (J'.hok b o e).stay (fun c v hc q=>same c v ?_ q) (fun _ q=>q) fun _ _ q=>q
   rcases hc with z | z
   ·rw [z];exact nC b o e
   ·exact nC c _ z
  ·obtain ⟨f0,f1,fs,fe,f4,f5⟩:=f3 b hb
   exact ⟨fe,f1,f4,f5⟩
 have loop:codeAny (model X.prog X.w) X.A (.compLoop (.ListComp elt [⟨tg,iter,ifs,0⟩] scope pos) 0 (.ref it) (.ref D) (compEnvC scope cl s3.heap.objs.size X.env))
   (compPost (model X.prog X.w) X.A X.xe none (EP X pins σ Q) (.ref D) s3.heap.objs.size) { s3 with heap:=h₁,toks:=s3.toks+([]:List (Str×Value)).length }:=by
  refine Qx (fun n s'=>∃ i ys σ' H',Inv (cxC X scope N' cl s3.heap.objs.size s3 H3 fp (X.pn++pins)) [] σ' H' s'∧tn i s'.heap∧(∀ b∈fp,H' b=none)∧W i n ys σ' H') ?_ m0 ⟨0,[],YD src σ,H3,I4,T.keep _ _ _ st3 fun b _ o e=>keep4 b o e,fun b hb=>(f3 b hb).1,w0⟩
  rintro n s5 ⟨i,ys,σ5,H5,I5,st5,fr5,w5⟩
  obtain ⟨hDs,stop | go⟩:=turn i n ys σ5 H5 w5
  ·obtain ⟨stop,qn⟩:=stop
   refine thn (T.done (cxC X scope N' cl s3.heap.objs.size s3 H3 fp (X.pn++pins)) rfl rfl rfl hc i [] s5 σ5 H5 _ I5 (stat fr5) st5 stop) fun r s6 ⟨hr,I6⟩=>?_
   subst hr
   obtain ⟨m,hn,_⟩:=id I6.loc
   exact ⟨m,hn,fun h' sb=>⟨.ref D,H5,fin I6 h' sb,rfl,qn⟩⟩
  ·obtain ⟨go,N,hN,step⟩:=go
   refine thn (T.item (cxC X scope N' cl s3.heap.objs.size s3 H3 fp (X.pn++pins)) rfl rfl rfl hc i [] s5 σ5 H5 _ I5 (stat fr5) st5 go) fun r s6 ⟨u,hr,h6⟩=>?_
   subst hr
   refine thn h6 fun _ s7 ⟨x,H7,I7,r7,y7,st7,fr7⟩=>?_
   have I7':=I7.pinned (stat fr7) (T.obj _ _ st7)
   have again:∀ {s8:Shared} {σ8:St} {H8:Hp} {ys':List V},Inv (cxC X scope N' cl s3.heap.objs.size s3 H3 fp (X.pn++pins)) ([]++WB fp s7.heap) σ8 H8 s8→(∃ m',m'<n∧W (i+1) m' ys' σ8 H8) →
     ∃ m,m<n∧∃ i ys σ' H',Inv (cxC X scope N' cl s3.heap.objs.size s3 H3 fp (X.pn++pins)) [] σ' H' s8∧tn i s8.heap∧(∀ b∈fp,H' b=none)∧W i m ys σ' H':=fun {s8 σ8 H8 ys'} I8 ⟨m',hm,w8⟩=>by
    refine ⟨m',hm,i+1,ys',σ8,H8,I8.unpinned,T.keep _ _ _ st7 fun b hb o e=>(I8.pin (b,o) (List.mem_append_right _ (List.mem_append_right _ (Y6 hb e)))).1,fun b hb=>?_,w8⟩
    obtain ⟨o,e,d⟩:=T.obj _ _ st7 b hb
    exact (I8.pin (b,o) (List.mem_append_right _ (List.mem_append_right _ (Y6 hb e)))).2.1
   refine thn (hg cl _ s3 H3 fp _ _ s7 σ5 H7 x u _ I7' r7 (step x H7 y7)) fun _ s8 ⟨σ8,H8,I8,q8⟩=>?_
   refine thn (ht cl _ s3 H3 fp _ _ s8 σ8 H8 _ I8 q8) fun ok s9 ⟨H9,I9,q9⟩=>?_
   cases ok with
   | false=>exact again I9 (hN _ _ _ q9)
   | true =>
    rw [if_pos rfl]
    refine thn (he cl _ s3 H3 fp _ _ s9 σ8 H9 _ I9 q9) fun y s10 ⟨yv,H10,I10,r10,q10⟩=>?_
    obtain ⟨hDy,hlen,w10⟩:=q10
    refine thn (Xs (X:=cxC X scope N' cl s3.heap.objs.size s3 H3 fp (X.pn++pins)) _ s10 σ8 H10 (.ref D) [yv] (.ref D) [y] (fun _ H'=>H'=upd H10 D (.lst (ys++[yv]))) I10 rfl (.cons r10 .nil) ⟨D,ys,yv,rfl,rfl,hDy,hlen,rfl⟩) fun _ s11 ⟨_,H11,I11,_,e11⟩=>?_
    subst e11
    exact again I11 (hN _ _ _ w10)
 exact codeAny_compStart_list loop (T.self _ 0 _ _ _ (T.keep _ _ _ st3 fun b _ o e=>keep4 b o e) loop)
end
end L2
namespace L2
open PySem PySem.Spec PyProof.Rows
def Wt (x:Str) (lo hi:Option Int):Str:=⟨((x.cps.toList.drop (HT.sIx x.length 0 lo)).take (HT.sIx x.length x.length hi - HT.sIx x.length 0 lo)).toArray⟩
theorem UQ (lo hi:Option Int) (n:Nat):Builtin.Str.strSliceIndices lo hi 1 n=(List.range (HT.sIx n n hi - HT.sIx n 0 lo)).map fun k=>HT.sIx n 0 lo+k:=by
 have clip:∀ (v:Int) (d:Nat),max 0 (min (if v<0 then v+(n:Int) else v) (n:Int))=((HT.sIx n d (some v):Nat):Int):=fun v d=>by
  show _=(((if v<0 then (v+(n:Int)).toNat else min v.toNat n):Nat):Int)
  by_cases hv:v<0
  ·simp only [if_pos hv];omega
  ·simp only [if_neg hv];omega
 have key:∀ (i j:Nat),sliceRange (i:Int) (j:Int) 1=(List.range (j - i)).map fun k=>i+k:=fun i j=>by
  unfold sliceRange
  have e:(if (1:Int)>0 then (if (i:Int)<(j:Int) then ((j:Int) - (i:Int)+1 - 1) / 1 else 0) else (if (i:Int)>(j:Int) then ((i:Int) - (j:Int) - 1 - 1) / (-1) else 0)).toNat=j - i:=by
   rw [if_pos (by decide)]
   by_cases h:(i:Int)<(j:Int)
   ·rw [if_pos h,Int.ediv_one];omega
   ·rw [if_neg h];omega
  dsimp only
  rw [e]
  refine List.map_congr_left fun k _=>?_
  omega
 have lo':(match lo with | none=>(0:Int) | some v=>max 0 (min (if v<0 then v+(n:Int) else v) (n:Int)))=((HT.sIx n 0 lo:Nat):Int):=by
  cases lo with
  | none=>rfl
  | some v=>exact clip v 0
 have hi':(match hi with | none=>(n:Int) | some v=>max 0 (min (if v<0 then v+(n:Int) else v) (n:Int)))=((HT.sIx n n hi:Nat):Int):=by
  cases hi with
  | none=>rfl
  | some v=>exact clip v n
 rw [← key,← lo',← hi']
 unfold Builtin.Str.strSliceIndices
 cases lo<;>cases hi<;>simp
theorem Yac (x:Str) (lo hi:Option Int):Txt.slice x lo hi=Wt x lo hi:=by
 have hle1:=HT.sIx_le x.length 0 (Nat.zero_le _) lo
 have hle2:=HT.sIx_le x.length x.length (Nat.le_refl _) hi
 have core:((Builtin.Str.strSliceIndices lo hi 1 x.length).filterMap (x.cps[·]?))=(x.cps.toList.drop (HT.sIx x.length 0 lo)).take (HT.sIx x.length x.length hi - HT.sIx x.length 0 lo):=by
  rw [UQ,List.filterMap_map]
  generalize HT.sIx x.length 0 lo=i
  generalize HT.sIx x.length x.length hi - i=k
  have gen:∀ (l:List Nat) (k:Nat),(List.range k).filterMap (fun m=>l[m]?)=l.take k:=by
   intro l k
   induction k with
   | zero=>simp
   | succ k ih =>
    rw [List.range_succ,List.filterMap_append,ih]
    by_cases hk:k<l.length
    ·rw [List.take_succ_eq_append_getElem hk];simp [hk]
    ·have h1:l.take (k+1)=l:=List.take_of_length_le (by omega)
     have h2:l.take k=l:=List.take_of_length_le (by omega)
     rw [h1,h2];simp [hk]
  have e:((fun j=>x.cps[j]?) ∘ fun k=>i+k)=fun m=>(x.cps.toList.drop i)[m]?:=by
   funext m
   simp [List.getElem?_drop]
  rw [e,gen]
 unfold Txt.slice Wt
 rw [core]
 split
 ·rename_i h
  simp only [beq_self_eq_true,Bool.true_and,beq_iff_eq] at h
  rw [UQ,List.length_map,List.length_range] at h
  have h0:HT.sIx x.length 0 lo=0∨x.length=0:=by omega
  have e:(x.cps.toList.drop (HT.sIx x.length 0 lo)).take (HT.sIx x.length x.length hi - HT.sIx x.length 0 lo)=x.cps.toList:=by
   have hl:x.cps.toList.length=x.length:=by simp [Str.length]
   rcases h0 with h0 | h0
   ·rw [h,h0,List.drop_zero,List.take_of_length_le (by omega)]
   ·have:x.cps.toList=[]:=List.eq_nil_of_length_eq_zero (by omega)
    rw [this];simp
  rw [e]
 ·rfl
theorem Qc (x:Str) (lo hi:Option Int):(Wt x lo hi).length≤x.length:=by
 rw [← Yac];exact Txt.slice_le x lo hi
def rSlS:V→Option Int→Option Int→Hp→VK→Prop:=fun x lo hi H Q=>∃ z,x = .str z∧z.length≤sizeLine∧Q (.str (Wt z lo hi)) H
section
variable {X:Cx}
theorem WS:SlR X rSlS:=by
 intro pins s σ H x v vl vu lo hi sl Q I rx hs pl pu h
 obtain ⟨z,rfl,hz,q⟩:=h
 obtain ⟨t,rfl⟩:=rx
 refine ⟨"str",_,F.slot_str_getitem.lookup,typeIs_str _ _ _,?_⟩
 have fin:∀ (l u:Option (Int×Tok)),l.map (·.1)=lo→u.map (·.1)=hi→s.heap.IsSlice sl l u none→wpAny (model X.prog X.w) X.A (getItem (.str z t) (.ref sl)) (EP X pins σ Q) X.xe s:=fun l u el eu hsl=>by
  refine wpAny_getItem_str_slice (l:=l) (u:=u) (st:=none) hsl rfl ?_
  have e:(if (((none:Option (Int×Tok)).map (·.1)).getD 1==1&&(slicePicked z l u none).length==z.length)=true then z else ⟨((slicePicked z l u none).filterMap (z.cps[·]?)).toArray⟩)=Wt z lo hi:=by
   rw [← Yac,← el,← eu]
   rfl
  refine post_val_or_str ⟨by rw [e];exact Nat.le_trans (Qc z lo hi) hz,fun t' k=>?_⟩
  rw [e]
  exact ⟨.str (Wt z lo hi),H,I.tok k,⟨t',rfl⟩,q⟩
 obtain ⟨o,ho,hc,hd⟩:=hs
 cases pl with
 | none =>
  cases pu with
  | none=>exact fin none none rfl rfl ⟨o,ho,hc,hd⟩
  | int j tj=>exact fin none (some (j,tj)) rfl rfl ⟨o,ho,hc,hd⟩
 | int i ti =>
  cases pu with
  | none=>exact fin (some (i,ti)) none rfl rfl ⟨o,ho,hc,hd⟩
  | int j tj=>exact fin (some (i,ti)) (some (j,tj)) rfl rfl ⟨o,ho,hc,hd⟩
theorem Wf:OpR X (compareOp .LtE) (fun x y H Q=>∃ i j,x = .str i∧y = .str j∧Q (.bl (!decide (j.cps.toList<i.cps.toList))) H):=by
 intro pins s σ H x y v u Q I rx ry h
 obtain ⟨i,j,rfl,rfl,q⟩:=h
 obtain ⟨t,rfl⟩:=rx
 obtain ⟨t',rfl⟩:=ry
 exact PySem.P.le_str ⟨.bl _,H,I,rfl,q⟩
def Its (x:Str):It:=⟨fun i _=>i<x.length,fun i H v H'=>H'=H∧∃ c,x.cps.toList[i]?=some c∧v = .str ⟨#[c]⟩,fun i _=>x.length≤i⟩
theorem YdS {P:Program} {w:World} {K:PySem.W.Frag} {tg:Expr} (x:Str) (t:Tok) (it:Addr):Turn P w K tg (Its x) [it] it (fun i h=>h.IsStrIter it "str_ascii_iterator" x t i∨h.IsStrIter it "str_iterator" x t i) where
 mem:=by simp
 obj:=fun i h st b hb=>by
  have e:b=it:=by simpa using hb
  subst e
  rcases st with ⟨o,e,c,d⟩ | ⟨o,e,c,d⟩<;>exact ⟨o,e,fun v z=>by rw [d] at z;cases z⟩
 keep:=fun i h h' st k=>by
  rcases st with ⟨o,e,c⟩ | ⟨o,e,c⟩
  ·exact .inl ⟨o,k it (by simp) o e,c⟩
  ·exact .inr ⟨o,k it (by simp) o e,c⟩
 item:=by
  intro X hP hw hK hc i pins s σ H E I hf st hg
  subst hP hw hK
  have hi:i<x.cps.size:=hg
  have hx:x.cps[i]?=some x.cps[i]:=by simp [hi]
  obtain ⟨f0,f1,f2,f3,f4,f5⟩:=hf it (by simp)
  have fin:∀ (ty:String) (h':Heap),["enumerate","zip","dict_itemiterator","dict_reverseitemiterator","odict_iterator","itertools.zip_longest","itertools.pairwise"].contains ty=false→h'.IsStrIter it ty x t (i+1)→Heap.SameBut it s.heap h' →
    (h'.IsStrIter it ty x t (i+1)→(h'.IsStrIter it "str_ascii_iterator" x t (i+1)∨h'.IsStrIter it "str_iterator" x t (i+1))) →
    ∃ u,some (Value.str ⟨#[x.cps[i]]⟩ s.toks)=some u∧wpAny (model X.prog X.w) X.A (letOwnedTupleGo tg (.ref it) u) (fun _ s2=>∃ y H',Inv X pins σ H' s2∧YA y u∧(Its x).yld i H y H' ∧
     (s2.heap.IsStrIter it "str_ascii_iterator" x t (i+1)∨s2.heap.IsStrIter it "str_iterator" x t (i+1))∧∀ b∈[it],H' b=none) E { s with heap:=h',toks:=s.toks+1 }:=fun ty h' hn st' sb hor=>by
   have I1:Inv X pins σ H { s with heap:=h',toks:=s.toks+1 }:=I.turned (t':=s.toks+1) (fun b o hb e=>(sb.2 b hb).trans e) f0 f1 f3 f4 f5
   obtain ⟨o,e,c,d⟩:=id st'
   exact ⟨_,rfl,QS (s:={ s with heap:=h',toks:=s.toks+1 }) e c d hn ⟨.str ⟨#[x.cps[i]]⟩,H,I1,⟨_,rfl⟩,⟨rfl,x.cps[i],by simp [hi],rfl⟩,hor st',fun b hb=>(hf b hb).1⟩⟩
  rcases st with st | st
  ·exact wpAny_pyNext_ascii_item st hx fun h' st' sb=>fin _ h' (by decide) st' sb .inl
  ·exact wpAny_pyNext_wide_item st hx fun h' st' sb=>fin _ h' (by decide) st' sb .inr
 done:=by
  intro X hP hw hK hc i pins s σ H E I hf st hg
  subst hP hw hK
  have hi:x.cps.size≤i:=hg
  have hx:x.cps[i]?=none:=by simp [hi]
  obtain ⟨f0,f1,f2,f3,f4,f5⟩:=hf it (by simp)
  rcases st with st | st
  ·exact wpAny_pyNext_ascii_end (I.ok.hd hc) st hx fun h' eb=>⟨rfl,I.turned (t':=s.toks) (fun b o hb e=>eb b o hb e) f0 f1 f3 f4 f5⟩
  ·exact wpAny_pyNext_wide_end (I.ok.hd hc) st hx fun h' eb=>⟨rfl,I.turned (t':=s.toks) (fun b o hb e=>eb b o hb e) f0 f1 f3 f4 f5⟩
 self:=fun A i s Q E st h=>by
  rcases st with st | st
  ·exact wpAny_pyIter_slot st.typeIs F.slot_str_ascii_iterator_iter (wpAny_call_entry F.slot_str_ascii_iterator_iter st.typeIs F.entry_str_ascii_iterator_iter (wpAny_pure ⟨_,rfl,"str_ascii_iterator",_,st.typeIs,F.slot_str_ascii_iterator_next.lookup,h⟩) (F.args_str_ascii_iterator_iter_1 _))
  ·exact wpAny_pyIter_slot st.typeIs F.slot_str_iterator_iter (wpAny_call_entry F.slot_str_iterator_iter st.typeIs F.entry_str_iterator_iter (wpAny_pure ⟨_,rfl,"str_iterator",_,st.typeIs,F.slot_str_iterator_next.lookup,h⟩) (F.args_str_iterator_iter_1 _))
end
end L2
namespace L2
open PySem PySem.Spec PyProof.Rows
section
variable {X:Cx} {tg:Expr}
def iStr (tl:TE):TI:=fun σ H R=>tl σ H fun x H1=>∃ z,x = .str z∧R (Its z) H1
theorem VZ {l:Expr} {tl:TE} (hl:PE X l tl):PI X tg l (iStr tl):=by
 intro pins s σ H R I h
 refine thn (hl pins s σ H _ I h) fun v s1 ⟨x,H1,I1,r1,q1⟩=>?_
 obtain ⟨z,e,q⟩:=q1
 subst e
 obtain ⟨t,rfl⟩:=r1
 refine wpAny_pyIter_strU ?_
 refine ⟨s1.heap.objs.size,[s1.heap.objs.size],_,_,H1,rfl,I1.kept (t':=s1.toks) fun b o e=>Heap.get?_push_of_some _ e,YdS z t _,?_,fun b hb=>?_,q⟩
 ·unfold strIterType
  split
  ·exact .inl ⟨_,Heap.get?_push_size _ rfl,rfl,rfl⟩
  ·exact .inr ⟨_,Heap.get?_push_size _ rfl,rfl,rfl⟩
 ·have e:b=s1.heap.objs.size:=by simpa using hb
  subst e
  exact I1.fpOk (Nat.le_refl _) (I1.hok.fresh (Nat.le_refl _))
def X7 (J:It) (P:Hp→Prop) (xs:List V):Prop:=∀ H,P H→∀ i,(∀ x,xs[i]?=some x→J.go i H∧∀ y H',J.yld i H y H'→H'=H∧y=x)∧(xs.length≤i→J.stop i H)
theorem V0 (z:Str) (P:Hp→Prop):X7 (Its z) P (z.cps.toList.map fun c => .str ⟨#[c]⟩):=fun H _ i=>by
 refine ⟨fun x hx=>?_,fun hi=>?_⟩
 ·rw [List.getElem?_map] at hx
  cases e:z.cps.toList[i]? with
  | none=>rw [e] at hx;simp at hx
  | some c =>
   rw [e] at hx
   have hx':V.str ⟨#[c]⟩=x:=by simpa using hx
   subst hx'
   have hi:i<z.cps.toList.length:=(List.getElem?_eq_some_iff.mp e).1
   refine ⟨by show i<z.cps.size;simpa using hi,fun y H' ⟨e1,c',e2,e3⟩=>⟨e1,?_⟩⟩
   rw [e] at e2
   cases e2
   exact e3
 ·show z.cps.size≤i
  simpa using hi
theorem V1 {K:PySem.W.Frag} {a:Addr} {xs:List V}:X7 (Itt K a) (fun H=>SqT K H a xs) xs:=fun H hq i=>by
 refine ⟨fun x hx=>⟨⟨xs,x,hq,hx⟩,fun y H' ⟨e1,e2⟩=>⟨e1,?_⟩⟩,fun hi=>⟨xs,hq,hi⟩⟩
 have:=e2 xs hq
 rw [hx] at this
 exact (Option.some.inj this).symm
theorem Wm {K:PySem.W.Frag} {a:Addr} {xs:List V}:X7 (Itl K a) (fun H=>SqL K H a xs) xs:=fun H hq i=>by
 refine ⟨fun x hx=>⟨⟨xs,x,hq,hx⟩,fun y H' ⟨e1,e2⟩=>⟨e1,?_⟩⟩,fun hi=>⟨xs,hq,hi⟩⟩
 have:=e2 xs hq
 rw [hx] at this
 exact (Option.some.inj this).symm
theorem Ya9 {lo:Int} {n:Nat} {P:Hp→Prop}:X7 (Itr lo n) P ((List.range n).map fun (i:Nat)=>V.int (lo+i)):=fun H hq i=>by
 refine ⟨fun x hx=>?_,fun hi=>by show n≤i;simpa using hi⟩
 have hi:i<n:=by
  have:=(List.getElem?_eq_some_iff.mp hx).1
  simpa using this
 refine ⟨hi,fun y H' ⟨e1,e2⟩=>⟨e1,?_⟩⟩
 rw [List.getElem?_map,List.getElem?_range hi] at hx
 rw [e2]
 simpa using hx
theorem X7.imp {J:It} {P P':Hp→Prop} {xs:List V} (h:X7 J P xs) (hp:∀ H,P' H→P H):X7 J P' xs:=fun H q=>h H (hp H q)
theorem Ycb {J:It} {P:Hp→Prop} {xs:List V} (hJ:X7 J P xs) {src:List (Option Nat)} {g:TG} {tt:TT} {te:TE} {σ:St} {H1:Hp} {Q:VK} {D:Addr} (Pv:Nat→List V→St→Hp→Prop)
  (h0:Pv 0 [] (YD src σ) (upd H1 D (.lst []))) (hP:∀ i ys σ' H',Pv i ys σ' H'→P H'∧H' D=some (.lst ys))
  (step:∀ i ys σ' H' x,xs[i]?=some x→Pv i ys σ' H'→g x σ' H' fun σ2 H4=>tt σ2 H4 fun b H5=>if b=true then te σ2 H5 fun y H6=>H6 D=some (.lst ys)∧ys.length<sizeLine∧Pv (i+1) (ys++[y]) σ2 (upd H6 D (.lst (ys++[y]))) else Pv (i+1) ys σ2 H5)
  (fin:∀ ys σ' H',Pv xs.length ys σ' H'→Q (.ref D) H') :
  LC src J g tt te σ H1 Q D:=by
 refine ⟨fun i m ys σ' H'=>m=xs.length - i∧i≤xs.length∧Pv i ys σ' H',⟨xs.length,by simp,Nat.zero_le _,h0⟩,?_⟩
 rintro i m ys σ' H2 ⟨rfl,hi,p⟩
 obtain ⟨hp,hD⟩:=hP i ys σ' H2 p
 refine ⟨hD,?_⟩
 by_cases hlt:i<xs.length
 ·obtain ⟨go,yl⟩:=(hJ H2 hp i).1 xs[i] (by simp [hlt])
  refine .inr ⟨go,fun ys' σ3 H3=>Pv (i+1) ys' σ3 H3,fun ys' σ3 H3 p'=>⟨xs.length - (i+1),by omega,rfl,hlt,p'⟩,fun x H3 y=>?_⟩
  obtain ⟨e1,e2⟩:=yl x H3 y
  subst e1 e2
  exact step i ys σ' _ _ (by simp [hlt]) p
 ·have e:i=xs.length:=by omega
  subst e
  exact .inl ⟨(hJ H2 hp _).2 (Nat.le_refl _),fin ys σ' H2 p⟩
theorem Same.upd_new {H:Hp} {p:Addr} (h:H p=none) (o:HO):Same H (upd H p o):=fun b u q=>by rw [Yt (YB q h)];exact q
theorem Same.upd_over {H H':Hp} {p:Addr} (h:H p=none) (e:Same H H') (o:HO):Same H (upd H' p o):=fun b u q=>by rw [Yt (YB q h)];exact e b u q
theorem Same.tup {K:PySem.W.Frag} {H H':Hp} {a:Addr} {xs:List V} (e:Same H H') (h:SqT K H a xs):SqT K H' a xs:=by
 rcases h with (h | ⟨o,h⟩) | h
 ·exact .inl (.inl (e _ _ h))
 ·exact .inl (.inr ⟨o,e _ _ h⟩)
 ·exact .inr h
end
section
variable {X:Cx}
theorem Yad:∀ {bs:List Bool} {us:List Value},Yr (bs.map V.bl) us→LSm.BoolsAre us bs
 | [],_,h=>by rw [Yr.zero h];exact .nil
 | b::bs,us,h=>by
  have h':Yr (V.bl b::bs.map V.bl) us:=h
  cases h' with
  | cons r t=>cases (show _=Value.bool b from r);exact .cons b (Yad t)
theorem XX (hc:X.calm=true):Xh X (.builtin "all") (fun xs H Q=>∃ (p:Addr) (bs:List Bool),xs=[.ref p]∧SqL X.K H p (bs.map V.bl)∧Q (.bl (bs.all id)) H):=by
 intro pins s σ H xs us Q I r h
 obtain ⟨p,bs,rfl,hq,q⟩:=h
 obtain ⟨u,rfl,rx⟩:=Xw r
 cases rx
 obtain ⟨its,r',pl,hz⟩:=I.list hq
 have hb:=Yad r'
 have hl:=pl.isList
 have hlt:p<s.heap.objs.size:=by obtain ⟨_,e,_⟩:=hl;exact Heap.lt_size e
 refine call_all_walk (wpAny_pyIter_list hl ?_)
 refine ⟨s.heap.objs.size,[s.heap.objs.size,p],[s.heap.objs.size],its.toArray.size,_,_,fun i=>(bs[i]?).getD true,rfl,Walks.list (A:=X.A.in1) (I.ok.hd hc) _ p (Nat.ne_of_lt hlt) its.toArray,
  ⟨⟨_,Heap.get?_push_size _ rfl,rfl,rfl⟩,hl.push _⟩,fun i v s' Q' E' hP hQ=>?_,fun h' tk hk=>?_⟩
 ·obtain ⟨b,e,rfl⟩:=hb.get i v (by simpa using hP)
  simp only [e,Option.getD_some] at hQ
  exact wpAny_truthy_bool hQ
 ·have e:((List.range its.toArray.size).all fun i=>(bs[i]?).getD true)=bs.all id:=by
   rw [List.size_toArray,hb.length];exact LSm.range_all bs
  rw [e]
  exact ⟨.bl _,H,I.kept (t':=tk) (LSm.kept_iter hk),rfl,q⟩
theorem Ybr:∀ {ys:List Str} {us:List Value},Yr (ys.map V.str) us→StrsAre us ys
 | [],_,h=>by rw [Yr.zero h];exact .nil
 | y::ys,us,h=>by
  have h':Yr (V.str y::ys.map V.str) us:=h
  cases h' with
  | cons r t=>obtain ⟨t',rfl⟩:=r;exact .cons y t' (Ybr t)
def rJoin (K:PySem.W.Frag):V→List V→Hp→VK→Prop:=fun x vs H Q=>∃ (z:Str) (p:Addr) (ys:List Str),x = .str z∧vs=[.ref p]∧SqL K H p (ys.map V.str)∧(ys.map (·.length)).sum+ys.length*z.length≤16777216∧Q (.str (Txt.join z ys)) H
theorem Vi:MtR X "str.join" (rJoin X.K):=by
 intro pins s σ H x vs v us Q I rx rv h
 obtain ⟨z,p,ys,rfl,rfl,hq,hl,q⟩:=h
 obtain ⟨t,rfl⟩:=rx
 obtain ⟨u,rfl,ru⟩:=rv.one
 cases ru
 obtain ⟨its,r,pl,hz⟩:=I.list hq
 exact join_list pl.isList (by simpa using Ybr r) hl fun t' k=>⟨.str _,H,I.tok k,⟨t',rfl⟩,q⟩
def Vy:V→Option Value
 | .ty n=>some (.type n)
 | .ref a=>some (.ref a)
 | _=>none
theorem Y2:Xh X (.builtin "isinstance") (fun xs H Q=>∃ x c cv t b,xs=[x,c]∧Vy c=some cv∧TyOf X.K H x t∧PySem.W.kitOne X.K t cv=some b∧Q (.bl b) H):=by
 intro pins s σ H xs us Q I r h
 obtain ⟨x,c,cv,t,b,rfl,ec,ty,e,q⟩:=h
 obtain ⟨u,w',rfl,ru,rw'⟩:=Yeq r
 have ew:w'=cv:=by
  cases c with
  | ty n=>cases (show w'=Value.type n from rw');simpa [Vy] using ec
  | ref a=>cases (show w'=Value.ref a from rw');simpa [Vy] using ec
  | _=>simp [Vy] at ec
 subst ew
 exact YcN I ru ty e fun tk=>⟨.bl b,H,I.tok tk,rfl,q⟩
end
end L2
namespace L2
open PySem PySem.Spec PyProof.Rows
structure Sub (P:Program) (w:World) (i:Addr) (St:Nat→Heap→Prop) (Ready:Heap→(Nat→Option Value)→Prop):Prop where
 obj:∀ k h,St k h→∃ o,h.get? i=some o∧∀ v,o.data ≠ .cell v
 keep:∀ k h h',St k h→(∀ o,h.get? i=some o→h'.get? i=some o)→St k h'
 item:∀ (A:Around) (k:Nat) (s:Shared) (get:Nat→Option Value) (x:Value) (Q:Value→Shared→Prop) (E:Value→Shared→Prop),St k s.heap→Ready s.heap get→get k=some x →
  (∀ h' tk,St (k+1) h'→Heap.SameBut i s.heap h'→Q x { s with heap:=h',toks:=tk })→wpAny (model P w) A (Builtin.SmallTypes.nextOf (.ref i)) Q E s
 fin:∀ (A:Around) (k:Nat) (s:Shared) (get:Nat→Option Value) (Q:Value→Shared→Prop) (E:Value→Shared→Prop),A.handled=none→St k s.heap→Ready s.heap get→get k=none →
  (∀ h' e,Heap.ExtBut i s.heap h'→(∃ o,h'.get? e=some o∧o.cls = .type "StopIteration")→E (.ref e) { s with heap:=h' })→wpAny (model P w) A (Builtin.SmallTypes.nextOf (.ref i)) Q E s
section
variable {prog:Program} {w:World} {A:Around} {E:Value→Shared→Prop} {s:Shared}
theorem Uu {it t:Addr} {i:Nat} {items:Array Value} {x:Value} {Q:Value→Shared→Prop} (hit:s.heap.IsTupleIter it t i) (ht:s.heap.IsTuple t items) (hx:items[i]?=some x)
  (hQ:∀ h',h'.IsTupleIter it t (i+1)→Heap.SameBut it s.heap h'→Q x { s with heap:=h' }):wpAny (model prog w) A (Builtin.SmallTypes.nextOf (.ref it)) Q E s:=by
 obtain ⟨o,ho,hc,hd⟩:=id hit
 obtain ⟨ol,hol,_,nl,hdl⟩:=ht
 unfold Builtin.SmallTypes.nextOf
 refine wpAny_bind (wpAny_callSpecial?_slot (name:=Str.ofString "__next__") hit.typeIs F.slot_tuple_iterator_next (wpAny_call_entry F.slot_tuple_iterator_next hit.typeIs F.entry_tuple_iterator_next ?_ (F.args_tuple_iterator_next_1 _)))
 show wpAny _ _ (field (.ref it) 0 >>= _) _ _ s
 refine wpAny_bind (wpAny_field ho hd (x := .ref t) rfl ?_)
 show wpAny _ _ (if (Value.ref t==Value.none)=true then _ else _) _ _ s
 rw [if_neg (show ¬ ((Value.ref t==Value.none)=true) from Bool.false_ne_true)]
 show wpAny _ _ (field (.ref it) 1 >>= _) _ _ s
 refine wpAny_bind (wpAny_field ho hd (x := .int i 0) rfl ?_)
 show wpAny _ _ (seqItems? (.ref t) >>= _) _ _ s
 refine wpAny_bind (wpAny_seqItems hol hdl ?_)
 simp only [Int.toNat_natCast,hx]
 refine wpAny_bind (wpAny_setField ho hd (by simp) (wpAny_pure ⟨x,rfl,wpAny_pure (hQ _ ?_ (Heap.SameBut.update ..))⟩))
 exact ⟨_,Heap.get?_update_self _ ho (Obj.isFreed_of_fields (Obj.data_mapFields hd _)),(Obj.cls_mapFields ..).trans hc,by rw [Obj.data_mapFields hd];simp [rawInt]⟩
theorem Uz {it t:Addr} {i:Nat} {items:Array Value} {Q:Value→Shared→Prop} (hh:A.handled=none) (hit:s.heap.IsTupleIter it t i) (ht:s.heap.IsTuple t items) (hx:items[i]?=none)
  (hE:∀ h' e,Heap.ExtBut it s.heap h'→(∃ o,h'.get? e=some o∧o.cls = .type "StopIteration")→E (.ref e) { s with heap:=h' }):wpAny (model prog w) A (Builtin.SmallTypes.nextOf (.ref it)) Q E s:=by
 obtain ⟨o,ho,hc,hd⟩:=id hit
 obtain ⟨ol,hol,_,nl,hdl⟩:=ht
 unfold Builtin.SmallTypes.nextOf
 refine wpAny_bind (wpAny_callSpecial?_slot (name:=Str.ofString "__next__") hit.typeIs F.slot_tuple_iterator_next (wpAny_call_entry F.slot_tuple_iterator_next hit.typeIs F.entry_tuple_iterator_next ?_ (F.args_tuple_iterator_next_1 _)))
 show wpAny _ _ (field (.ref it) 0 >>= _) _ _ s
 refine wpAny_bind (wpAny_field ho hd (x := .ref t) rfl ?_)
 show wpAny _ _ (if (Value.ref t==Value.none)=true then _ else _) _ _ s
 rw [if_neg (show ¬ ((Value.ref t==Value.none)=true) from Bool.false_ne_true)]
 show wpAny _ _ (field (.ref it) 1 >>= _) _ _ s
 refine wpAny_bind (wpAny_field ho hd (x := .int i 0) rfl ?_)
 show wpAny _ _ (seqItems? (.ref t) >>= _) _ _ s
 refine wpAny_bind (wpAny_seqItems hol hdl ?_)
 simp only [Int.toNat_natCast,hx]
 refine wpAny_bind (wpAny_rule (wpAny_bind (wpAny_setField ho hd (by simp) ?_)))
 show wpAny _ _ (newExc (.type "StopIteration") [] >>= _) _ _ _
 refine wpAny_bind ?_
 simp only [newExc,newTuple]
 refine wpAny_bind (wpAny_newObj_type ?_ (by size_fits))
 refine wpAny_bind (m:=firstArgMember _ _) (wpAny_of_eq (a:=Value.none) (by first | rfl | (simp only [firstArgMember];rfl)) ?_)
 refine wpAny_newObj_type ?_ (by size_fits)
 simp only [raiseNew]
 refine wpAny_bind (wpAny_handled ?_)
 first | rw [show A.in1.handled=none from hh] | rw [hh]
 refine wpAny_bind (wpAny_pure (wpAny_throw ?_))
 exact hE _ _ (((Heap.SameBut.update ..).extBut.push _).push _) ⟨_,Heap.get?_push_size _ rfl,rfl⟩
end
theorem YcU {P:Program} {w:World} (i t:Addr):Sub P w i (fun k h=>h.IsTupleIter i t k) (fun h get=>∃ items:Array Value,h.IsTuple t items∧∀ k,get k=items[k]?) where
 obj:=fun k h ⟨o,e,c,d⟩=>⟨o,e,fun v z=>by rw [d] at z;cases z⟩
 keep:=fun k h h' st q=>st.at q
 item:=fun A k s get x Q E st ⟨items,ht,hg⟩ hx hQ=>Uu st ht ((hg k).symm.trans hx) fun h' st' sb=>hQ h' s.toks st' sb
 fin:=fun A k s get Q E hh st ⟨items,ht,hg⟩ hx hE=>Uz hh st ht ((hg k).symm.trans hx) hE
theorem YdT {P:Program} {w:World} (i t:Addr):Sub P w i (fun k h=>h.IsListIter i t k) (fun h get=>∃ items:Array Value,h.IsList t items∧∀ k,get k=items[k]?) where
 obj:=fun k h ⟨o,e,c,d⟩=>⟨o,e,fun v z=>by rw [d] at z;cases z⟩
 keep:=fun k h h' st q=>st.at q
 item:=fun A k s get x Q E st ⟨items,ht,hg⟩ hx hQ=>wpAny_nextOf_list_item st ht ((hg k).symm.trans hx) fun h' st' sb=>hQ h' s.toks st' sb
 fin:=fun A k s get Q E hh st ⟨items,ht,hg⟩ hx hE=>wpAny_nextOf_list_end hh st ht ((hg k).symm.trans hx) hE
structure ZApart (z TI TO i1 i2:Addr):Prop where
 a:TI≠z
 b:TO≠z
 c:i1≠z
 d:i2≠z
 e:TI≠TO
 f:TI≠i1
 g:TI≠i2
 h:TO≠i1
 i:TO≠i2
 j:i1≠i2
section
variable {prog:Program} {w:World} {A:Around} {E:Value→Shared→Prop} {s:Shared} {z TI TO i1 i2:Addr} {S1 S2:Nat→Heap→Prop} {R1 R2:Heap→(Nat→Option Value)→Prop} {g1 g2:Nat→Option Value} {k:Nat} {a b:Value}
theorem YdU {x y:Value} {Q:Option Value→Shared→Prop} (D:ZApart z TI TO i1 i2) (U1:Sub prog w i1 S1 R1) (U2:Sub prog w i2 S2 R2)
  (k1:∀ h h' g,R1 h g→(∀ c o,c≠z→c≠TO→c≠i1→c≠i2→h.get? c=some o→h'.get? c=some o)→R1 h' g) (k2:∀ h h' g,R2 h g→(∀ c o,c≠z→c≠TO→c≠i1→c≠i2→h.get? c=some o→h'.get? c=some o)→R2 h' g)
  (hz:IsZip s.heap z TI TO .none) (hTI:IsPair s.heap TI (.ref i1) (.ref i2)) (hTO:IsPair s.heap TO a b) (h1:S1 k s.heap) (h2:S2 k s.heap) (r1:R1 s.heap g1) (r2:R2 s.heap g2) (hx:g1 k=some x) (hy:g2 k=some y)
  (hQ:∀ h' tk,IsZip h' z TI TO (rawInt s.heap.objs.size)→IsPair h' TO x y→S1 (k+1) h'→S2 (k+1) h'→IsPair h' s.heap.objs.size x y→h'.objs.size=s.heap.objs.size+1 →
   (∀ c o,c≠z→c≠TO→c≠i1→c≠i2→s.heap.get? c=some o→h'.get? c=some o)→Q (some (.ref s.heap.objs.size)) { s with heap:=h',toks:=tk }) :
  wpAny (model prog w) A (pyNext (.ref z)) Q E s:=by
 have hT:s.TypeIs (.ref z) "zip":=⟨_,hz,rfl⟩
 unfold pyNext
 refine wpAny_bind (wpAny_attempt (wpAny_callSpecial?_slot (name:=Str.ofString "__next__") hT F.slot_zip_next (wpAny_call_entry F.slot_zip_next hT F.entry_zip_next ?_ (F.args_zip_next_1 _))))
 show wpAny _ _ (field (.ref z) 2 >>= _) _ _ _
 refine wpAny_bind (wpAny_field hz rfl (x := .bool false) rfl ?_)
 show wpAny _ _ (field (.ref z) 3 >>= _) _ _ _
 refine wpAny_bind (wpAny_field hz rfl (x := .ref TI) rfl ?_)
 refine wpAny_bind (wpAny_seqItems hTI rfl ?_)
 show wpAny _ _ (Builtin.SmallTypes.ownedTupleIsFree (.ref z) >>= _) _ _ _
 refine wpAny_bind ?_
 unfold Builtin.SmallTypes.ownedTupleIsFree
 refine wpAny_bind (wpAny_field hz rfl (x := .none) rfl (wpAny_pure ?_))
 simp only [if_true]
 refine wpAny_bind (wpAny_rule ?_)
 refine wpAny_bind (wpAny_field hz rfl (x := .ref TO) rfl ?_)
 refine wpAny_bind (wpAny_setField_rec hz (by simp) fun h₁ hz₁ hs₁=>?_)
 replace hz₁:IsZip h₁ z TI TO .ellipsis:=hz₁
 refine wpAny_bind ?_
 simp only [List.zipIdx_cons,List.zipIdx_nil,List.forIn_cons,List.forIn_nil]
 refine wpAny_bind (wpAny_bind (wpAny_onRaise ?_))
 show wpAny _ _ (Builtin.SmallTypes.nextOf (.ref i1) >>= _) _ _ _
 have S1₁:S1 k h₁:=U1.keep _ _ _ h1 fun o e=>hs₁.extBut _ _ D.c e
 have R1₁:R1 h₁ g1:=k1 _ _ _ r1 fun c o c1 _ _ _ e=>hs₁.extBut _ _ c1 e
 refine wpAny_bind (U1.item _ k { s with heap:=h₁ } g1 x _ _ S1₁ R1₁ hx fun h₂ tk₂ S1₂ hs₂=>wpAny_pure ?_)
 have hTO₂:IsPair h₂ TO a b:=hs₂.extBut _ _ D.h (hs₁.extBut _ _ D.b hTO)
 refine wpAny_bind (wpAny_seqItems hTO₂ rfl ?_)
 refine wpAny_bind (wpAny_updateSeq_pair hTO₂ fun h₃ hTO₃ hs₃=>?_)
 replace hTO₃:IsPair h₃ TO x b:=hTO₃
 refine wpAny_bind (wpAny_letGo (wpAny_pure ?_))
 refine wpAny_bind (wpAny_bind (wpAny_onRaise ?_))
 show wpAny _ _ (Builtin.SmallTypes.nextOf (.ref i2) >>= _) _ _ _
 have kk₃:∀ c o,c≠z→c≠TO→c≠i1→c≠i2→s.heap.get? c=some o→h₃.get? c=some o:=fun c o c1 c2 c3 c4 e=>hs₃.extBut _ _ c2 (hs₂.extBut _ _ c3 (hs₁.extBut _ _ c1 e))
 have S2₃:S2 k h₃:=U2.keep _ _ _ h2 fun o e=>hs₃.extBut _ _ D.i.symm (hs₂.extBut _ _ D.j.symm (hs₁.extBut _ _ D.d e))
 refine wpAny_bind (U2.item _ k { s with heap:=h₃,toks:=tk₂ } g2 y _ _ S2₃ (k2 _ _ _ r2 kk₃) hy fun h₄ tk₄ S2₄ hs₄=>wpAny_pure ?_)
 have hTO₄:IsPair h₄ TO x b:=hs₄.extBut _ _ D.i hTO₃
 refine wpAny_bind (wpAny_seqItems hTO₄ rfl ?_)
 refine wpAny_bind (wpAny_updateSeq_pair hTO₄ fun h₅ hTO₅ hs₅=>?_)
 replace hTO₅:IsPair h₅ TO x y:=hTO₅
 refine wpAny_bind (wpAny_letGo (wpAny_pure (wpAny_pure ?_)))
 refine wpAny_bind (wpAny_seqItems hTO₅ rfl ?_)
 refine wpAny_bind (wpAny_newTuple ?_)
 have hsz:h₅.objs.size=s.heap.objs.size:=by rw [hs₅.1,hs₄.1,hs₃.1,hs₂.1,hs₁.1]
 have hz₅:IsZip h₅ z TI TO .ellipsis:=hs₅.extBut _ _ D.b.symm (hs₄.extBut _ _ D.d.symm (hs₃.extBut _ _ D.b.symm (hs₂.extBut _ _ D.c.symm hz₁)))
 have hk₅:∀ c o,c≠z→c≠TO→c≠i1→c≠i2→s.heap.get? c=some o→h₅.get? c=some o:=fun c o c1 c2 c3 c4 e=>hs₅.extBut _ _ c2 (hs₄.extBut _ _ c4 (kk₃ c o c1 c2 c3 c4 e))
 have S1₅:S1 (k+1) h₅:=U1.keep _ _ _ S1₂ fun o e=>hs₅.extBut _ _ D.h.symm (hs₄.extBut _ _ D.j (hs₃.extBut _ _ D.h.symm e))
 have S2₅:S2 (k+1) h₅:=U2.keep _ _ _ S2₄ fun o e=>hs₅.extBut _ _ D.i.symm e
 have hzlt:z<h₅.objs.size:=Heap.lt_size hz₅
 show wpAny _ _ (Builtin.SmallTypes.ownedTupleHandOut (.ref z) (.ref h₅.objs.size) >>= _) _ _ _
 refine wpAny_bind ?_
 unfold Builtin.SmallTypes.ownedTupleHandOut
 have hz₆:IsZip (h₅.push { cls := .type "tuple",data := .seq #[x,y] }) z TI TO .ellipsis:=Heap.get?_push_of_some _ hz₅
 refine wpAny_bind (wpAny_setField_rec hz₆ (by simp) fun h₇ hz₇ hs₇=>?_)
 replace hz₇:IsZip h₇ z TI TO (rawInt h₅.objs.size):=hz₇
 refine wpAny_setField_rec hz₇ (by simp) fun h₈ hz₈ hs₈=>?_
 replace hz₈:IsZip h₈ z TI TO (rawInt h₅.objs.size):=hz₈
 have up:∀ c o,c≠z→h₅.get? c=some o→h₈.get? c=some o:=fun c o c1 e=>hs₈.extBut _ _ c1 (hs₇.extBut _ _ c1 (Heap.get?_push_of_some _ e))
 have hT₈:IsPair h₈ h₅.objs.size x y:=hs₈.extBut _ _ (Nat.ne_of_gt hzlt) (hs₇.extBut _ _ (Nat.ne_of_gt hzlt) (Heap.get?_push_size _ rfl))
 have hz8:h₈.objs.size=h₅.objs.size+1:=by rw [hs₈.1,hs₇.1,Heap.size_push]
 rw [hsz] at hz₈ hT₈ hz8
 refine wpAny_pure ⟨_,rfl,wpAny_pure ?_⟩
 show Q (some (.ref h₅.objs.size)) _
 rw [hsz]
 exact hQ h₈ tk₄ hz₈ (up _ _ D.b hTO₅) (U1.keep _ _ _ S1₅ fun o e=>up _ o D.c e) (U2.keep _ _ _ S2₅ fun o e=>up _ o D.d e) hT₈ hz8 fun c o c1 c2 c3 c4 e=>up c o c1 (hk₅ c o c1 c2 c3 c4 e)
theorem Ye3 {Q:Option Value→Shared→Prop} (hh:A.handled=none) (D:ZApart z TI TO i1 i2) (U1:Sub prog w i1 S1 R1) (U2:Sub prog w i2 S2 R2)
  (k1:∀ h h' g,R1 h g→(∀ c o,c≠z→c≠TO→c≠i1→c≠i2→h.get? c=some o→h'.get? c=some o)→R1 h' g) (k2:∀ h h' g,R2 h g→(∀ c o,c≠z→c≠TO→c≠i1→c≠i2→h.get? c=some o→h'.get? c=some o)→R2 h' g)
  (hz:IsZip s.heap z TI TO .none) (hTI:IsPair s.heap TI (.ref i1) (.ref i2)) (hTO:IsPair s.heap TO a b) (h1:S1 k s.heap) (h2:S2 k s.heap) (r1:R1 s.heap g1) (r2:R2 s.heap g2) (hend:g1 k=none∨g2 k=none)
  (hQ:∀ h' tk,(∀ c o,c≠z→c≠TO→c≠i1→c≠i2→s.heap.get? c=some o→h'.get? c=some o)→Q none { s with heap:=h',toks:=tk }):wpAny (model prog w) A (pyNext (.ref z)) Q E s:=by
 have hT:s.TypeIs (.ref z) "zip":=⟨_,hz,rfl⟩
 unfold pyNext
 refine wpAny_bind (wpAny_attempt (wpAny_callSpecial?_slot (name:=Str.ofString "__next__") hT F.slot_zip_next (wpAny_call_entry F.slot_zip_next hT F.entry_zip_next ?_ (F.args_zip_next_1 _))))
 show wpAny _ _ (field (.ref z) 2 >>= _) _ _ _
 refine wpAny_bind (wpAny_field hz rfl (x := .bool false) rfl ?_)
 show wpAny _ _ (field (.ref z) 3 >>= _) _ _ _
 refine wpAny_bind (wpAny_field hz rfl (x := .ref TI) rfl ?_)
 refine wpAny_bind (wpAny_seqItems hTI rfl ?_)
 show wpAny _ _ (Builtin.SmallTypes.ownedTupleIsFree (.ref z) >>= _) _ _ _
 refine wpAny_bind ?_
 unfold Builtin.SmallTypes.ownedTupleIsFree
 refine wpAny_bind (wpAny_field hz rfl (x := .none) rfl (wpAny_pure ?_))
 simp only [if_true]
 refine wpAny_bind (wpAny_rule ?_)
 refine wpAny_bind (wpAny_field hz rfl (x := .ref TO) rfl ?_)
 refine wpAny_bind (wpAny_setField_rec hz (by simp) fun h₁ hz₁ hs₁=>?_)
 replace hz₁:IsZip h₁ z TI TO .ellipsis:=hz₁
 refine wpAny_bind ?_
 simp only [List.zipIdx_cons,List.zipIdx_nil,List.forIn_cons,List.forIn_nil]
 refine wpAny_bind (wpAny_bind (wpAny_onRaise ?_))
 show wpAny _ _ (Builtin.SmallTypes.nextOf (.ref i1) >>= _) _ _ _
 have S1₁:S1 k h₁:=U1.keep _ _ _ h1 fun o e=>hs₁.extBut _ _ D.c e
 have R1₁:R1 h₁ g1:=k1 _ _ _ r1 fun c o c1 _ _ _ e=>hs₁.extBut _ _ c1 e
 cases hx:g1 k with
 | none =>
  refine wpAny_bind (U1.fin _ k { s with heap:=h₁ } g1 _ _ hh S1₁ R1₁ hx fun h₂ e hs₂ he=>?_)
  obtain ⟨oe,hoe,hce⟩:=he
  have hz₂:IsZip h₂ z TI TO .ellipsis:=hs₂ _ _ D.c.symm hz₁
  have hez:e≠z:=fun x=>by subst x;rw [hz₂] at hoe;cases hoe;simp at hce
  refine wpAny_setField_rec hz₂ (by simp) fun h₃ _ hs₃=>?_
  refine wpAny_bind (wpAny_isInstance (T:="StopIteration") (b:=true) ⟨oe,hs₃.extBut _ _ hez hoe,hce⟩ isSubtype_stop ?_)
  exact wpAny_pure (hQ h₃ s.toks fun c o c1 _ c3 _ x=>hs₃.extBut _ _ c1 (hs₂ _ _ c3 (hs₁.extBut _ _ c1 x)))
 | some x =>
  have hy:g2 k=none:=by rcases hend with h | h;rw [hx] at h;cases h;exact h
  refine wpAny_bind (U1.item _ k { s with heap:=h₁ } g1 x _ _ S1₁ R1₁ hx fun h₂ tk₂ S1₂ hs₂=>wpAny_pure ?_)
  have hTO₂:IsPair h₂ TO a b:=hs₂.extBut _ _ D.h (hs₁.extBut _ _ D.b hTO)
  refine wpAny_bind (wpAny_seqItems hTO₂ rfl ?_)
  refine wpAny_bind (wpAny_updateSeq_pair hTO₂ fun h₃ hTO₃ hs₃=>?_)
  refine wpAny_bind (wpAny_letGo (wpAny_pure ?_))
  refine wpAny_bind (wpAny_bind (wpAny_onRaise ?_))
  show wpAny _ _ (Builtin.SmallTypes.nextOf (.ref i2) >>= _) _ _ _
  have kk₃:∀ c o,c≠z→c≠TO→c≠i1→c≠i2→s.heap.get? c=some o→h₃.get? c=some o:=fun c o c1 c2 c3 c4 e=>hs₃.extBut _ _ c2 (hs₂.extBut _ _ c3 (hs₁.extBut _ _ c1 e))
  have S2₃:S2 k h₃:=U2.keep _ _ _ h2 fun o e=>hs₃.extBut _ _ D.i.symm (hs₂.extBut _ _ D.j.symm (hs₁.extBut _ _ D.d e))
  refine wpAny_bind (U2.fin _ k { s with heap:=h₃,toks:=tk₂ } g2 _ _ hh S2₃ (k2 _ _ _ r2 kk₃) hy fun h₄ e hs₄ he=>?_)
  obtain ⟨oe,hoe,hce⟩:=he
  have hz₄:IsZip h₄ z TI TO .ellipsis:=hs₄ _ _ D.d.symm (hs₃.extBut _ _ D.b.symm (hs₂.extBut _ _ D.c.symm hz₁))
  have hez:e≠z:=fun x=>by subst x;rw [hz₄] at hoe;cases hoe;simp at hce
  refine wpAny_setField_rec hz₄ (by simp) fun h₅ _ hs₅=>?_
  refine wpAny_bind (wpAny_isInstance (T:="StopIteration") (b:=true) ⟨oe,hs₅.extBut _ _ hez hoe,hce⟩ isSubtype_stop ?_)
  exact wpAny_pure (hQ h₅ tk₂ fun c o c1 c2 c3 c4 x=>hs₅.extBut _ _ c1 (hs₄ _ _ c4 (kk₃ c o c1 c2 c3 c4 x)))
end
end L2
namespace L2
open PySem PySem.Spec PyProof.Rows
abbrev zpH (h:Heap) (o1 o2:Obj):Heap:=((h.push o1).push o2)
abbrev zpT (h:Heap) (o1 o2:Obj):Heap:=(zpH h o1 o2).push { cls := .type "tuple",data := .seq #[.ref h.objs.size,.ref (h.push o1).objs.size] }
abbrev zpO (h:Heap) (o1 o2:Obj):Heap:=(zpT h o1 o2).push { cls := .type "tuple",data := .seq #[.none,.none] }
abbrev zpZ (h:Heap) (o1 o2:Obj):Heap:=(zpO h o1 o2).push { cls := .type "zip",data := .fields #[.none,.bool false,.bool false,.ref (zpH h o1 o2).objs.size,.ref (zpT h o1 o2).objs.size] }
def Wg (h:Heap) (v:Value) (o:Obj):Prop:=∀ (prog:Program) (w:World) (A:Around) (E:Value→Shared→Prop) (s:Shared) (Q:Value→Shared→Prop),(∀ b ob,h.get? b=some ob→s.heap.get? b=some ob) →
 Q (.ref s.heap.objs.size) { s with heap:=s.heap.push o }→wpAny (model prog w) A (pyIter v) Q E s
theorem VQ {h:Heap} {t:Addr} {items:Array Value} (ht:h.IsTuple t items):Wg h (.ref t) { cls := .type "tuple_iterator",data := .fields #[.ref t,.int 0 0] }:=fun prog w A E s Q k q=>by
 obtain ⟨o,e,r⟩:=ht
 exact wpAny_pyIter_tuple (items:=items) ⟨o,k _ _ e,r⟩ q
theorem V2 {h:Heap} {t:Addr} {items:Array Value} (ht:h.IsList t items):Wg h (.ref t) { cls := .type "list_iterator",data := .fields #[.ref t,.int 0 0] }:=fun prog w A E s Q k q=>by
 obtain ⟨o,e,r⟩:=ht
 exact wpAny_pyIter_list (items:=items) ⟨o,k _ _ e,r⟩ q
theorem Ycc (v1 v2:Value) (o1 o2:Obj) :
  Meets (Builtin.«zip.__new__» ⟨[.type "zip",v1,v2],[]⟩) (fun _ R s=>Wg s.heap v1 o1∧Wg s.heap v2 o2∧R (.ok (.ret (.ref (zpO s.heap o1 o2).objs.size))) { s with heap:=zpZ s.heap o1 o2 }) :=
 .of_wp fun prog w A R s h=>by
  obtain ⟨hp,g,d,tk,os⟩:=s
  obtain ⟨h1,h2,h⟩:=h
  have hsub:=sub_zip
  have p1:∀ {A':Around} {E:Value→Shared→Prop} {Q:Value→Shared→Prop},Q (.ref hp.objs.size) ⟨hp.push o1,g,d,tk,os⟩→wpAny (model prog w) A' (pyIter v1) Q E ⟨hp,g,d,tk,os⟩:=fun q=>h1 prog w _ _ ⟨hp,g,d,tk,os⟩ _ (fun _ _ e=>e) q
  have p2:∀ {A':Around} {E:Value→Shared→Prop} {Q:Value→Shared→Prop},Q (.ref (hp.push o1).objs.size) ⟨(hp.push o1).push o2,g,d,tk,os⟩→wpAny (model prog w) A' (pyIter v2) Q E ⟨hp.push o1,g,d,tk,os⟩:=fun q=>h2 prog w _ _ ⟨hp.push o1,g,d,tk,os⟩ _ (fun _ _ e=>Heap.get?_push_of_some _ e) q
  wp_walk using p1,p2
  exact ⟨_,rfl,h⟩
section
variable {prog:Program} {w:World} {A:Around} {E:Value→Shared→Prop} {s:Shared}
theorem YcV {v1 v2:Value} {o1 o2:Obj} {Q:Value→Shared→Prop} (p1:Wg s.heap v1 o1) (p2:Wg s.heap v2 o2) (f1:o1.isFreed=false) (f2:o2.isFreed=false)
  (h:∀ h',IsZip h' (s.heap.objs.size+4) (s.heap.objs.size+2) (s.heap.objs.size+3) .none→IsPair h' (s.heap.objs.size+2) (.ref s.heap.objs.size) (.ref (s.heap.objs.size+1))→IsPair h' (s.heap.objs.size+3) .none .none →
   h'.get? s.heap.objs.size=some o1→h'.get? (s.heap.objs.size+1)=some o2→h'.objs.size=s.heap.objs.size+5→(∀ c o,s.heap.get? c=some o→h'.get? c=some o)→Q (.ref (s.heap.objs.size+4)) { s with heap:=h' }) :
  wpAny (model prog w) A (call (.type "zip") [v1,v2]) Q E s:=by
 refine callType_new F.called_zip (by decide) (F.typeCall_zip_2 _ _) (F.newCall_zip_2 _ _) (fun obj=>F.args_object_init_3 obj _ _) F.entry_zip_new (Ycc v1 v2 o1 o2) ⟨p1,p2,?_⟩
 have z1:(s.heap.push o1).objs.size=s.heap.objs.size+1:=Heap.size_push ..
 have z2:(zpH s.heap o1 o2).objs.size=s.heap.objs.size+2:=by rw [Heap.size_push,z1]
 have z3:(zpT s.heap o1 o2).objs.size=s.heap.objs.size+3:=by rw [Heap.size_push,z2]
 have z4:(zpO s.heap o1 o2).objs.size=s.heap.objs.size+4:=by rw [Heap.size_push,z3]
 have z5:(zpZ s.heap o1 o2).objs.size=s.heap.objs.size+5:=by rw [Heap.size_push,z4]
 have g5:(zpZ s.heap o1 o2).get? (zpO s.heap o1 o2).objs.size=some _:=Heap.get?_push_size _ rfl
 have g4:(zpZ s.heap o1 o2).get? (zpT s.heap o1 o2).objs.size=some _:=Heap.get?_push_of_some _ (Heap.get?_push_size _ rfl)
 have g3:(zpZ s.heap o1 o2).get? (zpH s.heap o1 o2).objs.size=some _:=Heap.get?_push_of_some _ (Heap.get?_push_of_some _ (Heap.get?_push_size _ rfl))
 have g2:(zpZ s.heap o1 o2).get? (s.heap.push o1).objs.size=some o2:=Heap.get?_push_of_some _ (Heap.get?_push_of_some _ (Heap.get?_push_of_some _ (Heap.get?_push_size _ f2)))
 have g1:(zpZ s.heap o1 o2).get? s.heap.objs.size=some o1:=Heap.get?_push_of_some _ (Heap.get?_push_of_some _ (Heap.get?_push_of_some _ (Heap.get?_push_of_some _ (Heap.get?_push_size _ f1))))
 show _∧_
 rw [z2,z3,z4] at g5
 rw [z1,z2] at g3
 rw [z3] at g4
 rw [z1] at g2
 rw [z4]
 exact ⟨⟨_,g5,rfl⟩,h _ g5 g3 g4 g1 g2 z5 fun c o x=>Heap.get?_push_of_some _ (Heap.get?_push_of_some _ (Heap.get?_push_of_some _ (Heap.get?_push_of_some _ (Heap.get?_push_of_some _ x))))⟩
end
section
variable {X:Cx} {pins:List (Addr×Obj)} {σ:St} {H:Hp} {s:Shared} {h':Heap}
theorem Inv.turnedL {t':Nat} {ch:List Addr} (I:Inv X pins σ H s) (k:∀ b o,b∉ch→s.heap.get? b=some o→h'.get? b=some o) (hf:∀ b∈ch,XB X pins H b):Inv X pins σ H { s with heap:=h',toks:=t' }:=by
 have nit:∀ b u,H b=some u→b∉ch:=fun b u e z=>by rw [(hf b z).1] at e;cases e
 refine I.step (g':=s.gens) (d':=s.drawn) (ch:=ch) (fun b hb=>?_) (fun b o _ _ hc e _=>k b o hc e) (fun b o _ _ hc e _=>⟨o.slots,k b o hc e⟩) (fun _ _ _ _ n=>n)
  (fun b o hc e=>⟨o,k b o hc e⟩) (fun _ _ e=>e) (fun _ _ _ e=>e) (fun b ps e=>⟨#[],by rw [e];simp⟩) (fun m hm=>?_) (fun b u e=>?_) I.bare
 ·obtain ⟨f0,f1,f2,f3,f4,f5⟩:=hf b hb
  exact ⟨f3,f1,f4,f5⟩
 ·obtain ⟨o,es,ep,ho,r⟩:=hm
  exact ⟨o,es,ep,k _ o (fun z=>(hf _ z).2.1 rfl) ho,r⟩
 ·refine (I.hok b u e).stay (fun c v hc q=>k c v ?_ q) (fun _ q=>q) fun _ _ q=>q
  rcases hc with z | z
  ·rw [z];exact nit b u e
  ·exact nit c _ z
theorem Inv.turnedT {t':Nat} {ch:List Addr} {T:Addr} {vs:List V} (I:Inv X pins σ H s) (k:∀ b o,b∉ch→s.heap.get? b=some o→h'.get? b=some o) (hf:∀ b∈ch,XB X pins H b) (hT:s.heap.objs.size≤T)
  (new:YT X.prog X.w (upd H T (.tup vs)) h' T (.tup vs)):Inv X pins σ (upd H T (.tup vs)) { s with heap:=h',toks:=t' }:=by
 have hn:H T=none:=I.hok.fresh hT
 have nit:∀ b u,H b=some u→b∉ch:=fun b u e z=>by rw [(hf b z).1] at e;cases e
 have nT:∀ b o,s.heap.get? b=some o→b≠T:=fun b o e z=>absurd (Heap.lt_size e) (by rw [z];exact Nat.not_lt.mpr hT)
 have up:∀ b u,H b=some u→upd H T (.tup vs) b=some u:=fun b u e=>by rw [Yt (YB e hn)];exact e
 refine I.step (g':=s.gens) (d':=s.drawn) (ch:=ch) (fun b hb=>?_) (fun b o _ _ hc e _=>k b o hc e) (fun b o _ _ hc e _=>⟨o.slots,k b o hc e⟩) (fun b o _ e n=>by rw [Yt (nT b o e)];exact n)
  (fun b o hc e=>⟨o,k b o hc e⟩) (fun b xs e=>up b _ e) (fun b o u e=>up b _ e) (fun b ps e=>⟨#[],by rw [up b _ e];simp⟩) (fun m hm=>?_) (fun b u e=>?_) I.bare
 ·obtain ⟨f0,f1,f2,f3,f4,f5⟩:=hf b hb
  exact ⟨f3,f1,f4,f5⟩
 ·obtain ⟨o,es,ep,ho,r⟩:=hm
  exact ⟨o,es,ep,k _ o (fun z=>(hf _ z).2.1 rfl) ho,r⟩
 ·by_cases hb:b=T
  ·subst hb;rw [Ye] at e;cases e;exact new
  ·rw [Yt hb] at e
   refine (I.hok b u e).stay (fun c v hc q=>k c v ?_ q) (fun c q=>up c _ q) fun c xs q=>up c _ q
   rcases hc with z | z
   ·rw [z];exact nit b u e
   ·exact nit c _ z
end
def Itz (G1 G2:Hp→List V→Prop):It :=
 ⟨fun i H=>∃ xs ys x y,G1 H xs∧G2 H ys∧xs[i]?=some x∧ys[i]?=some y,fun i H v H'=>∃ T,v = .ref T∧H T=none∧∀ xs ys x y,G1 H xs→G2 H ys→xs[i]?=some x→ys[i]?=some y→H'=upd H T (.tup [x,y]),
  fun i H=>∃ xs ys,G1 H xs∧G2 H ys∧(xs.length≤i∨ys.length≤i)⟩
structure Part (K:PySem.W.Frag) (G:Hp→List V→Prop) (Si:Addr→Nat→Heap→Prop) (R:Heap→(Nat→Option Value)→Prop) (own:Addr):Prop where
 sub:∀ (P:Program) (w:World) (i:Addr),Sub P w i (Si i) R
 ready:∀ (X:Cx),X.K=K→∀ (pins:List (Addr×Obj)) (σ:St) (H:Hp) (s:Shared) (xs:List V),Inv X pins σ H s→G H xs→∃ us:List Value,Yr xs us∧R s.heap (fun k=>us[k]?)
 inj:∀ (X:Cx),X.K=K→∀ (pins:List (Addr×Obj)) (σ:St) (H:Hp) (s:Shared) (xs ys:List V),Inv X pins σ H s→G H xs→G H ys→xs=ys
 keep:∀ h h' g,R h g→(∀ o,h.get? own=some o→h'.get? own=some o)→R h' g
theorem UR {K:PySem.W.Frag} (a:Addr):Part K (fun H xs=>SqT K H a xs) (fun i k h=>h.IsTupleIter i a k) (fun h get=>∃ items:Array Value,h.IsTuple a items∧∀ k,get k=items[k]?) a where
 sub:=fun P w i=>YcU i a
 ready:=fun X hK pins σ H s xs I hq=>by
  subst hK
  obtain ⟨its,r,ht,_⟩:=I.tuple hq
  exact ⟨its,r,its.toArray,ht,fun k=>by simp⟩
 inj:=fun X hK pins σ H s xs ys I h1 h2=>by subst hK;exact I.tuple_inj h1 h2
 keep:=fun h h' g ⟨items,⟨o,e,r⟩,q⟩ k=>⟨items,⟨o,k o e,r⟩,q⟩
theorem Qy {K:PySem.W.Frag} (a:Addr):Part K (fun H xs=>SqL K H a xs) (fun i k h=>h.IsListIter i a k) (fun h get=>∃ items:Array Value,h.IsList a items∧∀ k,get k=items[k]?) a where
 sub:=fun P w i=>YdT i a
 ready:=fun X hK pins σ H s xs I hq=>by
  subst hK
  obtain ⟨its,r,ht,_⟩:=I.list hq
  exact ⟨its,r,its.toArray,ht.isList,fun k=>by simp⟩
 inj:=fun X hK pins σ H s xs ys I h1 h2=>by subst hK;exact I.list_inj h1 h2
 keep:=fun h h' g ⟨items,⟨o,e,r⟩,q⟩ k=>⟨items,⟨o,k o e,r⟩,q⟩
theorem YdV {P:Program} {w:World} {K:PySem.W.Frag} {elts:List Expr} {kk:Nat} {pos:Pos} {G1 G2:Hp→List V→Prop} {S1 S2:Addr→Nat→Heap→Prop} {R1 R2:Heap→(Nat→Option Value)→Prop} {a1 a2:Addr}
  (p1:Part K G1 S1 R1 a1) (p2:Part K G2 S2 R2 a2) {z TI TO i1 i2:Addr} (D:ZApart z TI TO i1 i2) (n1:a1∉[z,TO,i1,i2]) (n2:a2∉[z,TO,i1,i2]) :
  Turn P w K (.Tuple elts kk pos) (Itz G1 G2) [z,TI,TO,i1,i2] z (fun i h=>IsZip h z TI TO .none∧IsPair h TI (.ref i1) (.ref i2)∧(∃ a b,IsPair h TO a b)∧S1 i1 i h∧S2 i2 i h) where
 mem:=by simp
 obj:=fun i h ⟨hz,hTI,⟨a,b,hTO⟩,h1,h2⟩ c hc=>by
  simp only [List.mem_cons,List.not_mem_nil,or_false] at hc
  rcases hc with rfl | rfl | rfl | rfl | rfl
  ·exact ⟨_,hz,fun v e=>by cases e⟩
  ·exact ⟨_,hTI,fun v e=>by cases e⟩
  ·exact ⟨_,hTO,fun v e=>by cases e⟩
  ·exact (p1.sub P w _).obj _ _ h1
  ·exact (p2.sub P w _).obj _ _ h2
 keep:=fun i h h' ⟨hz,hTI,⟨a,b,hTO⟩,h1,h2⟩ q =>
  ⟨q z (by simp) _ hz,q TI (by simp) _ hTI,⟨a,b,q TO (by simp) _ hTO⟩,(p1.sub P w i1).keep _ _ _ h1 (q i1 (by simp)),(p2.sub P w i2).keep _ _ _ h2 (q i2 (by simp))⟩
 item:=by
  intro X hP hw hK hc i pins s σ H E I hf ⟨hz,hTI,⟨a,b,hTO⟩,h1,h2⟩ hg
  subst hP hw
  obtain ⟨xs,ys,x,y,g1,g2,hx,hy⟩:=hg
  obtain ⟨us1,r1,rd1⟩:=p1.ready X hK pins σ H s xs I g1
  obtain ⟨us2,r2,rd2⟩:=p2.ready X hK pins σ H s ys I g2
  obtain ⟨u,hu,ru⟩:=r1.get hx
  obtain ⟨v,hv,rv⟩:=r2.get hy
  have out:∀ c,c≠z→c≠TO→c≠i1→c≠i2→c∉[z,TO,i1,i2]:=fun c c1 c2 c3 c4 hm=>by
   simp only [List.mem_cons,List.not_mem_nil,or_false] at hm
   rcases hm with e | e | e | e<;>contradiction
  have sep:∀ {c:Addr},c∉[z,TO,i1,i2]→c≠z∧c≠TO∧c≠i1∧c≠i2:=fun hm=>⟨fun e=>hm (by simp [e]),fun e=>hm (by simp [e]),fun e=>hm (by simp [e]),fun e=>hm (by simp [e])⟩
  obtain ⟨m1,m2,m3,m4⟩:=sep n1
  obtain ⟨m5,m6,m7,m8⟩:=sep n2
  refine YdU (k:=i) D (p1.sub _ _ i1) (p2.sub _ _ i2) (fun h h' g r q=>p1.keep _ _ _ r fun o e=>q a1 o m1 m2 m3 m4 e) (fun h h' g r q=>p2.keep _ _ _ r fun o e=>q a2 o m5 m6 m7 m8 e) hz hTI hTO h1 h2 rd1 rd2 hu hv fun h' tk hz' hTO' h1' h2' hT' hsz keep=>?_
  refine ⟨_,rfl,?_⟩
  refine wpAny_letOwnedTupleGo_zip (s:={ s with heap:=h',toks:=tk }) hz' fun h'' hz'' sb=>?_
  have zlt:z<s.heap.objs.size:=Heap.lt_size hz
  have kp:∀ c o,c∉[z,TO,i1,i2]→s.heap.get? c=some o→h''.get? c=some o:=fun c o hm e=>by
   obtain ⟨c1,c2,c3,c4⟩:=sep hm
   exact sb.extBut c o c1 (keep c o c1 c2 c3 c4 e)
  have hT'':IsPair h'' s.heap.objs.size u v:=sb.extBut _ _ (Nat.ne_of_gt zlt) hT'
  have fp4:∀ c∈[z,TO,i1,i2],XB X pins H c:=fun c hm=>hf c (by
   simp only [List.mem_cons,List.not_mem_nil,or_false] at hm ⊢
   rcases hm with e | e | e | e<;>simp [e])
  have I':=I.turnedT (t':=tk) (h':=h'') (T:=s.heap.objs.size) (vs:=[x,y]) kp fp4 (Nat.le_refl _) (show YT X.prog X.w _ h'' _ (.tup [x,y]) from ⟨by show 2≤sizeLine;decide,[u,v],.cons ru (.cons rv .nil),_,hT'',rfl,_,rfl⟩)
  have fresh:H s.heap.objs.size=none:=I.hok.fresh (Nat.le_refl _)
  refine ⟨.ref s.heap.objs.size,_,I',rfl,⟨_,rfl,fresh,fun xs' ys' x' y' g1' g2' hx' hy'=>?_⟩,⟨hz'',sb.extBut _ _ D.a (keep _ _ D.a D.e D.f D.g hTI),⟨_,_,sb.extBut _ _ D.b hTO'⟩,(p1.sub X.prog X.w i1).keep _ _ _ h1' fun o e=>sb.extBut _ _ D.c e,(p2.sub X.prog X.w i2).keep _ _ _ h2' fun o e=>sb.extBut _ _ D.d e⟩,fun c hm=>?_⟩
  ·rw [p1.inj X hK pins σ H s _ _ I g1' g1,hx] at hx'
   rw [p2.inj X hK pins σ H s _ _ I g2' g2,hy] at hy'
   cases hx'
   cases hy'
   rfl
  ·have h0:=(hf c hm).1
   have clt:c<s.heap.objs.size:=by
    simp only [List.mem_cons,List.not_mem_nil,or_false] at hm
    rcases hm with rfl | rfl | rfl | rfl | rfl
    ·exact zlt
    ·exact Heap.lt_size hTI
    ·exact Heap.lt_size hTO
    ·obtain ⟨o,e,_⟩:=(p1.sub X.prog X.w _).obj _ _ h1;exact Heap.lt_size e
    ·obtain ⟨o,e,_⟩:=(p2.sub X.prog X.w _).obj _ _ h2;exact Heap.lt_size e
   rw [Yt (Nat.ne_of_lt clt)]
   exact h0
 done:=by
  intro X hP hw hK hc i pins s σ H E I hf ⟨hz,hTI,⟨a,b,hTO⟩,h1,h2⟩ hg
  subst hP hw
  obtain ⟨xs,ys,g1,g2,hend⟩:=hg
  obtain ⟨us1,r1,rd1⟩:=p1.ready X hK pins σ H s xs I g1
  obtain ⟨us2,r2,rd2⟩:=p2.ready X hK pins σ H s ys I g2
  have sep:∀ {c:Addr},c∉[z,TO,i1,i2]→c≠z∧c≠TO∧c≠i1∧c≠i2:=fun hm=>⟨fun e=>hm (by simp [e]),fun e=>hm (by simp [e]),fun e=>hm (by simp [e]),fun e=>hm (by simp [e])⟩
  obtain ⟨m1,m2,m3,m4⟩:=sep n1
  obtain ⟨m5,m6,m7,m8⟩:=sep n2
  have l1:=r1.length
  have l2:=r2.length
  refine Ye3 (k:=i) (I.ok.hd hc) D (p1.sub _ _ i1) (p2.sub _ _ i2) (fun h h' g r q=>p1.keep _ _ _ r fun o e=>q a1 o m1 m2 m3 m4 e) (fun h h' g r q=>p2.keep _ _ _ r fun o e=>q a2 o m5 m6 m7 m8 e) hz hTI hTO h1 h2 rd1 rd2 ?_ fun h' tk keep=>?_
  ·rcases hend with e | e
   ·exact .inl (by simp;omega)
   ·exact .inr (by simp;omega)
  ·refine ⟨rfl,I.turnedL (ch:=[z,TO,i1,i2]) (fun c o hm e=>?_) fun c hm=>hf c (by
    simp only [List.mem_cons,List.not_mem_nil,or_false] at hm ⊢
    rcases hm with e | e | e | e<;>simp [e])⟩
   obtain ⟨c1,c2,c3,c4⟩:=sep hm
   exact keep c o c1 c2 c3 c4 e
 self:=fun A i s Q E ⟨hz,_⟩ q=>wpAny_pyIter_zip hz q
end L2
namespace L2
open PySem PySem.Spec PyProof.Rows
section
variable {X:Cx} {elts:List Expr} {kk:Nat} {tpos:Pos}
theorem Ycd (n:Nat):ZApart (n+4) (n+2) (n+3) n (n+1):=by
 constructor<;>(intro e;have e':@Eq Nat _ _:=e;omega)
def Yew (K:PySem.W.Frag) (ta:TA):TI:=fun σ H R=>ta σ H fun vs H1=>∃ a b xs ys,vs=[.ref a,.ref b]∧SqT K H1 a xs∧SqT K H1 b ys∧R (Itz (fun H xs=>SqT K H a xs) (fun H ys=>SqT K H b ys)) H1
def Yex (K:PySem.W.Frag) (ta:TA):TI:=fun σ H R=>ta σ H fun vs H1=>∃ a b xs ys,vs=[.ref a,.ref b]∧SqL K H1 a xs∧SqL K H1 b ys∧R (Itz (fun H xs=>SqL K H a xs) (fun H ys=>SqL K H b ys)) H1
theorem Ybs {pins:List (Addr×Obj)} {σ:St} {H:Hp} {s:Shared} {R:It→Hp→Prop} {E:Value→Shared→Prop} {G1 G2:Hp→List V→Prop} {S1 S2:Addr→Nat→Heap→Prop} {R1 R2:Heap→(Nat→Option Value)→Prop} {a b:Addr} {o1 o2:Obj}
  (I:Inv X pins σ H s) (p1:Part X.K G1 S1 R1 a) (p2:Part X.K G2 S2 R2 b) (t1:Wg s.heap (.ref a) o1) (t2:Wg s.heap (.ref b) o2) (f1:o1.isFreed=false) (f2:o2.isFreed=false) (la:a<s.heap.objs.size) (lb:b<s.heap.objs.size)
  (s1:∀ h i,h.get? i=some o1→S1 i 0 h) (s2:∀ h i,h.get? i=some o2→S2 i 0 h) (q:R (Itz G1 G2) H) :
  wpAny (model X.prog X.w) X.A (call (.type "zip") [.ref a,.ref b]) (fun v s1=>wpAny (model X.prog X.w) X.A (pyIter v) (PIE X pins σ (.Tuple elts kk tpos) R) E s1) E s:=by
 refine YcV t1 t2 f1 f2 fun h' hz hTI hTO g1 g2 hsz keep=>?_
 refine wpAny_pyIter_zip hz ?_
 have I1:Inv X pins σ H { s with heap:=h' }:=I.kept (t':=s.toks) keep
 refine ⟨_,[s.heap.objs.size+4,s.heap.objs.size+2,s.heap.objs.size+3,s.heap.objs.size,s.heap.objs.size+1],_,_,H,rfl,I1,YdV (K:=X.K) p1 p2 (Ycd s.heap.objs.size) ?_ ?_,⟨hz,hTI,⟨_,_,hTO⟩,s1 _ _ g1,s2 _ _ g2⟩,fun c hc=>?_,q⟩
 ·intro hm
  simp only [List.mem_cons,List.not_mem_nil,or_false] at hm
  rcases hm with e | e | e | e<;>(have e':@Eq Nat _ _:=e;have la':@LT.lt Nat _ a s.heap.objs.size:=la;have lb':@LT.lt Nat _ b s.heap.objs.size:=lb;omega)
 ·intro hm
  simp only [List.mem_cons,List.not_mem_nil,or_false] at hm
  rcases hm with e | e | e | e<;>(have e':@Eq Nat _ _:=e;have la':@LT.lt Nat _ a s.heap.objs.size:=la;have lb':@LT.lt Nat _ b s.heap.objs.size:=lb;omega)
 ·have hle:s.heap.objs.size≤c:=by
   simp only [List.mem_cons,List.not_mem_nil,or_false] at hc
   rcases hc with e | e | e | e | e<;>(have e':@Eq Nat _ _:=e;show @LE.le Nat _ s.heap.objs.size c;omega)
  exact I.fpOk hle (I.hok.fresh hle)
theorem Ye4 {a b:Expr} {ta:TA} {p pos:Pos} (hg:Gl X "zip") (hm:X.mg "zip"=none) (ha:PA X [a,b] ta) (hs:starEach [a,b] X.env=[(false,eval a X.env),(false,eval b X.env)]) (hs2:starEach [b] X.env=[(false,eval b X.env)]) :
  PI X (.Tuple elts kk tpos) (.Call (.Name "zip" p) [a,b] [] pos) (Yew X.K ta):=by
 intro pins s σ H R I h
 refine Call_ (Va I hg hm boot_zip (PyProof.Rows.callWith_type1 (thn (ha pos pins s σ H _ I h) fun us s1 ⟨vs,H1,I1,r1,q1⟩=>?_) (by rw [hs,hs2]) (by rw [hs2];rfl)))
 obtain ⟨x,y,xs,ys,e,hx,hy,q⟩:=q1
 subst e
 obtain ⟨u,v,rfl,ru,rv⟩:=r1.two
 cases ru
 cases rv
 obtain ⟨i1,_,ht1,_⟩:=I1.tuple hx
 obtain ⟨i2,_,ht2,_⟩:=I1.tuple hy
 have l1:x<s1.heap.objs.size:=by obtain ⟨_,e,_⟩:=ht1;exact Heap.lt_size e
 have l2:y<s1.heap.objs.size:=by obtain ⟨_,e,_⟩:=ht2;exact Heap.lt_size e
 exact Ybs I1 (UR x) (UR y) (VQ ht1) (VQ ht2) rfl rfl l1 l2 (fun h i e=>⟨_,e,rfl,rfl⟩) (fun h i e=>⟨_,e,rfl,rfl⟩) q
theorem Ye5 {a b:Expr} {ta:TA} {p pos:Pos} (hg:Gl X "zip") (hm:X.mg "zip"=none) (ha:PA X [a,b] ta) (hs:starEach [a,b] X.env=[(false,eval a X.env),(false,eval b X.env)]) (hs2:starEach [b] X.env=[(false,eval b X.env)]) :
  PI X (.Tuple elts kk tpos) (.Call (.Name "zip" p) [a,b] [] pos) (Yex X.K ta):=by
 intro pins s σ H R I h
 refine Call_ (Va I hg hm boot_zip (PyProof.Rows.callWith_type1 (thn (ha pos pins s σ H _ I h) fun us s1 ⟨vs,H1,I1,r1,q1⟩=>?_) (by rw [hs,hs2]) (by rw [hs2];rfl)))
 obtain ⟨x,y,xs,ys,e,hx,hy,q⟩:=q1
 subst e
 obtain ⟨u,v,rfl,ru,rv⟩:=r1.two
 cases ru
 cases rv
 obtain ⟨i1,_,ht1,_⟩:=I1.list hx
 obtain ⟨i2,_,ht2,_⟩:=I1.list hy
 have l1:x<s1.heap.objs.size:=by obtain ⟨_,e,_⟩:=ht1.isList;exact Heap.lt_size e
 have l2:y<s1.heap.objs.size:=by obtain ⟨_,e,_⟩:=ht2.isList;exact Heap.lt_size e
 exact Ybs I1 (Qy x) (Qy y) (V2 ht1.isList) (V2 ht2.isList) rfl rfl l1 l2 (fun h i e=>⟨_,e,rfl,rfl⟩) (fun h i e=>⟨_,e,rfl,rfl⟩) q
theorem YfU {J:It} {P:Hp→Prop} {n:Nat} (hgo:∀ i H,P H→i<n→J.go i H) (hstop:∀ H,P H→J.stop n H) {src:List (Option Nat)} {g:TG} {tt:TT} {te:TE} {σ:St} {H1:Hp} {Q:VK} {D:Addr} (Pv:Nat→List V→St→Hp→Prop)
  (h0:Pv 0 [] (YD src σ) (upd H1 D (.lst []))) (hP:∀ i ys σ' H',Pv i ys σ' H'→P H'∧H' D=some (.lst ys))
  (step:∀ i ys σ' H',i<n→Pv i ys σ' H'→∀ x H3,J.yld i H' x H3→g x σ' H3 fun σ2 H4=>tt σ2 H4 fun b H5=>if b=true then te σ2 H5 fun y H6=>H6 D=some (.lst ys)∧ys.length<sizeLine∧Pv (i+1) (ys++[y]) σ2 (upd H6 D (.lst (ys++[y]))) else Pv (i+1) ys σ2 H5)
  (fin:∀ ys σ' H',Pv n ys σ' H'→Q (.ref D) H') :
  LC src J g tt te σ H1 Q D:=by
 refine ⟨fun i m ys σ' H'=>m=n - i∧i≤n∧Pv i ys σ' H',⟨n,by simp,Nat.zero_le _,h0⟩,?_⟩
 rintro i m ys σ' H2 ⟨rfl,hi,p⟩
 obtain ⟨hp,hD⟩:=hP i ys σ' H2 p
 refine ⟨hD,?_⟩
 by_cases hlt:i<n
 ·refine .inr ⟨hgo i H2 hp hlt,fun ys' σ3 H3=>Pv (i+1) ys' σ3 H3,fun ys' σ3 H3 p'=>⟨n - (i+1),by omega,rfl,hlt,p'⟩,fun x H3 y=>step i ys σ' H2 hlt p x H3 y⟩
 ·have e:i=n:=by omega
  subst e
  exact .inl ⟨hstop H2 hp,fin ys σ' H2 p⟩
theorem US {J:It} {P:Hp→Prop} {xs:List V} (hJ:X7 J P xs) {src:List (Option Nat)} {g:TG} {te:TE} {σ:St} {H1:Hp} {Q:VK} {D:Addr} (Pv:Nat→List V→St→Hp→Prop)
  (h0:Pv 0 [] (YD src σ) (upd H1 D (.lst []))) (hP:∀ i ys σ' H',Pv i ys σ' H'→P H'∧H' D=some (.lst ys))
  (mono:∀ x σ H Q Q',(∀ σ' H',Q σ' H'→Q' σ' H')→g x σ H Q→g x σ H Q')
  (step:∀ i ys σ' H' x,xs[i]?=some x→Pv i ys σ' H'→g x σ' H' fun σ2 H4=>te σ2 H4 fun y H6=>H6 D=some (.lst ys)∧ys.length<sizeLine∧Pv (i+1) (ys++[y]) σ2 (upd H6 D (.lst (ys++[y]))))
  (fin:∀ ys σ' H',Pv xs.length ys σ' H'→Q (.ref D) H'):LC src J g XS te σ H1 Q D :=
 Ycb hJ Pv h0 hP (fun i ys σ' H' x hx p=>by
  refine mono _ _ _ _ _ ?_ (step i ys σ' H' x hx p)
  intro σ2 H4 q
  unfold XS
  dsimp only
  rw [if_pos rfl]
  exact q) fin
theorem Vz (i:Nat):∀ x σ H Q Q',(∀ σ' H',Q σ' H'→Q' σ' H')→Ys i x σ H Q→Ys i x σ H Q':=fun _ _ _ _ _ h q=>h _ _ q
theorem YcW {J:It} {P:Hp→Prop} {n:Nat} (hgo:∀ i H,P H→i<n→J.go i H) (hstop:∀ H,P H→J.stop n H) {src:List (Option Nat)} {g:TG} {te:TE} {σ:St} {H1:Hp} {Q:VK} {D:Addr} (Pv:Nat→List V→St→Hp→Prop)
  (h0:Pv 0 [] (YD src σ) (upd H1 D (.lst []))) (hP:∀ i ys σ' H',Pv i ys σ' H'→P H'∧H' D=some (.lst ys))
  (mono:∀ x σ H Q Q',(∀ σ' H',Q σ' H'→Q' σ' H')→g x σ H Q→g x σ H Q')
  (step:∀ i ys σ' H',i<n→Pv i ys σ' H'→∀ x H3,J.yld i H' x H3→g x σ' H3 fun σ2 H4=>te σ2 H4 fun y H6=>H6 D=some (.lst ys)∧ys.length<sizeLine∧Pv (i+1) (ys++[y]) σ2 (upd H6 D (.lst (ys++[y]))))
  (fin:∀ ys σ' H',Pv n ys σ' H'→Q (.ref D) H'):LC src J g XS te σ H1 Q D :=
 YfU hgo hstop Pv h0 hP (fun i ys σ' H' hi p x H3 y=>by
  refine mono _ _ _ _ _ ?_ (step i ys σ' H' hi p x H3 y)
  intro σ2 H4 q
  unfold XS
  dsimp only
  rw [if_pos rfl]
  exact q) fin
theorem Ye6 {J:It} {P:Hp→Prop} {n:Nat} (hgo:∀ i H,P H→i<n→J.go i H) (hstop:∀ H,P H→J.stop n H) {g:TG} {tb:TS} {D:Ends} {σ:St} {H:Hp} (Pv:Nat→St→Hp→Prop) (h0:Pv 0 σ H) (hP:∀ i σ H,Pv i σ H→P H)
  (hs:∀ i σ H,i<n→Pv i σ H→∀ x H',J.yld i H x H'→g x σ H' fun σ2 H2=>tb { D with nx:=Pv (i+1),ct:=Pv (i+1),bk:=D.nx } σ2 H2) (hd:∀ σ H,Pv n σ H→D.nx σ H) :
  ∃ W:Nat→Nat→St→Hp→Prop,(∃ m,W 0 m σ H)∧∀ i m σ H,W i m σ H →
   (J.stop i H∧D.nx σ H)∨(J.go i H∧∃ N:St→Hp→Prop,(∀ σ' H',N σ' H'→∃ m',m'<m∧W (i+1) m' σ' H')∧∀ x H',J.yld i H x H'→g x σ H' fun σ2 H2=>tb { D with nx:=N,ct:=N,bk:=D.nx } σ2 H2):=by
 refine ⟨fun i m σ H=>m=n - i∧i≤n∧Pv i σ H,⟨n,by simp,Nat.zero_le _,h0⟩,?_⟩
 rintro i m σ H ⟨rfl,hi,p⟩
 have q:=hP i σ H p
 by_cases hlt:i<n
 ·exact .inr ⟨hgo i H q hlt,Pv (i+1),fun σ' H' p'=>⟨n - (i+1),by omega,rfl,hlt,p'⟩,fun x H' y=>hs i σ H hlt p x H' y⟩
 ·have e:i=n:=by omega
  subst e
  exact .inl ⟨hstop H q,hd σ H p⟩
theorem Ye7 {z:Str} {g:TG} {tb:TS} {D:Ends} {σ:St} {H:Hp} (Pv:Nat→St→Hp→Prop) (h0:Pv 0 σ H)
  (hs:∀ i c σ H,z.cps.toList[i]?=some c→Pv i σ H→g (.str ⟨#[c]⟩) σ H fun σ2 H2=>tb { D with nx:=Pv (i+1),ct:=Pv (i+1),bk:=D.nx } σ2 H2) (hd:∀ σ H,Pv z.cps.toList.length σ H→D.nx σ H) :
  ∃ W:Nat→Nat→St→Hp→Prop,(∃ m,W 0 m σ H)∧∀ i m σ H,W i m σ H →
   ((Its z).stop i H∧D.nx σ H)∨((Its z).go i H∧∃ N:St→Hp→Prop,(∀ σ' H',N σ' H'→∃ m',m'<m∧W (i+1) m' σ' H')∧∀ x H',(Its z).yld i H x H'→g x σ H' fun σ2 H2=>tb { D with nx:=N,ct:=N,bk:=D.nx } σ2 H2) :=
 Ye6 (P:=fun _=>True) (n:=z.cps.toList.length) (fun i H _ hi=>by show i<z.cps.size;simpa using hi) (fun H _=>by show z.cps.size≤_;simp) Pv h0 (fun _ _ _ _=>trivial)
  (fun i σ H hi p x H' y=>by
   obtain ⟨e,c,hc,e2⟩:=y
   subst e e2
   exact hs i c σ _ hc p) hd
end
end L2
namespace L2
open PySem PySem.Spec PyProof.Rows
structure Gx where
 P:Program
 w:World
 K:PySem.W.Frag
 mg:Str→Option Value
 base:Heap
def Cx.gx (X:Cx):Gx:=⟨X.prog,X.w,X.K,X.mg,X.base⟩
def Gx.Raw (g:Gx) (x qual:Str) (st:Stmt) (ps:List Str):Prop:=∃ f fd,Fun g.K x qual st f fd∧Xr g.K fd ps []∧g.mg x=some (.ref f)
def Gx.Fn (g:Gx) (k:Nat) (x:Str) (ps:List Str) (sp:Sp):Prop:=∃ f fd,FnOk g.P g.w g.K g.mg g.base CX0 k f fd ps sp∧Xr g.K fd ps []∧PySem.W.keepIn g.K (.ref f)=true∧g.mg x=some (.ref f)
def Gx.RawM (g:Gx) (C:Addr) (m qual:Str) (st:Stmt) (ps:List Str):Prop:=∃ f fd,Fun g.K m qual st f fd∧Xr g.K fd ps []∧Meth g.K C m f
def Gx.Me (g:Gx) (k:Nat) (C:Addr) (m:Str) (ps:List Str) (sp:Sp):Prop:=∃ f fd,FnOk g.P g.w g.K g.mg g.base CX0 k f fd ps sp∧Xr g.K fd ps []∧Meth g.K C m f
def Gx.RawI (g:Gx) (x:Str) (C:Addr) (qual:Str) (st:Stmt) (ps:List Str):Prop:=∃ f fd,Fun g.K "__init__" qual st f fd∧Xr g.K fd ps []∧Mk g.K C f∧g.mg x=some (.ref C)
def Gx.Ma (g:Gx) (k:Nat) (x:Str) (C:Addr) (ps:List Str) (sp:Sp):Prop:=∃ f fd,FnOk g.P g.w g.K g.mg g.base CX0 k f fd ps sp∧Xr g.K fd ps []∧Mk g.K C f∧g.mg x=some (.ref C)
def Gx.Con (g:Gx) (x:Str) (v:V):Prop:=∃ u,g.mg x=some u∧YA v u
abbrev Gx.cx (g:Gx) (N:List Str) (qual:Str) (st:Stmt) (f:Addr) (cdv:Value) (A:Around) (outer:List Env) (s:Shared) (H:Hp) (E:XK):Cx:=(Vv CX0 g.P g.w g.K g.mg g.base N qual (Yh st) f cdv A outer s H E).nox
def Qd (g:Gx) (k:Nat) (N:List Str) (qual:Str) (st:Stmt) (sp:Sp):Prop:=∀ (f:Addr) (cdv:Value) (A:Around) (outer:List Env) (s:Shared) (H:Hp) (vs:List V) (Q:VK) (E:XK),Room k (g.cx N qual st f cdv A outer s H E).A→sp vs H Q E →
 ∃ t,PSs (g.cx N qual st f cdv A outer s H E) (Xd st) t∧t { nx:=fun _ H'=>Q .non H',rt:=Q } (Wl N vs) H
section
variable {g:Gx} {k:Nat} {x qual m:Str} {st:Stmt} {N ps:List Str} {sp:Sp} {C:Addr}
theorem Gx.Raw.fn (R:g.Raw x qual st ps) (S:FnScope N ps (Yh st)) (len:∀ vs H Q E,sp vs H Q E→vs.length=ps.length) (b:Qd g k N qual st sp):g.Fn (k+1) x ps sp:=by
 obtain ⟨f,fd,F,bd,hm⟩:=R
 exact ⟨f,fd,F.ok S len fun cdv A outer s H vs Q E hr h=>b f cdv A outer s H vs Q E hr h,bd,F.kp,hm⟩
theorem Gx.RawM.me (R:g.RawM C m qual st ps) (S:FnScope N ps (Yh st)) (len:∀ vs H Q E,sp vs H Q E→vs.length=ps.length) (b:Qd g k N qual st sp):g.Me (k+1) C m ps sp:=by
 obtain ⟨f,fd,F,bd,hm⟩:=R
 exact ⟨f,fd,F.ok S len fun cdv A outer s H vs Q E hr h=>b f cdv A outer s H vs Q E hr h,bd,hm⟩
theorem Gx.RawI.ma (R:g.RawI x C qual st ps) (S:FnScope N ps (Yh st)) (len:∀ vs H Q E,sp vs H Q E→vs.length=ps.length) (b:Qd g k N qual st sp):g.Ma (k+1) x C ps sp:=by
 obtain ⟨f,fd,F,bd,hm,hg⟩:=R
 exact ⟨f,fd,F.ok S len fun cdv A outer s H vs Q E hr h=>b f cdv A outer s H vs Q E hr h,bd,hm,hg⟩
theorem Gx.Fn.mono {j:Nat} (F:g.Fn j x ps sp) (h:j≤k):g.Fn k x ps sp:=by
 obtain ⟨f,fd,F,r⟩:=F
 exact ⟨f,fd,F.mono h,r⟩
theorem Gx.Me.mono {j:Nat} (F:g.Me j C m ps sp) (h:j≤k):g.Me k C m ps sp:=by
 obtain ⟨f,fd,F,r⟩:=F
 exact ⟨f,fd,F.mono h,r⟩
theorem Gx.Raw.none (R:g.Raw x qual st ps) (no:∀ vs H Q E,¬ sp vs H Q E):g.Fn k x ps sp:=by
 obtain ⟨f,fd,F,bd,hm⟩:=R
 exact ⟨f,fd,⟨fun vs H Q E h=>absurd h (no vs H Q E),fun A outer s H args us vs Q E _ _ _ _ h=>absurd h (no vs H Q E)⟩,bd,F.kp,hm⟩
theorem Gx.RawM.none (R:g.RawM C m qual st ps) (no:∀ vs H Q E,¬ sp vs H Q E):g.Me k C m ps sp:=by
 obtain ⟨f,fd,F,bd,hm⟩:=R
 exact ⟨f,fd,⟨fun vs H Q E h=>absurd h (no vs H Q E),fun A outer s H args us vs Q E _ _ _ _ h=>absurd h (no vs H Q E)⟩,bd,hm⟩
end
section
variable {g:Gx} {X:Cx} {k j:Nat} {x m:Str} {ps:List Str} {sp:Sp} {C:Addr} {e o:Expr} {es:List Expr} {t:TA} {ta:TE} {p pos apos:Pos}
theorem YE (F:g.Fn j x ps sp) (hr:Room k X.A) (ha:PA X (e::es) t) (hj:j≤k:=by omega) (hX:X.gx=g:=by rfl) (hg:Gl X x:=by rfl) (hdb:(x==("__debug__":Str))=false:=by decide)
  (he:starEach (e::es) X.env=(false,eval e X.env)::starEach es X.env:=by rfl) (hpl:(backTo pos (starEach es X.env)).any (·.1)=false:=by rfl):PE X (.Call (.Name x p) (e::es) [] pos) (QU sp [] E0 t):=by
 subst hX
 obtain ⟨f,fd,F,b,kp,hm⟩:=F
 exact Ybn F (hr.mono hj) hg hm kp b .nil QV ha hdb he hpl
theorem UT {pl:Sem Bool} (F:g.Me j C m ps sp) (c:Cls g.K C) (hr:Room k X.A) (ho:PE X o ta) (ha:PA X (e::es) t) (hj:j≤k) (hX:X.gx=g)
  (hst:starEach (e::es) X.env=(false,eval e X.env)::starEach es X.env) (hpl:(backTo pos (starEach es X.env)).any (·.1)=false)
  (ht:eval (.Call (.Attribute o m apos) (e::es) [] pos) X.env=(do
   let ov ← eval o X.env
   standAt apos.atName
   let (f,first) ← holding [ov] (getMethod ov m pl)
   callWith pos f first (backTo pos (starEach (e::es) X.env)) (backToKw pos (keywordEach [] X.env)))):PE X (.Call (.Attribute o m apos) (e::es) [] pos) (Ul C m sp [] E0 ta t):=by
 subst hX
 obtain ⟨f,fd,F,b,hm⟩:=F
 exact YeY ho c hm F (hr.mono hj) b .nil QV ha hst hpl ht
theorem V3 {pl:Sem Bool} (F:g.Me j C m ps sp) (c:Cls g.K C) (hr:Room k X.A) (ho:PE X o ta) (hj:j≤k:=by omega) (hX:X.gx=g:=by rfl)
  (ht:eval (.Call (.Attribute o m apos) [] [] pos) X.env=(do
   let ov ← eval o X.env
   standAt apos.atName
   let (f,first) ← holding [ov] (getMethod ov m pl)
   callWith pos f first (backTo pos (starEach [] X.env)) (backToKw pos (keywordEach [] X.env))):=by rfl):PE X (.Call (.Attribute o m apos) [] [] pos) (Ul C m sp [] E0 ta Q8):=by
 subst hX
 obtain ⟨f,fd,F,b,hm⟩:=F
 exact Yaa ho c hm F (hr.mono hj) b .nil QV ht
theorem pe_ma (F:g.Ma j x C ps sp) (hr:Room k X.A) (ha:PA X (e::es) t) (hj:j+1≤k) (hX:X.gx=g) (hg:Gl X x) (hdb:(x==("__debug__":Str))=false)
  (he:starEach (e::es) X.env=(false,eval e X.env)::starEach es X.env) (hpl:(backTo pos (starEach es X.env)).any (·.1)=false):PE X (.Call (.Name x p) (e::es) [] pos) (Yb8 C sp [] E0 t):=by
 subst hX
 obtain ⟨f,fd,F,b,M,hm⟩:=F
 exact YeZ M F (hr.mono hj) hg hm b .nil QV ha hdb he hpl
theorem WI {v:V} (F:g.Con x v) (hX:X.gx=g:=by rfl) (hg:Gl X x:=by rfl) (hd:(x==("__debug__":Str))=false:=by decide):PE X (.Name x pos) (tC v):=by
 subst hX
 obtain ⟨u,hm,r⟩:=F
 exact U9 hg hm r hd
theorem YL {id:String} {r:List V→Hp→VK→Prop} (hm:g.mg x=none) (hc:Xh X (.builtin id) r) (ha:PA X (e::es) t) (hv:bootBuiltins x=some (.builtin id):=by decide +kernel) (hX:X.gx=g:=by rfl) (hg:Gl X x:=by rfl) (hn:x≠"__name__":=by decide) (hdb:(x==("__debug__":Str))=false:=by decide)
  (he:starEach (e::es) X.env=(false,eval e X.env)::starEach es X.env:=by rfl) (hpl:(backTo pos (starEach es X.env)).any (·.1)=false:=by rfl):PE X (.Call (.Name x p) (e::es) [] pos) (tCB r t):=by
 subst hX
 exact YdN hc hg hm hv ha hn hdb he hpl
theorem Xy {T:String} {r:List V→Hp→VK→Prop} (hm:g.mg x=none) (hc:Xh X (.type T) r) (ha:PA X (e::es) t) (hv:bootBuiltins x=some (.type T)) (hX:X.gx=g) (hg:Gl X x) (hn:x≠"__name__") (hdb:(x==("__debug__":Str))=false)
  (he:starEach (e::es) X.env=(false,eval e X.env)::starEach es X.env) (hpl:(backTo pos (starEach es X.env)).any (·.1)=false):PE X (.Call (.Name x p) (e::es) [] pos) (tCB r t):=by
 subst hX
 exact YcP hc hg hm hv ha hn hdb he hpl
theorem Xt {T:String} (hm:g.mg x=none) (hv:bootBuiltins x=some (.type T)) (hX:X.gx=g) (hg:Gl X x) (hn:x≠"__name__") (hdb:(x==("__debug__":Str))=false):PE X (.Name x pos) (tC (.ty T)):=by
 subst hX
 exact YeS hg hm hv rfl hn hdb
end
theorem YfV {H:Hp} {p:Addr} {o:HO} (h:H p=some o):upd H p o=H:=by
 funext b
 unfold upd
 split
 ·rename_i e;rw [e,h]
 ·rfl
def S (l:List Nat):Str:=⟨l.toArray⟩
theorem YV (l:List Nat):(S l).cps.toList=l:=by simp [S]
theorem Yw (l:List Nat):(S l).length=l.length:=by simp [S,Str.length]
theorem Yy (a b:List Nat):S a++S b=S (a++b):=by
 show Str.append (S a) (S b)=S (a++b)
 simp [Str.append,S]
theorem Xi {a b:List Nat} (h:S a=S b):a=b:=by
 have:=congrArg (fun x:Str=>x.cps.toList) h
 simpa [YV] using this
theorem Yae (l:List Nat) (i j:Nat):Wt (S l) (some (i:Int)) (some (j:Int))=S ((l.drop i).take (j - i)):=by
 unfold Wt
 rw [YV,Yw,HT.sIx_nat,HT.sIx_nat]
 show S _=S _
 congr 1
 by_cases h:i≤l.length
 ·rw [Nat.min_eq_left h]
  by_cases h2:j≤l.length
  ·rw [Nat.min_eq_left h2]
  ·rw [Nat.min_eq_right (by omega)]
   rw [List.take_of_length_le (by simp),List.take_of_length_le (by simp;omega)]
 ·have e:min i l.length=l.length:=Nat.min_eq_right (by omega)
  rw [e,List.drop_eq_nil_of_le (Nat.le_refl l.length),List.drop_eq_nil_of_le (show l.length≤i by omega)]
  simp
theorem Ybt (l:List Nat) (i:Nat):Wt (S l) (some (i:Int)) none=S (l.drop i):=by
 unfold Wt
 rw [YV,Yw,HT.sIx_nat,HT.sIx_none]
 show S _=S _
 congr 1
 by_cases h:i≤l.length
 ·rw [Nat.min_eq_left h,List.take_of_length_le (by simp)]
 ·rw [Nat.min_eq_right (by omega),List.drop_eq_nil_of_le (Nat.le_refl _),List.drop_eq_nil_of_le (by omega)]
  simp
theorem Qe (l:List Nat) (j:Nat):Wt (S l) none (some (j:Int))=S (l.take j):=by
 unfold Wt
 rw [YV,Yw,HT.sIx_nat,HT.sIx_none]
 show S _=S _
 congr 1
 simp only [List.drop_zero,Nat.sub_zero]
 by_cases h:j≤l.length
 ·rw [Nat.min_eq_left h]
 ·rw [Nat.min_eq_right (by omega),List.take_of_length_le (by omega),List.take_of_length_le (by omega)]
def YM (s:List Nat):List (List Nat)→List Nat
 | []=>[]
 | [x]=>x
 | x::y::r=>x++s++YM s (y::r)
theorem XM (s:List Nat):∀ ys:List (List Nat),Txt.join (S s) (ys.map S)=S (YM s ys):=fun ys=>by
 have e:Txt.join (S s) (ys.map S)=Str.join (S s) (ys.map S):=eq_of_beq (join_plain_closes _ _)
 rw [e]
 induction ys with
 | nil=>rfl
 | cons x r ih =>
  cases r with
  | nil=>rfl
  | cons y r =>
   have ih':=ih (eq_of_beq (join_plain_closes _ _))
   show S x++S s++Str.join (S s) ((y::r).map S)=_
   rw [ih',Yy,Yy]
   rfl
theorem Qf (ys:List (List Nat)):((ys.map S).map (·.length)).sum=(ys.map List.length).sum:=by
 rw [List.map_map,show ((fun x:Str=>x.length) ∘ S)=List.length from funext Yw]
theorem Qz (c:Nat):∀ ys:List (List Nat),(ys.map List.length).sum+ys.length≤(YM [c] ys).length+1
 | []=>by simp [YM]
 | [x]=>by simp [YM]
 | x::y::r=>by
  have:=Qz c (y::r)
  show x.length+((y::r).map List.length).sum+((y::r).length+1)≤(x++[c]++YM [c] (y::r)).length+1
  rw [List.length_append,List.length_append,List.length_singleton]
  omega
end L2
namespace L2
open PySem PySem.Spec PyProof.Rows
section
variable {K:PySem.W.Frag} {h:Heap} {mg:Str→Option Value} {P:Program} {w:World} {base:Heap} {f C:Addr} {x qual m:Str} {st:Stmt} {ps:List Str} {oc kV dc pm cd ct:Value} {od an:Option Addr} {sl:Array (Option Value)}
theorem Yz (X:K.In h) (G:h.Ns mainGlobals mg) (ps:List Str)
  (a:PySem.W.nsIn K mainGlobals x=some (some (.ref f))) (l:K.lookup f=some ⟨oc,od,.func (PySem.W.fnOf x x (Xp st) (Xd st) (Yh st) .none kV dc pm an cd ct),sl⟩) (c:PySem.W.codeIn K cd x=true) (k:PySem.W.keepIn K (.ref f)=true)
  (b:∀ (kV doc pm:Value) (an:Option Addr) (cdv ct:Value) (us:List Value),us.length=ps.length→bindArgs (PySem.W.fnOf x x (Xp st) (Xd st) (Yh st) .none kV doc pm an cdv ct) ⟨us,[]⟩=pure (ps.zip us)) :
  ∀ P w base,(Gx.mk P w K mg base).Raw x x st ps:=fun P w base =>
 have F:=UP (st:=st) l c k
 ⟨f,_,F,F.binds b,PySem.W.mg_of X G a⟩
theorem WM (X:K.In h) (G:h.Ns mainGlobals mg) (ps:List Str)
  (a:PySem.W.findIn K (.ref C) m=some (some (.ref f))) (i:PySem.W.isFn K (.ref f)=true) (l:K.lookup f=some ⟨oc,od,.func (PySem.W.fnOf m qual (Xp st) (Xd st) (Yh st) .none kV dc pm an cd ct),sl⟩) (c:PySem.W.codeIn K cd qual=true) (k:PySem.W.keepIn K (.ref f)=true)
  (b:∀ (kV doc pm:Value) (an:Option Addr) (cdv ct:Value) (us:List Value),us.length=ps.length→bindArgs (PySem.W.fnOf m qual (Xp st) (Xd st) (Yh st) .none kV doc pm an cdv ct) ⟨us,[]⟩=pure (ps.zip us)) :
  ∀ P w base,(Gx.mk P w K mg base).RawM C m qual st ps:=fun P w base =>
 have F:=UP (st:=st) l c k
 ⟨f,_,F,F.binds b,⟨a,i,k⟩⟩
theorem Ye8 (X:K.In h) (G:h.Ns mainGlobals mg) (ps:List Str) (aC:PySem.W.nsIn K mainGlobals x=some (some (.ref C))) (mk:PySem.W.makesIn K C=true) (kc:PySem.W.keepIn K (.ref C)=true)
  (a:PySem.W.findIn K (.ref C) "__init__"=some (some (.ref f))) (i:PySem.W.isFn K (.ref f)=true) (l:K.lookup f=some ⟨oc,od,.func (PySem.W.fnOf "__init__" qual (Xp st) (Xd st) (Yh st) .none kV dc pm an cd ct),sl⟩) (c:PySem.W.codeIn K cd qual=true) (k:PySem.W.keepIn K (.ref f)=true)
  (b:∀ (kV doc pm:Value) (an:Option Addr) (cdv ct:Value) (us:List Value),us.length=ps.length→bindArgs (PySem.W.fnOf "__init__" qual (Xp st) (Xd st) (Yh st) .none kV doc pm an cdv ct) ⟨us,[]⟩=pure (ps.zip us)) :
  ∀ P w base,(Gx.mk P w K mg base).RawI x C qual st ps:=fun P w base =>
 have F:=UP (st:=st) l c k
 ⟨f,_,F,F.binds b,⟨mk,a,i,kc⟩,PySem.W.mg_of X G aC⟩
theorem XY (X:K.In h) (G:h.Ns mainGlobals mg) {i:Int} {t:Tok} (a:PySem.W.nsIn K mainGlobals x=some (some (.int i t))):∀ P w base,(Gx.mk P w K mg base).Con x (.int i):=fun P w base=>⟨_,PySem.W.mg_of X G a,t,rfl⟩
end
def UU (K:PySem.W.Frag):Sp:=fun vs H Q _=>∃ (a:Addr) (ns:List Int),vs=[.ref a]∧SqL K H a (ns.map V.int)∧ns.length≤63∧∀ H',Q (.bl true) H'
def YcX (K:PySem.W.Frag) (mg:Str→Option Value) (st:Stmt) (x n:Str):Prop:=∃ f fd,Fun K n n st f fd∧(∀ (s:Shared) (u:Value),BindsTo s fd ⟨[u],[]⟩ [(x,u)])∧mg n=some (.ref f)
theorem YcY {K:PySem.W.Frag} {h:Heap} {mg:Str→Option Value} {f:Addr} {x n:Str} {st:Stmt} {oc kV dc pm cd ct:Value} {od an:Option Addr} {sl:Array (Option Value)} (X:K.In h) (G:h.Ns mainGlobals mg)
  (a:PySem.W.nsIn K mainGlobals n=some (some (.ref f))) (l:K.lookup f=some ⟨oc,od,.func (PySem.W.fnOf n n (Xp st) (Xd st) (Yh st) .none kV dc pm an cd ct),sl⟩) (c:PySem.W.codeIn K cd n=true) (k:PySem.W.keepIn K (.ref f)=true)
  (b:∀ (kV doc pm:Value) (an:Option Addr) (cdv ct:Value) (s:Shared) (u:Value),BindsTo s (PySem.W.fnOf n n (Xp st) (Xd st) (Yh st) .none kV doc pm an cdv ct) ⟨[u],[]⟩ [(x,u)]):YcX K mg st x n :=
 ⟨f,_,UP (st:=st) l c k,b kV dc pm an cd ct,PySem.W.mg_of X G a⟩
theorem Ye9 {l:PySem.W.OpenLaw} {q:Program} {loose:List Str} {XP:(Str→Option Value)→Heap→Prop} {YP:World→Heap→Prop} {d:DefRec} {K:Params→PySem.W.Frag} (k:Nat) (x:Str) (st:Stmt) (N:List Str) (hn:l.most=some 63) (hdf:d.params.defaults=[]) (hk:Room (k+1) callerA) (S:FnScope N [x] (Yh st))
  (hY:∀ (w:World) (h:Heap),YP w h→(K w.params).In h)
  (F:∀ (w:World) (mg:Str→Option Value) (h:Heap),(K w.params).In h→h.Ns mainGlobals mg→YcX (K w.params) mg st x d.name∧∀ base,Qd (Gx.mk l.prog w (K w.params) mg base) k N d.name st (UU (K w.params))) :
  PySem.W.WalkO q loose XP YP l.row.toRowW d [] (fun f vs=>PySem.call f vs):=by
 refine L2.Ye2 (n:=63) (k:=k+1) (x:=x) (CX:=fun _=>CX0) (sp:=fun w=>UU (K w.params)) hn (by decide) hdf hk hY (fun w mg fa h KX G hmg=>?_) (fun _ _ a ns hl _ hS=>⟨a,ns,rfl,hS,hl,fun _=>rfl⟩) fun _ _ _ _ _ z=>z
 obtain ⟨⟨f,fd,Fu,hb,hm⟩,B⟩:=F w mg h KX G
 have e:=hmg.symm.trans hm
 cases e
 exact ⟨fd,hb,fun base _ _=>Fu.ok S (fun vs H Q E h=>by obtain ⟨a,ns,rfl,_⟩:=h;rfl) fun cdv A outer s H vs Q E hr h=>B base fa cdv A outer s H vs Q E hr h⟩
end L2
namespace L2
open PySem PySem.Spec PyProof.Rows
section
variable {X:Cx}
theorem Ybu {a:Int} {m:Nat} (h:a.natAbs<2^m):Builtin.Int.intBits a≤m:=by
 unfold Builtin.Int.intBits
 split
 ·omega
 ·rename_i h0
  have h0:a.natAbs≠0:=by simpa using h0
  have:=(Nat.log2_lt h0).mpr h
  omega
def QW (i j:Int):Prop:=∃ m n:Nat,i.natAbs<2^m∧j.natAbs<2^n∧m+n≤100000000
theorem QW.ok {i j:Int} (h:QW i j):IntMulOk i j:=by
 obtain ⟨m,n,h1,h2,h3⟩:=h
 exact IntMulOk.of_le (Ybu h1) (Ybu h2) (by omega)
def Yey (i j:Int):Prop:=0<j∧j.natAbs<2^9000
theorem Wu:OpR X (binaryOp .FloorDiv) (rI Yey fun i j => .int (i / j)):=opI fun i j _ _ _ _ _ hc q=>by
 have h1:(0:Int)<j:=hc.1
 have h2:=hc.2
 have h3:j.natAbs≠0:=by omega
 exact floordiv_int (by omega) (by rw [Int.fdiv_eq_ediv_of_nonneg i (by omega)];exact q) (.inl (PyProof.noPylong_of_log2 ((Nat.log2_lt h3).mpr h2)))
theorem Wh {j:Int} (h:0<j) (h2:j<1073741824) {i:Int}:Yey i j:=⟨h,Nat.lt_of_lt_of_le (show j.natAbs<2^30 by omega) (Nat.pow_le_pow_right (by decide) (by decide))⟩
end
end L2
namespace L2
open PySem PySem.Spec PyProof.Rows
theorem YfW {CX:CXT} {P:Program} {w:World} {K:PySem.W.Frag} {mg:Str→Option Value} {base:Heap} {N:List Str} {qual:Str} {scope:Scope} {f:Addr} {cd:Value} {A:Around} {outer:List Env} {s:Shared} {H:Hp} {E:XK} :
  (Vv CX P w K mg base N qual scope f cd A outer s H E).K=K:=rfl
theorem nox_K {X:Cx}:X.nox.K=X.K:=rfl
section
variable {g:TG} {tb:TS} {D:Ends} {σ:St} {H:Hp}
theorem W8 {ta:TA} {n:Nat} (Pv:Nat→St→Hp→Prop) (ha:∀ R:List V→Hp→Prop,R [.int n] H→ta σ H R) (hn:n<2^62) (h0:Pv 0 σ H)
  (hs:∀ i σ H,i<n→Pv i σ H→g (.int i) σ H fun σ2 H2=>tb { D with nx:=Pv (i+1),ct:=Pv (i+1),bk:=D.nx } σ2 H2) (hd:∀ σ H,Pv n σ H→D.nx σ H):Yb3 (Yb2 ta) g tb D σ H:=by
 refine ha _ ⟨n,rfl,by omega,by omega,?_⟩
 refine YcF (lo:=0) (n:=n) Pv h0 (fun i σ H hi p=>?_) hd
 have e:(0:Int)+i=i:=by omega
 rw [e];exact hs i σ H hi p
theorem XT {K:PySem.W.Frag} {tl:TE} {a:Addr} {xs:List V} (Pv:Nat→St→Hp→Prop) (ha:∀ R:V→Hp→Prop,R (.ref a) H→tl σ H R) (h0:Pv 0 σ H) (hl:∀ i σ H,i≤xs.length→Pv i σ H→SqL K H a xs)
  (hs:∀ i x σ H,xs[i]?=some x→Pv i σ H→g x σ H fun σ2 H2=>tb { D with nx:=Pv (i+1),ct:=Pv (i+1),bk:=D.nx } σ2 H2) (hd:∀ σ H,Pv xs.length σ H→D.nx σ H):Yb3 (WZ K tl) g tb D σ H:=by
 refine ha _ ⟨a,rfl,⟨xs,hl 0 σ H (Nat.zero_le _) h0⟩,?_⟩
 exact Q5 Pv h0 hl hs hd
end
end L2
namespace L2
open PySem PySem.Spec PyProof.Rows
section
variable {X:Cx}
end
section
variable {X:Cx} {elts:List Expr} {kk:Nat} {tpos:Pos}
end
end L2
namespace L2
open PySem PySem.Spec PyProof.Rows
mutual
inductive Den (K:PySem.W.Frag) (H:Hp):V→PyData→Prop
 | non:Den K H .non .none
 | bl (b:Bool):Den K H (.bl b) (.bool b)
 | int (i:Int):Den K H (.int i) (.int i)
 | str (x:Str) (h:PyData.strOk x=true):Den K H (.str x) (.str x)
 | lst {a:Addr} {vs:List V} {ds:List PyData}:SqL K H a vs→Dens K H vs ds→Den K H (.ref a) (.list ds)
 | tup {a:Addr} {vs:List V} {ds:List PyData}:SqT K H a vs→Dens K H vs ds→Den K H (.ref a) (.tuple ds)
inductive Dens (K:PySem.W.Frag) (H:Hp):List V→List PyData→Prop
 | nil:Dens K H [] []
 | cons {v:V} {d:PyData} {vs:List V} {ds:List PyData}:Den K H v d→Dens K H vs ds→Dens K H (v::vs) (d::ds)
end
mutual
theorem Den.keep {K:PySem.W.Frag} {H H':Hp} (e:Same H H'):∀ {v:V} {d:PyData},Den K H v d→Den K H' v d
 | _,_,.non => .non
 | _,_,.bl b => .bl b
 | _,_,.int i => .int i
 | _,_,.str x h => .str x h
 | _,_,.lst h hs => .lst (e.seq h) (hs.keep e)
 | _,_,.tup h hs => .tup (e.tup h) (hs.keep e)
theorem Dens.keep {K:PySem.W.Frag} {H H':Hp} (e:Same H H'):∀ {vs:List V} {ds:List PyData},Dens K H vs ds→Dens K H' vs ds
 | _,_,.nil => .nil
 | _,_,.cons h hs => .cons (h.keep e) (hs.keep e)
end
theorem Dens.length {K:PySem.W.Frag} {H:Hp}:∀ {vs:List V} {ds:List PyData},Dens K H vs ds→vs.length=ds.length
 | _,_,.nil=>rfl
 | _,_,.cons _ hs=>congrArg (·+1) hs.length
theorem Dens.append {K:PySem.W.Frag} {H:Hp} {vs':List V} {ds':List PyData}:∀ {vs:List V} {ds:List PyData},Dens K H vs ds→Dens K H vs' ds'→Dens K H (vs++vs') (ds++ds')
 | _,_,.nil,h=>h
 | _,_,.cons a b,h => .cons a (b.append h)
section
variable {X:Cx}
mutual
theorem Den.reads {pins:List (Addr×Obj)} {σ:St} {H:Hp} {s:Shared} (I:Inv X pins σ H s):∀ {v:V} {d:PyData} {u:Value},Den X.K H v d→YA v u→∃ as,Reads s.heap u d as
 | _,_,u,.non,r=>by cases (show u = .none from r);exact ⟨_,.none⟩
 | _,_,u,.bl b,r=>by cases (show u = .bool b from r);exact ⟨_,.bool b⟩
 | _,_,u,.int i,r=>by obtain ⟨t,rfl⟩:=r;exact ⟨_,.int i t⟩
 | _,_,u,.str x h,r=>by obtain ⟨t,rfl⟩:=r;exact ⟨_,.str x t⟩
 | _,_,u,.lst (a:=a) h hs,r=>by
  cases (show u = .ref a from r)
  obtain ⟨its,rv,pl,hz⟩:=I.list h
  obtain ⟨as,ra⟩:=hs.reads I rv
  obtain ⟨o,e1,e2,n,e3⟩:=pl.isList
  exact ⟨_,.list e1 e2 e3 (by simpa using ra)⟩
 | _,_,u,.tup (a:=a) h hs,r=>by
  cases (show u = .ref a from r)
  obtain ⟨its,rv,pl,hz⟩:=I.tuple h
  obtain ⟨as,ra⟩:=hs.reads I rv
  obtain ⟨o,e1,e2,n,e3⟩:=(show s.heap.IsTuple a its.toArray from pl)
  exact ⟨_,.tuple e1 e2 e3 (by simpa using ra)⟩
theorem Dens.reads {pins:List (Addr×Obj)} {σ:St} {H:Hp} {s:Shared} (I:Inv X pins σ H s):∀ {vs:List V} {ds:List PyData} {us:List Value},Dens X.K H vs ds→Yr vs us→∃ as,ReadsAll s.heap us ds as
 | _,_,us,.nil,r=>by cases r;exact ⟨_,.nil⟩
 | _,_,us,.cons h hs,r=>by
  cases r with
  | cons r rr =>
   obtain ⟨as,ra⟩:=h.reads I r
   obtain ⟨bs,rb⟩:=hs.reads I rr
   exact ⟨_,.cons ra rb⟩
end
end
theorem XF {α:Type} {l:List α} {i:Nat} {x:α} (h:l[i]?=some x):l.take (i+1)=l.take i++[x]:=by
 obtain ⟨hi,hc⟩:=List.getElem?_eq_some_iff.mp h
 rw [List.take_succ_eq_append_getElem hi,hc]
theorem UV {J:It} {P:Hp→Prop} {xs:List V} (hJ:X7 J P xs) {src:List (Option Nat)} {te:TE} {σ:St} {H1:Hp} {Q:VK} {D:Addr} (ys:List V) (hP:∀ H',Same H1 H'→P H') (hD:H1 D=none) (hl:ys.length=xs.length) (hlen:xs.length≤100000)
  (step:∀ (i:Nat) x y H',xs[i]?=some x→ys[i]?=some y→Same H1 H'→∀ R:VK,(∀ H'',Same H' H''→R y H'')→te (some x::YD src σ) H' R)
  (fin:∀ H',Same H1 H'→H' D=some (.lst ys)→Q (.ref D) H'):LC (none::src) J (Ys 0) XS te σ H1 Q D:=by
 have h6:100000<sizeLine:=by decide
 refine US hJ (fun i zs σ' H'=>zs=ys.take i∧(∃ o,σ'=o::YD src σ)∧Same H1 H'∧H' D=some (.lst zs)) ⟨by simp,⟨none,rfl⟩,.upd_new hD _,Ye⟩ (fun i zs σ' H' p=>⟨hP _ p.2.2.1,p.2.2.2⟩) (Vz 0) ?_ ?_
 ·rintro i zs σ' H' x hx ⟨rfl,⟨o,rfl⟩,sm,hd⟩
  have hi:=(List.getElem?_eq_some_iff.mp hx).1
  have hy:ys[i]?=some (ys[i]'(by omega)):=List.getElem?_eq_getElem _
  show te (some x::YD src σ) H' _
  refine step i x _ H' hx hy sm _ fun H'' s2=>⟨s2 _ _ hd,?_,(XF hy).symm,⟨_,rfl⟩,.upd_over hD (sm.trans s2) _,Ye⟩
  rw [List.length_take];omega
 ·rintro zs σ' H' ⟨rfl,_,sm,hd⟩
  rw [← hl,List.take_length] at hd
  exact fin H' sm hd
theorem W9 (K:PySem.W.Frag) (i j:Nat):∀ x σ H Q Q',(∀ σ' H',Q σ' H'→Q' σ' H')→XA K 2 (YQ (Ys i) (YQ (Ys j) Xz)) x σ H Q→XA K 2 (YQ (Ys i) (YQ (Ys j) Xz)) x σ H Q':=by
 rintro x σ H Q Q' h ⟨a,xs,e,sq,l,v,r,e1,v2,r2,e2,e3,q⟩
 exact ⟨a,xs,e,sq,l,v,r,e1,v2,r2,e2,e3,h _ _ q⟩
end L2
namespace L2
open PySem PySem.Spec PyProof.Rows
section
variable {a b c d e r:TS} {D:Ends} {σ:St} {H:Hp} (M:St→Hp→Prop) (h1:∀ σ H,M σ H→r D σ H)
include h1
theorem Y9 (h2:∀ N:St→Hp→Prop,(∀ σ H,M σ H→N σ H)→a { D with nx:=N } σ H):XR a r D σ H:=h2 (r D) h1
theorem UA (h2:∀ N:St→Hp→Prop,(∀ σ H,M σ H→N σ H)→XR a b { D with nx:=N } σ H):XR a (XR b r) D σ H:=h2 (r D) h1
theorem cut3 (h2:∀ N:St→Hp→Prop,(∀ σ H,M σ H→N σ H)→XR a (XR b c) { D with nx:=N } σ H):XR a (XR b (XR c r)) D σ H:=h2 (r D) h1
theorem cut4 (h2:∀ N:St→Hp→Prop,(∀ σ H,M σ H→N σ H)→XR a (XR b (XR c d)) { D with nx:=N } σ H):XR a (XR b (XR c (XR d r))) D σ H:=h2 (r D) h1
end
theorem Yfa (i j:Int):Yb4 (.int i) (.int j)=true:=rfl
theorem Vj (i j:Str):Yb4 (.str i) (.str j)=true:=rfl
end L2
namespace L2
open PySem PySem.Spec PyProof.Rows
section
variable {X:Cx} {tg:Expr}
end
end L2
namespace L2
open PySem PySem.Spec PyProof.Rows
end L2
namespace L2
open PySem PySem.Spec PyProof.Rows
section
variable {src:List (Option Nat)} {te:TE} {σ:St} {H:Hp} {Q:VK}
theorem VA {ta:TA} {n:Nat} (ys:List V) (ha:∀ R:List V→Hp→Prop,R [.int n] H→ta σ H R) (hl:ys.length=n) (hlen:n≤100000)
  (step:∀ (i:Nat) y H',i<n→ys[i]?=some y→Same H H'→∀ R:VK,(∀ H'',Same H' H''→R y H'')→te (some (.int i)::YD src σ) H' R)
  (fin:∀ D H',H D=none→Same H H'→H' D=some (.lst ys)→Q (.ref D) H'):tLC (none::src) (Yb2 ta) (Ys 0) XS te σ H Q:=by
 refine ha _ ⟨n,rfl,by omega,by omega,fun D hD=>?_⟩
 refine UV (Ya9 (lo:=0) (n:=n) (P:=fun _=>True)) ys (fun _ _=>trivial) hD (by simpa using hl) (by simpa using hlen) (fun i x y H' hx hy sm R r=>?_) fun H'=>fin D H' hD
 have hi:i<n:=by have:=(List.getElem?_eq_some_iff.mp hx).1;simpa using this
 rw [List.getElem?_map,List.getElem?_range hi] at hx
 have e:V.int (0+(i:Int))=x:=Option.some.inj hx
 rw [Int.zero_add] at e
 subst e
 exact step i y H' hi hy sm R r
theorem Ybv {J:It} {P:Hp→Prop} {xs:List V} (hJ:X7 J P xs) {tt:TT} {H1:Hp} {D:Addr} (p:V→Bool) (f:V→V) (hP:∀ H',Same H1 H'→P H') (hD:H1 D=none) (hlen:xs.length≤100000)
  (test:∀ x H',x∈xs→Same H1 H'→∀ R:Bool→Hp→Prop,(∀ H'',Same H' H''→R (p x) H'')→tt (some x::YD src σ) H' R)
  (step:∀ x H',x∈xs→p x=true→Same H1 H'→∀ R:VK,(∀ H'',Same H' H''→R (f x) H'')→te (some x::YD src σ) H' R)
  (fin:∀ H',Same H1 H'→H' D=some (.lst ((xs.filter p).map f))→Q (.ref D) H'):LC (none::src) J (Ys 0) tt te σ H1 Q D:=by
 have h6:100000<sizeLine:=by decide
 refine Ycb hJ (fun i zs σ' H'=>zs=((xs.take i).filter p).map f∧(∃ o,σ'=o::YD src σ)∧Same H1 H'∧H' D=some (.lst zs)) ⟨by simp,⟨none,rfl⟩,.upd_new hD _,Ye⟩ (fun i zs σ' H' q=>⟨hP _ q.2.2.1,q.2.2.2⟩) ?_ ?_
 ·rintro i zs σ' H' x hx ⟨rfl,⟨o,rfl⟩,sm,hd⟩
  have hi:=(List.getElem?_eq_some_iff.mp hx).1
  have hm:=List.mem_of_getElem? hx
  show tt (some x::YD src σ) H' _
  refine test x H' hm sm _ fun H2 s2=>?_
  cases e:p x with
  | true =>
   refine Wa ?_
   refine step x H2 hm e (sm.trans s2) _ fun H3 s3=>⟨s3 _ _ (s2 _ _ hd),?_,?_,⟨_,rfl⟩,.upd_over hD ((sm.trans s2).trans s3) _,Ye⟩
   ·have h7:=List.length_filter_le p (xs.take i)
    rw [List.length_map]
    rw [List.length_take] at h7
    omega
   ·rw [XF hx,List.filter_append,List.map_append]
    simp [List.filter,e]
  | false =>
   refine Vw ?_
   refine ⟨?_,⟨_,rfl⟩,sm.trans s2,s2 _ _ hd⟩
   rw [XF hx,List.filter_append]
   simp [List.filter,e]
 ·rintro zs σ' H' ⟨rfl,_,sm,hd⟩
  rw [List.take_length] at hd
  exact fin H' sm hd
theorem YdW {K:PySem.W.Frag} {tl:TE} {tt:TT} {xs:List V} (p:V→Bool) (f:V→V) (ha:∀ R:V→Hp→Prop,(∀ a H1,Same H H1→SqL K H1 a xs→R (.ref a) H1)→tl σ H R) (hlen:xs.length≤100000)
  (test:∀ x H',x∈xs→Same H H'→∀ R:Bool→Hp→Prop,(∀ H'',Same H' H''→R (p x) H'')→tt (some x::YD src σ) H' R)
  (step:∀ x H',x∈xs→p x=true→Same H H'→∀ R:VK,(∀ H'',Same H' H''→R (f x) H'')→te (some x::YD src σ) H' R)
  (fin:∀ D H',H D=none→Same H H'→H' D=some (.lst ((xs.filter p).map f))→Q (.ref D) H'):tLC (none::src) (WZ K tl) (Ys 0) tt te σ H Q :=
 ha _ fun a H1 s1 hS=>⟨a,rfl,⟨xs,hS⟩,fun D hD=>Ybv (Wm.imp fun H' (e:Same H1 H')=>e.seq hS) p f (fun _ e=>e) hD hlen (fun x H' hx sm R r=>test x H' hx (s1.trans sm) R r) (fun x H' hx hp sm R r=>step x H' hx hp (s1.trans sm) R r) fun H' sm=>fin D H' (s1.free hD) (s1.trans sm)⟩
end
end L2
namespace L2
open PySem PySem.Spec PyProof.Rows
section
variable {src:List (Option Nat)} {te:TE} {σ:St} {H:Hp} {Q:VK}
end
section
variable {X:Cx} {K:PySem.W.Frag}
end
end L2
namespace L2
open PySem PySem.Spec PyProof.Rows
section
variable {tb:TS} {D:Ends} {σ:St} {H:Hp}
end
end L2
namespace L2
open PySem PySem.Spec PyProof.Rows
section
variable {X:Cx} {e st:Expr} {te ts:TE} {pos p2:Pos}
def tRev (K:PySem.W.Frag) (te ts:TE):TE:=fun σ H Q=>te σ H fun x H1=>ts σ H1 fun y H2=>y = .int (-1)∧∃ a xs,x = .ref a∧SqL K H2 a xs∧∀ p,H2 p=none→Q (.ref p) (upd H2 p (.lst xs.reverse))
end
end L2
namespace L2
open PySem PySem.Spec PyProof.Rows
section
variable {X:Cx} {pos:Pos}
def rBits:V→List V→Hp→VK→Prop:=fun x vs H Q=>∃ i,x = .int i∧vs=[]∧Q (.int (Builtin.Int.intBits i:Nat)) H
def rFind:V→List V→Hp→VK→Prop:=fun x vs H Q=>∃ (z y:Str),x = .str z∧vs=[.str y]∧Q (.int (Txt.find z y)) H
def YfX:TE:=fun _ H Q=>∀ p,H p=none→Q (.ref p) (upd H p (.dK []))
end
def Gx.ConT (g:Gx) (x:Str) (xs:List V):Prop:=∃ c,g.mg x=some (.ref c)∧∀ H,SqT g.K H c xs
theorem Yfb {K:PySem.W.Frag} {h:Heap} {mg:Str→Option Value} {x:Str} {i:Addr} {dc:Option Addr} {its:Array Value} {n:Nat} {sl:Array (Option Value)} {xs:List V} (X:K.In h) (G:h.Ns mainGlobals mg)
  (a:PySem.W.nsIn K mainGlobals x=some (some (.ref i))) (l:K.lookup i=some ⟨.type "tuple",dc,.seq its n,sl⟩) (hz:its.size≤sizeLine) (r:Yr xs its.toList):∀ P w base,(Gx.mk P w K mg base).ConT x xs :=
 fun P w base=>⟨i,PySem.W.mg_of X G a,fun H => .inr ⟨_,its,n,l,rfl,rfl,hz,r⟩⟩
section
variable {X:Cx} {g:Gx} {x:Str} {pos:Pos}
def Yez (K:PySem.W.Frag) (xs:List V):TE:=fun _ H Q=>∀ c,SqT K H c xs→Q (.ref c) H
theorem YeA {xs:List V} (F:g.ConT x xs) (hX:X.gx=g) (hg:Gl X x) (hd:(x==("__debug__":Str))=false):PE X (.Name x pos) (Yez g.K xs):=by
 subst hX
 obtain ⟨c,e,hc⟩:=F
 exact fun pins s σ H Q I h=>U9 hg e (show YA (.ref c) (.ref c) from rfl) hd pins s σ H Q I (h c (hc H))
end
end L2
namespace L2
open PySem PySem.Spec PyProof.Rows
theorem YH {c A B:Prop} [Decidable c] (h:¬ c) (hb:B):if c then A else B:=by rw [if_neg h];exact hb
theorem Xb {c A B:Prop} [Decidable c] (h:c) (ha:A):if c then A else B:=by rw [if_pos h];exact ha
section
variable {src:List (Option Nat)} {te:TE} {σ:St} {H:Hp} {Q:VK}
theorem Ybw {tl:TE} {l:List Nat} (ys:List V) (ha:∀ R:V→Hp→Prop,R (.str (S l)) H→tl σ H R) (hl:ys.length=l.length) (hlen:l.length≤100000)
  (step:∀ (i c:Nat) y H',l[i]?=some c→ys[i]?=some y→Same H H'→∀ R:VK,(∀ H'',Same H' H''→R y H'')→te (some (.str (S [c]))::YD src σ) H' R)
  (fin:∀ D H',H D=none→Same H H'→H' D=some (.lst ys)→Q (.ref D) H'):tLC (none::src) (iStr tl) (Ys 0) XS te σ H Q :=
 ha _ ⟨S l,rfl,fun D hD=>UV (V0 (S l) (fun _=>True)) ys (fun _ _=>trivial) hD (by rw [YV];simpa using hl) (by rw [YV];simpa using hlen) (fun i x y H' hx hy sm R r=>by
  rw [YV,List.getElem?_map] at hx
  cases e:l[i]? with
  | none=>rw [e] at hx;cases hx
  | some c =>
   rw [e] at hx
   have:V.str ⟨#[c]⟩=x:=Option.some.inj hx
   subst this
   exact step i c y H' e hy sm R r) fun H'=>fin D H' hD⟩
end
section
variable {X:Cx} {K:PySem.W.Frag} {o e:Expr} {es:List Expr} {to:TE} {t:TA} {name:Str} {apos cpos:Pos} {T id:String} {r:V→List V→Hp→VK→Prop}
end
section
variable {X:Cx}
def CMulC (i j:Int):Prop:=QW i j∨CMul i j
theorem Ybx:OpR X (binaryOp .Mult) (rI CMulC fun i j => .int (i*j)):=opI fun _ _ _ _ _ _ _ hc q=>mul_int q (hc.elim (fun h=>h.ok) fun h=>h.ok)
end
end L2
namespace L2
open PySem PySem.Spec PyProof.Rows
section
variable {prog:Program} {w:World} {A:Around} {E:Value→Shared→Prop} {s:Shared} {z TI TO i1 i2 T:Addr} {S1 S2:Nat→Heap→Prop} {R1 R2:Heap→(Nat→Option Value)→Prop} {g1 g2:Nat→Option Value} {k:Nat} {a b:Value} {f:Bool} {oT:Obj}
end
section
variable {prog:Program} {w:World} {A:Around} {s:Shared} {R:Result→Shared→Prop} {z TI TO i1 i2 S p1 p2:Addr} {xs ys:List Value}
end
end L2
namespace L2
open PySem PySem.Calls PySem.Spec PyProof.Rows PyProof.V
section
variable {prog:Program} {w:World} {A:Around} {E:Value→Shared→Prop} {s:Shared} {z TI TO i1 i2 p1 p2:Addr} {xs ys:List Value}
end
end L2
namespace L2
open PySem PySem.Spec PyProof.Rows
section
variable {X:Cx} {pins:List (Addr×Obj)} {σ:St} {H H':Hp} {s:Shared} {h':Heap}
end
section
variable {X:Cx}
def tLZ (K:PySem.W.Frag) (ta:TA):TE:=fun σ H Q=>ta σ H fun vs H1=>∃ a b xs ys,vs=[.ref a,.ref b]∧SqT K H1 a xs∧SqT K H1 b ys∧xs.length=ys.length ∧
 ∀ (l:Addr) (as:List Addr) (H2:Hp),H1 l=none→Same H1 H2→H2 l=some (.lst (as.map V.ref))→as.length=xs.length →
  (∀ (j:Nat) a x y,as[j]?=some a→xs[j]?=some x→ys[j]?=some y→H1 a=none∧H2 a=some (.tup [x,y]))→Q (.ref l) H2
end
end L2
namespace L2
open PySem PySem.Spec PyProof.Rows
section
variable {src:List (Option Nat)} {te:TE} {σ:St} {H:Hp} {Q:VK}
end
end L2
namespace L2
open PySem PySem.Spec PyProof.Rows
section
variable {X:Cx}
theorem Vk {i:Nat} {x:Str} {pos' apos:Pos} {elt tg iter:Expr} {ifs:List Expr} {scope:Scope} {pos:Pos} {src:List (Option Nat)} {N':List Str} {wi:TI} {g:TG} {tt:TT} {te:TE} (hN:X.N.Nodup) (hix:X.N[i]?=some x) (hlx:Loc X.env.scope x) (hcap:Cap X scope src N') (hc:X.calm=true) (hi:PI X tg iter wi)
  (hg:∀ cl C s₀ H₀ fp pn,PG (cxC X scope N' cl C s₀ H₀ fp pn) tg g) (ht:∀ cl C s₀ H₀ fp pn,PTs (cxC X scope N' cl C s₀ H₀ fp pn) ifs tt) (he:∀ cl C s₀ H₀ fp pn,PE (cxC X scope N' cl C s₀ H₀ fp pn) elt te)
  (hfree:∀ x,(x,NameKind.free)∈scope.names→X.env.scope.names.lookup x=some NameKind.cell∨X.env.scope.names.lookup x=some NameKind.free)
  (hk:scope.kind = .function) (hcell:∀ y∈scope.names,y.2 ≠ .cell) (hnames:∀ y∈scope.names,y.2 = .local→scope.names.lookup y.1=some .local)
  (hs:∀ x,foldedSetIterable iter X.env x=pure x) (hsw:swapsWithSole [.Name x pos'] (.ListComp elt [⟨tg,iter,ifs,0⟩] scope pos) apos.line X.env=pure true) (hf:X.fn x=true∨X.env.scope.names.lookup x=some .local) :
  PS X (.Assign [.Name x pos'] (.ListComp elt [⟨tg,iter,ifs,0⟩] scope pos) apos) (Q3 (tLC src wi g tt te) (Ys i)):=by
 intro pins s σ H D0 I h
 have no:∀ {E:Value→Shared→Prop},∀ (e:Value) (s':Shared),False→E e s':=fun _ _ f=>f.elim
 obtain ⟨cl,hcl,a,b⟩:=WH X.env scope fun x hx=>I.ok.has x (hfree x hx)
 rw [exec_Assign_arm]
 refine wpAny_bind (wpAny_standAt ?_)
 rw [hsw]
 refine wpAny_bind (wpAny_pure ?_)
 rw [if_pos rfl]
 refine wpAny_bind ?_
 rw [arm_evalThenUse_ListComp]
 refine wpAny_bind ?_
 refine wpAny_comprehension_free (use:=some _) rfl hs hcl hk hnames (thn (hi pins s σ H _ I h) fun v s1 h1=>thn h1 fun itv s2 h2=>?_)
 obtain ⟨it,fp,tn,J,H2,e,I2,T,st2,f2,q⟩:=h2
 subst e
 have hD:H2 s2.heap.objs.size=none:=I2.hok.fresh (Nat.le_refl _)
 obtain ⟨W,⟨m0,w0⟩,turn⟩:=q s2.heap.objs.size hD
 have I3:=I2.lnew (t':=s2.toks) (ys:=[]) (its:=[]) .nil (Nat.zero_le _)
 have fl2:∀ b∈fp,b<s2.heap.objs.size:=fun b hb=>by
  obtain ⟨o,e,_⟩:=T.obj _ _ st2 b hb
  exact Heap.lt_size e
 refine wpAny_newObj_type ?_
 generalize es3:({ s2 with heap:=s2.heap.push { cls := .type "list",dict:=none,data := .seq ([]:List Value).toArray } }:Shared)=s3
 have I3':Inv X pins σ (upd H2 s2.heap.objs.size (.lst [])) s3:=es3▸I3
 have keep3:∀ b o,s2.heap.get? b=some o→s3.heap.get? b=some o:=fun b o e=>by rw [← es3];exact Heap.get?_push_of_some _ e
 have st3:tn 0 s3.heap:=T.keep _ _ _ st2 fun b _ o e=>keep3 b o e
 have fl3:∀ b∈fp,b<s3.heap.objs.size:=fun b hb=>by
  obtain ⟨o,e,_⟩:=T.obj _ _ st3 b hb
  exact Heap.lt_size e
 have f3:∀ b∈fp,XB X pins (upd H2 s2.heap.objs.size (.lst [])) b:=fun b hb=>⟨by rw [Yt (Nat.ne_of_lt (fl2 b hb))];exact (f2 b hb).1,(f2 b hb).2⟩
 generalize eD:s2.heap.objs.size=D at *
 generalize eH3:upd H2 D (.lst [])=H3 at *
 refine wpAny_newFunctionEnv hcell (by intro y hy;simp at hy) (fun h₁ hns₁ hsb₁=>?_) hk
 have keep4:∀ b o,s3.heap.get? b=some o→h₁.get? b=some o:=fun b o e=>hsb₁.extBut b o (Nat.ne_of_lt (Heap.lt_size e)) (Heap.get?_push_of_some _ e)
 have I4:=Vx (N':=N') (src:=src) (tk:=s3.toks+([]:List (Str×Value)).length) hk hcell hcap a b I3' f3 fl3 rfl keep4 hns₁
 -- the iterator's objects,through the block
 have stat:∀ {H':Hp},(∀ b∈fp,H' b=none)→∀ b∈fp,XB (cxC X scope N' cl s3.heap.objs.size s3 H3 fp (X.pn++pins)) [] H' b:=fun hn b' hb=>by
  obtain ⟨f0,f1,fs,fe,f4,f5⟩:=f3 b' hb
  refine ⟨hn b' hb,Nat.ne_of_lt (fl3 b' hb),fun z=>?_,.inl hb,fun x c h=>f4 x c (a x c h),fun p hp=>f5 p (by simpa [cxC] using hp)⟩
  rcases List.mem_cons.mp (I3'.stkSub b' z) with e | e
  ·exact f1 e
  ·exact fs e
 -- behind the block
 have fin:∀ {H':Hp} {s':Shared} {σ':St} {pins':List (Addr×Obj)},Inv (cxC X scope N' cl s3.heap.objs.size s3 H3 fp (X.pn++pins)) pins' σ' H' s'→∀ h',Heap.SameBut s3.heap.objs.size s'.heap h'→Inv X pins σ H' { s' with heap:=h' }:=fun {H' s' σ' pins'} J' h' sb=>by
  have same:∀ b o,b≠s3.heap.objs.size→s'.heap.get? b=some o→h'.get? b=some o:=fun b o hb e=>sb.extBut b o hb e
  have u:Un (frs X.stack) fp H3 H' s3.heap s'.heap:=J'.base
  refine I3'.call' (s':={ s' with heap:=h' }) (ch:=fp) J'.os ⟨fun b o e n hb hx=>?_,fun b o e n hb hx=>?_,u.free,fun b o e hx=>?_,u.tups,u.frzs,u.tbls⟩ (fun b o e=>?_) J'.bare fun b hb=>?_
  ·exact same b o (Nat.ne_of_lt (Heap.lt_size e)) (u.keep b o e n hb hx)
  ·obtain ⟨sl,z⟩:=u.slot b o e n hb hx
   exact ⟨sl,same b _ (Nat.ne_of_lt (Heap.lt_size e)) z⟩
  ·obtain ⟨o',z⟩:=u.there b o e hx
   exact ⟨o',same b o' (Nat.ne_of_lt (Heap.lt_size e)) z⟩
  ·have nC:∀ c v,H' c=some v→c≠s3.heap.objs.size:=fun c v z q=>by
    have:=J'.free
    rw [show (cxC X scope N' cl s3.heap.objs.size s3 H3 fp (X.pn++pins)).env.locals=s3.heap.objs.size from rfl,← q,z] at this
    cases this
   refine (J'.hok b o e).stay (fun c v hc q=>same c v ?_ q) (fun _ q=>q) fun _ _ q=>q
   rcases hc with z | z
   ·rw [z];exact nC b o e
   ·exact nC c _ z
  ·obtain ⟨f0,f1,fs,fe,f4,f5⟩:=f3 b hb
   exact ⟨fe,f1,f4,f5⟩
 have loop:codeAny (model X.prog X.w) X.A (.compLoop (.ListComp elt [⟨tg,iter,ifs,0⟩] scope pos) 0 (.ref it) (.ref D) (compEnvC scope cl s3.heap.objs.size X.env))
   (compPost (model X.prog X.w) X.A X.xe (some fun v=>assignAll v ((assignEach [.Name x pos'] X.env).map (·.2))) (fun _ s'=>wpAny (model X.prog X.w) X.A (pure PUnit.unit) (fun _ s'=>wpAny (model X.prog X.w) X.A (pure Flow.next) (SP X pins D0) X.xe s') X.xe s') (.ref D) s3.heap.objs.size) { s3 with heap:=h₁,toks:=s3.toks+([]:List (Str×Value)).length }:=by
  refine Qx (fun n s'=>∃ i ys σ' H',Inv (cxC X scope N' cl s3.heap.objs.size s3 H3 fp (X.pn++pins)) [] σ' H' s'∧tn i s'.heap∧(∀ b∈fp,H' b=none)∧W i n ys σ' H') ?_ m0 ⟨0,[],YD src σ,H3,I4,T.keep _ _ _ st3 fun b _ o e=>keep4 b o e,fun b hb=>(f3 b hb).1,w0⟩
  rintro n s5 ⟨i,ys,σ5,H5,I5,st5,fr5,w5⟩
  obtain ⟨hDs,stop | go⟩:=turn i n ys σ5 H5 w5
  ·obtain ⟨stop,qn⟩:=stop
   refine thn (T.done (cxC X scope N' cl s3.heap.objs.size s3 H3 fp (X.pn++pins)) rfl rfl rfl hc i [] s5 σ5 H5 _ I5 (stat fr5) st5 stop) fun r s6 ⟨hr,I6⟩=>?_
   subst hr
   obtain ⟨m,hn,_⟩:=id I6.loc
   have IO:Inv X pins σ H5 s6:=fin I6 s6.heap (Heap.SameBut.refl _ _)
   have hCn:H5 s3.heap.objs.size=none:=I6.free
   have hC:∀ {H':Hp},H' s3.heap.objs.size=none→XB X pins H' s3.heap.objs.size:=fun {H'} z=>I3'.fpOk (Nat.le_refl _) z
   obtain ⟨oC,es,ep,hoC,rC⟩:=hn
   have IP:=IO.pinned (fp:=[s3.heap.objs.size]) (fun b hb=>by rw [List.mem_singleton.mp hb];exact hC hCn) (fun b hb=>by rw [List.mem_singleton.mp hb];exact ⟨oC,hoC,fun v z=>by (rw [rC.1] at z;cases z)⟩)
   show wpAny _ _ (assign (.Name x pos') X.env (.ref D)) _ _ _
   refine thn (Yq hN hix hlx hf _ s6 σ H5 (.ref D) (.ref D) _ IP rfl qn) fun _ s7 ⟨σ7,H7,I7,q7⟩=>?_
   obtain ⟨g1,g2,_⟩:=I7.pin (s3.heap.objs.size,oC) (List.mem_append_right _ (List.mem_append_right _ (Y6 (List.mem_singleton.mpr rfl) hoC)))
   refine ⟨m,⟨oC,es,ep,g1,rC⟩,fun h' sb=>wpAny_pure (wpAny_pure ⟨σ7,H7,?_,q7⟩)⟩
   exact I7.unpinned.turnedL (t':=s7.toks) (ch:=[s3.heap.objs.size]) (fun b o hb e=>sb.extBut b o (fun z=>hb (by rw [z];exact List.mem_singleton.mpr rfl)) e) (fun b hb=>by rw [List.mem_singleton.mp hb];exact hC g2)
  ·obtain ⟨go,N,hN,step⟩:=go
   refine thn (T.item (cxC X scope N' cl s3.heap.objs.size s3 H3 fp (X.pn++pins)) rfl rfl rfl hc i [] s5 σ5 H5 _ I5 (stat fr5) st5 go) fun r s6 ⟨u,hr,h6⟩=>?_
   subst hr
   refine thn h6 fun _ s7 ⟨x,H7,I7,r7,y7,st7,fr7⟩=>?_
   have I7':=I7.pinned (stat fr7) (T.obj _ _ st7)
   have again:∀ {s8:Shared} {σ8:St} {H8:Hp} {ys':List V},Inv (cxC X scope N' cl s3.heap.objs.size s3 H3 fp (X.pn++pins)) ([]++WB fp s7.heap) σ8 H8 s8→(∃ m',m'<n∧W (i+1) m' ys' σ8 H8) →
     ∃ m,m<n∧∃ i ys σ' H',Inv (cxC X scope N' cl s3.heap.objs.size s3 H3 fp (X.pn++pins)) [] σ' H' s8∧tn i s8.heap∧(∀ b∈fp,H' b=none)∧W i m ys σ' H':=fun {s8 σ8 H8 ys'} I8 ⟨m',hm,w8⟩=>by
    refine ⟨m',hm,i+1,ys',σ8,H8,I8.unpinned,T.keep _ _ _ st7 fun b hb o e=>(I8.pin (b,o) (List.mem_append_right _ (List.mem_append_right _ (Y6 hb e)))).1,fun b hb=>?_,w8⟩
    obtain ⟨o,e,d⟩:=T.obj _ _ st7 b hb
    exact (I8.pin (b,o) (List.mem_append_right _ (List.mem_append_right _ (Y6 hb e)))).2.1
   refine thn (hg cl _ s3 H3 fp _ _ s7 σ5 H7 x u _ I7' r7 (step x H7 y7)) fun _ s8 ⟨σ8,H8,I8,q8⟩=>?_
   refine thn (ht cl _ s3 H3 fp _ _ s8 σ8 H8 _ I8 q8) fun ok s9 ⟨H9,I9,q9⟩=>?_
   cases ok with
   | false=>exact again I9 (hN _ _ _ q9)
   | true =>
    rw [if_pos rfl]
    refine thn (he cl _ s3 H3 fp _ _ s9 σ8 H9 _ I9 q9) fun y s10 ⟨yv,H10,I10,r10,q10⟩=>?_
    obtain ⟨hDy,hlen,w10⟩:=q10
    refine thn (Xs (X:=cxC X scope N' cl s3.heap.objs.size s3 H3 fp (X.pn++pins)) _ s10 σ8 H10 (.ref D) [yv] (.ref D) [y] (fun _ H'=>H'=upd H10 D (.lst (ys++[yv]))) I10 rfl (.cons r10 .nil) ⟨D,ys,yv,rfl,rfl,hDy,hlen,rfl⟩) fun _ s11 ⟨_,H11,I11,_,e11⟩=>?_
    subst e11
    exact again I11 (hN _ _ _ w10)
 exact codeAny_compStart_list loop (T.self _ 0 _ _ _ (T.keep _ _ _ st3 fun b _ o e=>keep4 b o e) loop)
end
end L2
namespace L2
open PySem PySem.Spec PyProof.Rows
structure Fly (P:Program) (w:World) (l:List Env) (H:Hp) (h:Heap) (e:Addr) (cls:Value) (H':Hp) (h' B:Heap):Prop where
 fl:∃ a0,Heap.FlyingW B l e cls a0 h'
 hok:HOk P w H' B
 keep:∀ b o,h.get? b=some o→H b=none→b∉frs l→B.get? b=some o
 slot:∀ b o,h.get? b=some o→H b=none→b∈frs l→∃ sl,h'.get? b=some { o with slots:=sl }
 al:∀ b o,h.get? b=some o→b∉frs l→∃ o',B.get? b=some o'
 free:∀ b o,h.get? b=some o→H b=none→H' b=none
 tups:∀ b xs,H b=some (.tup xs)→H' b=some (.tup xs)
 frzs:∀ b o u,H b=some (.frz o u)→H' b=some (.frz o u)
 tbls:∀ b ps,H b=some (.tbl ps)→∃ more,H' b=some (.tbl (ps++more))
section
variable {P:Program} {w:World} {l:List Env} {H H':Hp} {h h' h'' B:Heap} {e:Addr} {cls:Value}
theorem Fly.un (F:Fly P w l H h e cls H' h' B) (hf:∀ b∈frs l,H b=none):Un (frs l) [] H H' h h':=by
 obtain ⟨a0,fl⟩:=F.fl
 refine ⟨fun b o q n hb _=>fl.1 b o (F.keep b o q n hb),fun b o q n hb _=>F.slot b o q n hb,fun b o q n _=>F.free b o q n,fun b o q _=>?_,F.tups,F.frzs,F.tbls⟩
 by_cases hb:b∈frs l
 ·obtain ⟨sl,z⟩:=F.slot b o q (hf b hb) hb
  exact ⟨_,z⟩
 ·obtain ⟨o',z⟩:=F.al b o q hb
  exact ⟨o',fl.1 b o' z⟩
theorem Fly.held (F:Fly P w l H h e cls H' h' B):HOk P w H' h':=by
 obtain ⟨a0,fl⟩:=F.fl
 exact F.hok.kept fl.1
theorem Fly.on (F:Fly P w l H h e cls H' h' B) (fl:∃ a0,Heap.FlyingW B l e cls a0 h'') (nf:∀ b∈frs l,∀ o,h.get? b=some o→∀ vs,o.data ≠ .fields vs) (sm:h'.UpToSlots h''):Fly P w l H h e cls H' h'' B :=
 ⟨fl,F.hok,F.keep,fun b o q n hb=>by
  obtain ⟨sl,z⟩:=F.slot b o q n hb
  obtain ⟨sl',z'⟩:=sm b _ z (nf b hb o q)
  exact ⟨sl',z'⟩,F.al,F.free,F.tups,F.frzs,F.tbls⟩
end
section
variable {X:Cx} {pins:List (Addr×Obj)} {σ:St} {H H':Hp} {s s':Shared} {h' B:Heap} {e:Addr} {cls:Value} {M:Model} {A:Around} {Q:Unit→Shared→Prop} {EE:Value→Shared→Prop}
theorem Inv.notL (I:Inv X pins σ H s) {b:Addr} {o:Obj} (q:X.s₀.heap.get? b=some o):b≠X.env.locals:=Nat.ne_of_lt (Nat.lt_of_lt_of_le (Heap.lt_size q) I.ok.above)
theorem Inv.notStk (I:Inv X pins σ H s) (hf:X.env.frame=some X.env.locals) {b:Addr} {o:Obj} (q:X.s₀.heap.get? b=some o) (n:b∉X.fs):b∉frs (X.env::X.outer):=fun z=>by
 unfold frs at z
 rw [List.filterMap_cons,hf] at z
 rcases List.mem_cons.mp z with z | z
 ·exact I.notL q z
 ·exact n z
theorem Inv.inStk (I:Inv X pins σ H s) (hf:X.env.frame=some X.env.locals) {b:Addr} (n:b∈X.fs):b∈frs (X.env::X.outer):=by
 unfold frs
 rw [List.filterMap_cons,hf]
 exact List.mem_cons_of_mem _ n
theorem Inv.leave_made {vs:List Value} (I:Inv X pins σ H s) (hs:X.stack=X.env::X.outer) (hf:X.env.frame=some X.env.locals) (hex:X.ex=[]) (hA:A.frames=some (X.env::X.outer)) (hm:Heap.MadeExcOf s.heap h' e cls vs)
  (hQ:∀ h'' B,Fly X.prog X.w X.outer X.H₀ X.s₀.heap e cls H h'' B→Q () { s with heap:=h'' }):wpAny M A (leaving X.env (.ref e)) Q EE { s with heap:=h' }:=by
 have nx:∀ b:Addr,b∉X.ex:=by
  rw [hex]
  intro b z
  cases z
 have st:=I.stack
 have sf:=I.stkFree
 rw [hs] at st sf
 refine wpAny_leaves_madeW (base:=PySem.W.hideAll s.heap (frs (X.env::X.outer))) (h:=s.heap) hA hf (fun b o q=>PySem.W.of_hideAll _ q) (PySem.W.funFrames_hide st fun env he a ha=>List.mem_filterMap.mpr ⟨env,he,ha⟩) hm fun h'' t x1 x2 x3 x4=>hQ h'' (PySem.W.hideAll s.heap (frs (X.env::X.outer))) ?_
 refine ⟨⟨_,x1⟩,fun b u q=>?_,fun b o q n nb=>PySem.W.hideAll_get _ (I.base.keep b o q n nb (nx b)) (I.notStk hf q nb),fun b o q n hb=>?_,fun b o q nb=>?_,fun b o q n=>I.base.free b o q n (nx b),I.base.tups,I.base.frzs,I.base.tbls⟩
 ·refine (I.hok b u q).stay (fun c v hc r=>PySem.W.hideAll_get _ r fun z=>?_) (fun _ z=>z) fun _ _ z=>z
  have n:=sf c z
  rcases hc with rfl | hc
  ·rw [n] at q;cases q
  ·rw [n] at hc;cases hc
 ·obtain ⟨sl,e1⟩:=I.base.slot b o q n hb (nx b)
  obtain ⟨_,o',e',d⟩:=I.ok.funs.mem hb
  rw [q] at e'
  cases e'
  obtain ⟨sl',e2⟩:=x4 b _ (hm.keeps b _ e1) d
  exact ⟨sl',e2⟩
 ·obtain ⟨o',e1⟩:=I.base.there b o q (nx b)
  exact ⟨o',PySem.W.hideAll_get _ e1 (I.notStk hf q nb)⟩
theorem Inv.leave_on (I:Inv X pins σ H s) (hs:X.stack=X.env::X.outer) (hf:X.env.frame=some X.env.locals) (hex:X.ex=[]) (hA:A.frames=some (X.env::X.outer)) (F:Fly X.prog X.w X.stack H s.heap e cls H' s'.heap B)
  (hQ:∀ h'',Fly X.prog X.w X.outer X.H₀ X.s₀.heap e cls H' h'' B→Q () { s' with heap:=h'' }):wpAny M A (leaving X.env (.ref e)) Q EE s':=by
 have nx:∀ b:Addr,b∉X.ex:=by
  rw [hex]
  intro b z
  cases z
 rw [hs] at F
 obtain ⟨a0,fl⟩:=F.fl
 refine wpAny_leaves_onW hA hf fl fun h'' x1 x2=>hQ h'' ?_
 refine ⟨⟨_,x1⟩,F.hok,fun b o q n nb=>F.keep b o (I.base.keep b o q n nb (nx b)) (I.base.free b o q n (nx b)) (I.notStk hf q nb),fun b o q n hb=>?_,fun b o q nb=>?_,fun b o q n=>?_,fun b xs q=>F.tups b xs (I.base.tups b xs q),fun b o u q=>F.frzs b o u (I.base.frzs b o u q),fun b ps q=>?_⟩
 ·obtain ⟨sl,e1⟩:=I.base.slot b o q n hb (nx b)
  obtain ⟨sl1,e2⟩:=F.slot b _ e1 (I.base.free b o q n (nx b)) (I.inStk hf hb)
  obtain ⟨_,o',e',d⟩:=I.ok.funs.mem hb
  rw [q] at e'
  cases e'
  obtain ⟨sl',e3⟩:=x2 b _ e2 d
  exact ⟨sl',e3⟩
 ·obtain ⟨o',e1⟩:=I.base.there b o q (nx b)
  exact F.al b o' e1 (I.notStk hf q nb)
 ·obtain ⟨o',e1⟩:=I.base.there b o q (nx b)
  exact F.free b o' e1 (I.base.free b o q n (nx b))
 ·obtain ⟨m1,e1⟩:=I.base.tbls b ps q
  obtain ⟨m2,e2⟩:=F.tbls b _ e1
  exact ⟨m1++m2,by rw [e2,Array.append_assoc]⟩
end
def CXF (P:Program) (w:World):CXT:=fun l H s E e s'=>∃ (a:Addr) (cls:Value) (H':Hp) (B:Heap),e = .ref a∧s'.os=s.os∧AllBare s'.gens∧Fly P w l H s.heap a cls H' s'.heap B∧E cls none H'
abbrev Gx.cxX (g:Gx) (N:List Str) (qual:Str) (st:Stmt) (f:Addr) (cdv:Value) (A:Around) (outer:List Env) (s:Shared) (H:Hp) (E:XK):Cx:=Vv (CXF g.P g.w) g.P g.w g.K g.mg g.base N qual (Yh st) f cdv A outer s H E
section
variable {g:Gx} {N:List Str} {qual:Str} {st:Stmt} {f:Addr} {cdv:Value} {A:Around} {outer:List Env} {s:Shared} {H:Hp} {E:XK}
theorem YS:XL (CXF g.P g.w) (g.cxX N qual st f cdv A outer s H E) E:=by
 intro pins σ H1 s1 e s' I hq
 obtain ⟨a,cls,H',B,he,os,bare,F,q⟩:=hq
 subst he
 exact I.leave_on rfl rfl rfl I.ok.frames F fun h'' F'=>⟨a,cls,H',B,rfl,os.trans I.os,bare,F',q⟩
def YcZ (X:Cx) (E:XK):Prop:=∀ (pins:List (Addr×Obj)) (σ:St) (H:Hp) (s:Shared) (h':Heap) (e:Addr) (cls:Value) (vs:List Value),Inv X pins σ H s→Heap.MadeExcOf s.heap h' e cls vs→E cls none H→X.xe (.ref e) { s with heap:=h' }
theorem YX:YcZ (g.cxX N qual st f cdv A outer s H E) E:=by
 intro pins σ H1 s1 h' e cls vs I hm q
 exact I.leave_made rfl rfl rfl I.ok.frames hm fun h'' B F=>⟨e,cls,H1,B,rfl,I.os,I.bare,F,q⟩
end
def Gx.FnX (g:Gx) (k:Nat) (x:Str) (ps:List Str) (sp:Sp):Prop:=∃ f fd,FnOk g.P g.w g.K g.mg g.base (CXF g.P g.w) k f fd ps sp∧Xr g.K fd ps []∧PySem.W.keepIn g.K (.ref f)=true∧g.mg x=some (.ref f)
def YeB (g:Gx) (k:Nat) (N:List Str) (qual:Str) (st:Stmt) (sp:Sp):Prop:=∀ (f:Addr) (cdv:Value) (A:Around) (outer:List Env) (s:Shared) (H:Hp) (vs:List V) (Q:VK) (E:XK),Room k (g.cxX N qual st f cdv A outer s H E).A→sp vs H Q E →
 ∃ t,PSs (g.cxX N qual st f cdv A outer s H E) (Xd st) t∧t { nx:=fun _ H'=>Q .non H',rt:=Q } (Wl N vs) H
section
variable {g:Gx} {k:Nat} {x qual m:Str} {st:Stmt} {N ps:List Str} {sp:Sp} {C:Addr}
theorem Gx.Raw.fnX (R:g.Raw x qual st ps) (S:FnScope N ps (Yh st)) (len:∀ vs H Q E,sp vs H Q E→vs.length=ps.length) (b:YeB g k N qual st sp):g.FnX (k+1) x ps sp:=by
 obtain ⟨f,fd,F,bd,hm⟩:=R
 refine ⟨f,fd,?_,bd,F.kp,hm⟩
 obtain ⟨oc,od,kV,doc,pm,an,cdv,ct,osl,rfl,lk,hcd⟩:=F.ex
 exact Yb9 lk hcd S len fun A outer s H vs Q E hr h=>b f cdv A outer s H vs Q E hr h
theorem Gx.FnX.mono {j:Nat} (F:g.FnX j x ps sp) (h:j≤k):g.FnX k x ps sp:=by
 obtain ⟨f,fd,F,r⟩:=F
 exact ⟨f,fd,F.mono h,r⟩
theorem Gx.Raw.noneX (R:g.Raw x qual st ps) (no:∀ vs H Q E,¬ sp vs H Q E):g.FnX k x ps sp:=by
 obtain ⟨f,fd,F,bd,hm⟩:=R
 exact ⟨f,fd,⟨fun vs H Q E h=>absurd h (no vs H Q E),fun A outer s H args us vs Q E _ _ _ _ h=>absurd h (no vs H Q E)⟩,bd,F.kp,hm⟩
end
section
variable {g:Gx} {X:Cx} {k j:Nat} {x:Str} {ps:List Str} {sp:Sp} {E:XK} {e:Expr} {es:List Expr} {t:TA} {p pos cpos np:Pos}
theorem YI (F:g.FnX j x ps sp) (hr:Room k X.A) (hp:XL (CXF g.P g.w) X E) (ha:PA X (e::es) t) (hj:j≤k) (hX:X.gx=g) (hg:Gl X x) (hdb:(x==("__debug__":Str))=false)
  (he:starEach (e::es) X.env=(false,eval e X.env)::starEach es X.env) (hpl:(backTo pos (starEach es X.env)).any (·.1)=false):PE X (.Call (.Name x p) (e::es) [] pos) (QU sp [] E t):=by
 subst hX
 obtain ⟨f,fd,F,b,kp,hm⟩:=F
 exact Ybn F (hr.mono hj) hg hm kp b .nil hp ha hdb he hpl
theorem PS.nox {st:Stmt} {t:TS} (h:PS X.nox st t):PS X st t:=fun pins s σ H D I hw =>
 wpAny_mono (h pins s σ H D (I.wish _) hw) (fun _ _ q=>q.unwish) fun _ _ z=>False.elim z
abbrev YY:List Value:=[.type "ValueError",.type "Exception",.type "BaseException",.type "object"]
structure Gx.Exc (g:Gx) (x:Str) (C:Addr):Prop where
 bound:g.mg x=some (.ref C)
 own:PySem.W.excIn g.K C YY "ValueError.__new__"=true
theorem Yfc {K:PySem.W.Frag} {h:Heap} {C:Addr} {tl:List Value} {nw:String} (In:K.In h) (q:PySem.W.excIn K C tl nw=true) :
  ∃ (bm:List Value) (ns:Addr) (nm qn:Str) (bs:List Value) (hd:Bool) (sn:List Str) (sub:List Value) (ab:Bool) (col:Option Bool) (dd:Option Addr) (k0 k1 k2 k3 k5:Option Value) (mN:Str→Option Value),
   h.get? C=some (excClassObj nm qn C ns bs bm hd sn sub ab col dd k0 k1 k2 k3 k5 nw)∧h.Ns ns mN∧mN "__init__"=none∧OwnTail h tl bm:=by
 unfold PySem.W.excIn at q
 split at q
 case h_2=>exact absurd q (by decide)
 case h_1 dd cd sl lk =>
  split at q
  case h_2=>exact absurd q (by decide)
  case h_1 c2 bm k0 k1 k2 k3 n k5 em es =>
   simp only [beq_iff_eq,Bool.and_eq_true,Bool.not_eq_true'] at q
   obtain ⟨⟨⟨⟨⟨q1,q2⟩,q3⟩,q4⟩,q5⟩,q6⟩:=q
   obtain ⟨nm,bs,mro,ns,qn,hd,sn,sub,ab,col,del⟩:=cd
   obtain ⟨lst⟩:=sl
   dsimp only at em q3 q5 q6 es
   subst q1 q2 em q3 es
   exact ⟨bm,ns,nm,qn,bs,hd,sn,sub,ab,col,dd,k0,k1,k2,k3,k5,_,In _ _ lk,.of_isNs (PySem.W.isNs_of_in In q5),PySem.W.nsMap_none_of_in In q5 q6,PySem.W.tail_of_in In q4⟩
def Yc0 (C:Addr) (E:XK) (t:TA):TS:=fun _ σ H=>t σ H fun vs H1=>vs.length≤sizeLine∧E (.ref C) none H1
theorem YN {C:Addr} (hC:g.Exc x C) (hR:YcZ X E) (ha:PA X (e::es) t) (hc:X.calm=true) (hX:X.gx=g) (hg:Gl X x) (hdb:(x==("__debug__":Str))=false)
  (he:starEach (e::es) X.env=(false,eval e X.env)::starEach es X.env) (hpl:(backTo cpos (starEach es X.env)).any (·.1)=false) :
  PS X (.Raise (some (.Call (.Name x np) (e::es) [] cpos)) none pos) (Yc0 C E t):=by
 subst hX
 intro pins s σ H D I h
 obtain ⟨bm,ns,nm,qn,bs,hd,sn,sub,ab,col,dd,k0,k1,k2,k3,k5,mN,hO,hN,hni,T⟩:=Yfc I.mod.kin hC.own
 refine wpAny_Raise_call_subT (C:=C) (nm:=nm) (q:=qn) (N:=ns) (bs:=bs) (bm:=bm) (hdct:=hd) (sn:=sn) (sub:=sub) (ab:=ab) (col:=col) (dd:=dd) (k0:=k0) (k1:=k1) (k2:=k2) (k3:=k3) (k5:=k5)
  F.excBase_ValueError (mN:=mN) (T.hasType F.excBase_ValueError.hasBase) (I.ok.hd hc) ?_ hni (WL I hg hC.bound ⟨rfl,?_⟩ hdb)
 ·rw [he]
  show (false||(backTo cpos (starEach es X.env)).any (·.1))=false
  rw [hpl];rfl
 ·have a1:=ha cpos pins s σ H _ I h
  rw [he] at a1 ⊢
  refine Calls.evalArgs_plain (wpAny_mono a1 (fun us s2 hz=>?_) fun _ _ y=>y)
  obtain ⟨vs,H2,I2,r,q1,q2⟩:=hz
  exact ⟨rfl,by rw [← r.length];exact q1,I2.bk _ _ hO,hN.keeps I2.bk,T.keeps I2.bk,fun h' e hm=>hR pins σ H2 s2 h' e _ us I2 hm q2⟩
end
abbrev Cx.caught (X:Cx) (e:Addr):Cx:={ X with A:=X.A.mark (some (.ref e)),calm:=false,xe:=fun _ _=>False }
section
variable {X:Cx} {pins:List (Addr×Obj)} {σ:St} {H H' H1:Hp} {s s1 s':Shared} {e:Value} {D:Ends} {ts:TS} {b₀:Stmt} {suite:List Stmt} {c:Str} {cv:Value} {cp hpos:Pos}
theorem Inv.caught (I:Inv X pins σ H s) (a:Addr):Inv (X.caught a) pins σ H s :=
 ⟨⟨I.ok.mod,I.ok.kind,I.ok.glob,I.ok.blt,I.ok.above,I.ok.inj,I.ok.has,I.ok.cab,fun z=>(by cases z),I.ok.frames,I.ok.stk,I.ok.exf,I.ok.bs,I.ok.bsz,I.ok.noex,I.ok.exfs,I.ok.funs,I.ok.frf⟩,I.os,I.bare,I.base,I.loc,I.cell,I.free,I.freeC,I.pin,I.hok,I.len⟩
theorem Inv.uncaught {a:Addr} (hd:X.calm=true→X.A.handled=none) (I:Inv (X.caught a) pins σ H s):Inv X pins σ H s :=
 ⟨⟨I.ok.mod,I.ok.kind,I.ok.glob,I.ok.blt,I.ok.above,I.ok.inj,I.ok.has,I.ok.cab,hd,I.ok.frames,I.ok.stk,I.ok.exf,I.ok.bs,I.ok.bsz,I.ok.noex,I.ok.exfs,I.ok.funs,I.ok.frf⟩,I.os,I.bare,I.base,I.loc,I.cell,I.free,I.freeC,I.pin,I.hok,I.len⟩
theorem Inv.seen {a:Addr} {cls:Value} {B:Heap} (I:Inv X pins σ H1 s1) (F:Fly X.prog X.w X.stack H1 s1.heap a cls H' s'.heap B) (os:s'.os=s1.os) (bare:AllBare s'.gens):Inv X pins σ H' s' :=
 I.call' (ch:=[]) os (F.un I.stkFree) F.held bare fun b z=>nomatch z
theorem Inv.stkData (I:Inv X pins σ H1 s1):∀ b∈frs X.stack,∀ o,s1.heap.get? b=some o→∀ vs,o.data ≠ .fields vs:=fun b hb o q=>by
 obtain ⟨_,o',e',d⟩:=I.stack.mem hb
 rw [q] at e'
 cases e'
 exact d
end
def tTry (K:PySem.W.Frag) (cv:Value) (sp:Sp) (t:TA) (i:Nat) (ts:TS):TS:=fun D σ H=>t σ H fun vs H1=>sp (vs++[]) H1 (fun v H2=>D.nx (σ.set i (some v)) H2) (fun cls _ H2=>PySem.W.exmOne K cls cv=some true∧ts D σ H2)
section
variable {g:Gx} {X:Cx} {k j i:Nat} {x f c:Str} {ps:List Str} {sp:Sp} {e:Expr} {es:List Expr} {t:TA} {ts:TS} {b₀:Stmt} {suite:List Stmt} {cv:Value} {fp px cp hpos apos cpos pos:Pos}
end
end L2
namespace L2
open PySem PySem.Spec PyProof.Rows
section
variable {prog:Program} {w:World} {A:Around} {E:Value→Shared→Prop} {s:Shared}
open AutoSeq1 (wpAny_loadPart') in
end
section
variable {X:Cx} {elts:List Expr} {kk:Nat} {tpos:Pos}
end
section
variable {g:TG} {tb:TS} {D:Ends} {σ:St} {H:Hp}
end
end L2
namespace L2
open PySem PySem.Spec PyProof.Rows
section
variable {prog:Program} {w:World} {A:Around} {E:Value→Shared→Prop} {s:Shared}
open AutoSeq1 (wpAny_loadPart') in
end
end L2
namespace L2
open PySem PySem.Spec PyProof.Rows
section
variable {X:Cx} {elts:List Expr} {kk:Nat} {tpos:Pos}
end
section
variable {g:TG} {tb:TS} {D:Ends} {σ:St} {H:Hp}
end
section
variable {X:Cx} {tg:Expr}
end
end L2
namespace L2
open PySem PySem.Spec PyProof.Rows
def WT (a:Addr) (cls:Value):HO := .ext fun h=>∃ o vs,h.get? a=some o∧o.cls=cls∧o.data = .fields vs
section
variable {P:Program} {w:World} {l:List Env} {H H':Hp} {h h' h'' B:Heap} {a e:Addr} {cls:Value} {o:HO}
theorem YT.alive (x:YT P w H h a o):∃ u,h.get? a=some u:=by
 cases o with
 | lst xs=>obtain ⟨_,_,_,_,e⟩:=x;exact ⟨_,e⟩
 | tup xs=>obtain ⟨_,_,_,u,e,_⟩:=x;exact ⟨_,e⟩
 | dK kvs=>obtain ⟨_,_,_,_,o,_,_,e,_⟩:=x;exact ⟨_,e⟩
 | dT kvs=>obtain ⟨_,_,_,_,o,_,_,e,_⟩:=x;exact ⟨_,e⟩
 | set S n=>obtain ⟨o,_,_,_,e,_⟩:=x;exact ⟨_,e⟩
 | ins C dx fs=>obtain ⟨_,_,_,e,_⟩:=x;exact ⟨_,e⟩
 | own y=>exact x
 | xd fs=>obtain ⟨_,⟨_,_,_,e,_⟩,_⟩:=x;exact ⟨_,e⟩
 | rng lo hi=>obtain ⟨_,_,_,e⟩:=x;exact ⟨_,e⟩
 | frz ob u=>obtain ⟨e,_⟩:=x;exact ⟨_,e⟩
 | tbl ps=>exact ⟨_,(show h.get? a=some _ from x)⟩
 | met f y=>exact ⟨_,(show h.get? a=some _ from x)⟩
 | ext φ=>exact x.2.1
theorem Fly.new (F:Fly P w l H h e cls H' h' B) (hf:∀ b∈frs l,H b=none) (nf:∀ b∈frs l,∀ o,h.get? b=some o→∀ vs,o.data ≠ .fields vs):h.get? e=none:=by
 obtain ⟨a0,fl⟩:=F.fl
 cases q:h.get? e with
 | none=>rfl
 | some o =>
  by_cases hb:e∈frs l
  ·obtain ⟨sl,z⟩:=F.slot e o q (hf e hb) hb
   obtain ⟨oe,vs,z',_,d,_⟩:=fl.first
   rw [z] at z'
   cases z'
   exact absurd d (nf e hb o q vs)
  ·obtain ⟨o',z⟩:=F.al e o q hb
   rw [fl.2.1] at z
   cases z
theorem Fly.out (F:Fly P w l H h e cls H' h' B):H' e=none:=by
 obtain ⟨a0,fl⟩:=F.fl
 cases q:H' e with
 | none=>rfl
 | some u =>
  obtain ⟨o,z⟩:=(F.hok e u q).alive
  rw [fl.2.1] at z
  cases z
theorem Fly.track (F:Fly P w l H h e cls H' h' B) (hf:∀ b∈frs l,H b=none) (nf:∀ b∈frs l,∀ o,h.get? b=some o→∀ vs,o.data ≠ .fields vs) :
  Un (frs l) [] H (upd H' e (WT e cls)) h h'∧HOk P w (upd H' e (WT e cls)) h':=by
 have n1:=F.new hf nf
 have n2:=F.out
 have u:=F.un hf
 have ok:=F.held
 obtain ⟨a0,fl⟩:=F.fl
 refine ⟨⟨u.keep,u.slot,fun b o q n hx=>?_,u.there,fun b xs q=>?_,fun b o x q=>?_,fun b ps q=>?_⟩,fun b x q=>?_⟩
 ·rw [Yt (fun z=>by rw [z,n1] at q;cases q)]
  exact u.free b o q n hx
 ·rw [Yt (YB (u.tups b xs q) n2)]
  exact u.tups b xs q
 ·rw [Yt (YB (u.frzs b o x q) n2)]
  exact u.frzs b o x q
 ·obtain ⟨m,z⟩:=u.tbls b ps q
  exact ⟨m,by rw [Yt (YB z n2)];exact z⟩
 ·by_cases hb:b=e
  ·subst hb
   rw [Ye] at q
   cases q
   obtain ⟨oe,vs,z1,z2,z3,_⟩:=fl.first
   exact ⟨⟨oe,vs,z1,z2,z3⟩,⟨oe,z1⟩,fun h1 h2 p k=>by obtain ⟨o,vs,y1,y2,y3⟩:=p;exact ⟨o,vs,k o y1,y2,y3⟩⟩
  ·rw [Yt hb] at q
   exact (ok b x q).stay (fun c v _ r=>r) (fun c r=>by rw [Yt (YB r n2)];exact r) fun c xs r=>by rw [Yt (YB r n2)];exact r
end
section
variable {X:Cx} {pins:List (Addr×Obj)} {σ:St} {H H' H1:Hp} {s s1 s':Shared}
theorem Yfd {M:Model} {A:Around} {E:Value→Shared→Prop} {j:Nat} {n:Str} {pos:Pos} {Q:Unit→Shared→Prop} (I:Inv X pins σ H s) (hN:X.N.Nodup) (hj:X.N[j]?=some n) (hk:X.env.scope.names.lookup n=some .local)
  (h:∀ s',Inv X pins (σ.set j none) H s'→Q () s'):wpAny M A (do bindName X.env n .none;unbindBehindTheSuite X.env n pos) Q E s:=by
 obtain ⟨m,hn,hl⟩:=id I.loc
 have hcls:(X.env.scope.kind == .class||(X.env.scope.kind == .module&&X.env.locals != X.env.globals))=false:=by rw [I.ok.kind];rfl
 have cne:=I.cne
 have tracked:∀ {a:Addr} {h':Heap},(∃ o,s.heap.get? a=some o∧H a=none)→Heap.SameBut a s.heap h'→HOk X.prog X.w H h':=fun {a h'} ha hs b ob e=>by
  obtain ⟨_,_,hfree⟩:=ha
  refine (I.hok b ob e).stay (fun c w' hc q=>(hs.2 c ?_).trans q) (fun _ q=>q) fun _ _ q=>q
  rintro rfl
  rcases hc with rfl | hc
  ·rw [hfree] at e;cases e
  ·rw [hfree] at hc;cases hc
 refine wpAny_nameGoes_keeps hk hn hcls fun h' v hn' hs=>?_
 obtain ⟨oL,_,_,hoL,_⟩:=id hn
 refine h _ ⟨I.ok,I.os,I.bare,⟨fun b o e n hb hx=>?_,fun b o e n hb hx=>?_,I.base.free,fun b o e hx=>?_,I.base.tups,I.base.frzs,I.base.tbls⟩,⟨_,hn',fun i y v' e1 e2 e3=>?_⟩,fun y c e=>?_,I.free,I.freeC,fun p hp=>?_,tracked ⟨oL,hoL,I.free⟩ hs,by simpa using I.len⟩
 ·exact (hs.2 b (I.notL e)).trans (I.base.keep b o e n hb hx)
 ·obtain ⟨sl,e1⟩:=I.base.slot b o e n hb hx
  exact ⟨sl,(hs.2 b (I.notL e)).trans e1⟩
 ·obtain ⟨o',e1⟩:=I.base.there b o e hx
  exact ⟨o',(hs.2 b (I.notL e)).trans e1⟩
 ·by_cases hji:i=j
  ·subst hji
   rw [List.getElem?_set] at e2
   split at e2
   ·split at e2<;>cases e2
   ·rename_i z;exact absurd rfl z
  ·rw [List.getElem?_set_ne (Ne.symm hji)] at e2
   obtain ⟨u',r',q⟩:=hl i y v' e1 e2 e3
   refine ⟨u',r',?_⟩
   rcases q with ⟨k,e⟩ | ⟨k,c,e,z⟩
   ·refine .inl ⟨k,?_⟩
    have:y≠n:=fun e=>hji (Uy hN e1 (e▸hj))
    simp [this,e]
   ·exact .inr ⟨k,c,e,z.sameBut hs (cne y c e)⟩
 ·obtain ⟨w',z⟩:=I.cell y c e
  exact ⟨w',z.sameBut hs (cne y c e)⟩
 ·obtain ⟨e,n,ne,nf,d⟩:=I.pin p hp
  exact ⟨(hs.2 p.1 ne).trans e,n,ne,nf,d⟩
end
def Ends.gone (D:Ends) (j:Nat):Ends:={ nx:=fun σ H=>D.nx (σ.set j none) H,rt:=D.rt,bk:=fun σ H=>D.bk (σ.set j none) H,ct:=fun σ H=>D.ct (σ.set j none) H }
section
variable {X:Cx} {pins:List (Addr×Obj)} {σ:St} {H H' H1:Hp} {s s1 s':Shared} {e:Value} {D:Ends} {ts:TS} {b₀:Stmt} {suite:List Stmt} {c n:Str} {cv:Value} {cp hpos:Pos} {j:Nat}
theorem Inv.catchAs (I:Inv X pins σ H1 s1) (hs:X.stack=X.env::X.outer) (hf:X.env.frame=some X.env.locals) (hN:X.N.Nodup) (hj:X.N[j]?=some n) (hk:X.env.scope.names.lookup n=some .local)
  (hq:CXF X.prog X.w X.stack H1 s1 (fun cls _ H2=>PySem.W.exmOne X.K cls cv=some true∧∀ a,H2 a=none→ts (D.gone j) (σ.set j (some (.ref a))) (upd H2 a (WT a cls))) e s')
  (hsu:∀ a,PSs (X.caught a) (b₀::suite) ts) (hc:Gl X c) (hcm:X.mg c=some cv) (hdb:(c==("__debug__":Str))=false) :
  wpAny (model X.prog X.w) X.A (noteFrame e X.env) (fun _ s₂=>wpAny (model X.prog X.w) X.A (setFlight e none) (fun _ s₃=>wpAny (model X.prog X.w) X.A (handleBy e X.env [.ExceptHandler (some (.Name c cp)) (some n) (b₀::suite) hpos]) (SP X pins D) X.xe s₃) X.xe s₂) X.xe s':=by
 obtain ⟨a,cls,H2,B,rfl,os,bare,F,hm,ht⟩:=hq
 obtain ⟨a0,fl⟩:=F.fl
 have nf:=I.stkData
 have fl':=fl
 rw [hs] at fl'
 have hfr:=I.ok.frames
 rw [hs] at hfr
 refine wpAny_looks_onW hfr hf fl' fun h₄ held sm4=>wpAny_landsW held fun h₅ fl5 sm5=>?_
 rw [← hs] at fl5
 have F5:=F.on ⟨a0,fl5⟩ nf (sm4.trans sm5)
 have I5:Inv X pins σ H2 { s' with heap:=h₅ }:=I.seen (s':={ s' with heap:=h₅ }) F5 os bare
 have I5c:=I5.caught a
 refine wpAny_handleBy_cons (codeAny_handlers_test (WL I5c hc hcm ?_ hdb)) (by intro q;cases q)
 obtain ⟨ob,hob,hcl⟩:=fl5.there
 have LT:PySem.W.Looks (model X.prog X.w) h₅ (typeOf (.ref a)) cls:=by
  subst hcl
  exact (PySem.W.Looks.ld hob).andThen .now
 refine PySem.W.exm_one (K:=X.K) (h:=h₅) I5.kIn LT hm _ _ _ _ (fun _ _ z=>z) ?_
 refine codeAny_handlers_suite_as ?_
 refine lands_againW fl5 fun h₆ fl6 sm6=>?_
 have F6:=F5.on ⟨a0,fl6⟩ nf sm6
 obtain ⟨u6,ok6⟩:=F6.track I.stkFree nf
 have I6:Inv X pins σ (upd H2 a (WT a cls)) { s' with heap:=h₆ }:=I.call' (s':={ s' with heap:=h₆ }) (ch:=[]) os u6 ok6 bare fun b z=>nomatch z
 have I6c:=I6.caught a
 refine Vs (X:=X.caught a) I6c hN hj (.inl hk) (v := .ref a) rfl (fun s7 I7=>?_) (.inr hk)
 refine wpAny_mono (hsu a pins _ _ _ (D.gone j) I7 (ht a F6.out)) (fun f s8 z=>?_) fun _ _ z=>z.elim
 have key:∀ {σ':St} {H':Hp} {Q:St→Hp→Prop},Inv (X.caught a) pins σ' H' s8→Q (σ'.set j none) H'→∀ {R:Unit→Shared→Prop},(∀ s9,Inv X pins (σ'.set j none) H' s9→R () s9)→wpAny (model X.prog X.w) X.A (do bindName X.env n .none;unbindBehindTheSuite X.env n hpos) R X.xe s8 :=
  fun {σ' H' Q} J _ {R} hR=>Yfd (J.uncaught I.ok.hd) hN hj hk hR
 cases f with
 | next=>obtain ⟨σ',H',J,q⟩:=z;exact key (Q:=fun _ _=>True) J trivial fun s9 J9=>⟨_,_,J9,q⟩
 | brk=>obtain ⟨σ',H',J,q⟩:=z;exact key (Q:=fun _ _=>True) J trivial fun s9 J9=>⟨_,_,J9,q⟩
 | cont=>obtain ⟨σ',H',J,q⟩:=z;exact key (Q:=fun _ _=>True) J trivial fun s9 J9=>⟨_,_,J9,q⟩
 | ret u=>obtain ⟨v,σ',H',J,r,q⟩:=z;exact key (Q:=fun _ _=>True) J trivial fun s9 J9=>⟨v,_,_,J9,r,q⟩
end
end L2
namespace L2
open PySem PySem.Spec PyProof.Rows
def YfY (K:PySem.W.Frag) (cv:Value) (sp:Sp) (t:TA) (i j:Nat) (ts:TS):TS:=fun D σ H=>t σ H fun vs H1=>sp (vs++[]) H1 (fun v H2=>D.nx (σ.set i (some v)) H2) (fun cls _ H2=>PySem.W.exmOne K cls cv=some true∧∀ a,H2 a=none→ts (D.gone j) (σ.set j (some (.ref a))) (upd H2 a (WT a cls)))
section
variable {g:Gx} {X:Cx} {k jj i j:Nat} {x f c n:Str} {ps:List Str} {sp:Sp} {e:Expr} {es:List Expr} {t:TA} {ts:TS} {b₀:Stmt} {suite:List Stmt} {cv:Value} {fp px cp hpos apos cpos pos:Pos}
end
structure RoomM (k:Nat) (A:Around):Prop where
 dp:A.depth+3*k+5<recursionLimit
 un:A.units+16*k+200<cLine
theorem Room.m {k:Nat} {A:Around} (r:Room k A) (h:Option Value):RoomM k (A.mark h):=⟨r.dp,r.un⟩
section
variable {g:Gx} {k:Nat} {x qual:Str} {st:Stmt} {N ps:List Str} {sp:Sp}
end
section
variable {g:Gx} {X:Cx} {k j:Nat} {x:Str} {ps:List Str} {sp:Sp} {e:Expr} {es:List Expr} {t:TA} {p pos:Pos}
end
end L2
namespace PySem.W
open PySem PySem.Calls PyProof.Rows Builtin Builtin.ObjectAttr Builtin.Getset_descriptor
section
variable {prog:Program} {w:World} {A:Around} {E:Value→Shared→Prop} {K:Frag} {x C:Addr} {ox:Obj} {hh:Heap} {g:Array GenState} {d:Drawn} {t:Nat} {os:OsState}
theorem Yc1 (v:Value):bindSpecial (.builtin "BaseException.__getattribute__") v=pure (.builtin "BaseException.__getattribute__",[v]):=by
 have h1:withoutEnding? "BaseException.__getattribute__" "#opaque"=none:=by decide +kernel
 have h2:withoutEnding? "BaseException.__getattribute__" "#data"=none:=by decide +kernel
 have h3:builtinKind "BaseException.__getattribute__"=some .slot:=by decide +kernel
 simp only [bindSpecial,typeOf,builtinType,h1,h2,h3]
 rfl
theorem Yc2 {tp:Value} {R:Result→Shared→Prop} (In:K.In hh) (hx:hh.get? x=some ox) (hc:ox.cls = .ref C) (hm:mroIn K C (.type "object")=some true)
  (h:R (.ok (.ret (.ref C))) ⟨hh,g,d,t,os⟩):codeAny (model prog w) A (.call (.builtin "getset_descriptor.__get__") ⟨[.builtin "object.__class__",.ref x,tp],[]⟩) R ⟨hh,g,d,t,os⟩:=by
 have L0:Looks (model prog w) hh (typeOf (.ref x)) (.ref C):=by rw [← hc];exact (Looks.ld hx).andThen .now
 have L1:=looks_mroIn (M:=model prog w) In hm
 refine codeAny_call_builtin KF.slot_gs.plain KF.entry_gs (KF.slot_gs.check _ _ _ _ _ _ _ _ KF.type_class (KF.args_gs _ _ _) ?_)
 unfold Builtin.«getset_descriptor.__get__»
 unfold descrGet
 rw [dga_obj]
 refine wpAny_bind (wpAny_pure ?_)
 unfold descrGetter
 unfold descrCheckInstance descrNameAndClass
 unfold isInstance
 simp only [KF.owner_class]
 repeat lk
 refine ⟨Code.quiet_builtin _ (by decide +kernel),codeAny_builtin KF.entry_class ?_⟩
 unfold Builtin.«object.__class__»
 unfold shownTypeOf
 repeat lk
 exact h
theorem Yba {tk:Tok} {Q:Fin→Shared→Prop} (In:K.In hh) (hx:hh.get? x=some ox) (hc:ox.cls = .ref C) (hm:mroIn K C (.type "object")=some true) (ha:findIn K (.ref C) "__class__"=some (some (.builtin "object.__class__")))
  (hq:Q (.done (.ret (.ref C))) ⟨hh,g,d,t,os⟩):wpAny (model prog w) A (Builtin.«object.__getattribute__» ⟨[.ref x,.str "__class__" tk],[]⟩) Q E ⟨hh,g,d,t,os⟩:=by
 have hT5:(⟨hh,g,d,t,os⟩:Shared).TypeIs (.builtin "object.__class__") "getset_descriptor":=F.typeOf_object_class
 have f5:=F.typeOf_object_class
 have f6:=F.slot_gs_get.lookup
 have f7:=F.slot_gs_set.lookup
 have L3:=looks_findIn (M:=model prog w) In ha
 repeat (any_goals (first | assumption | (with_reducible refine wpAny_loadPart_at hx ?_;rw [hc]) | with_reducible refine L3.at ?_ | wp_step))
 refine Yc2 In hx hc hm ?_
 repeat (any_goals (first | assumption | wp_step))
theorem Ybb {nv:Value} {Q:Unit→Shared→Prop} (In:K.In hh) (hx:hh.get? x=some ox) (hc:ox.cls = .ref C) (hb:mroIn K C (.type "BaseException")=some true) (hq:Q () ⟨hh,g,d,t,os⟩) :
  wpAny (model prog w) A (checkBuiltinCall "BaseException.__getattribute__" ⟨[.ref x,nv],[]⟩) Q E ⟨hh,g,d,t,os⟩:=by
 have k1:builtinKind "BaseException.__getattribute__"=some .slot:=by decide +kernel
 have k2:splitId "BaseException.__getattribute__"=some ("BaseException","__getattribute__"):=by decide +kernel
 have k3:=F.args_bexc_ga (.ref x) nv
 have L1:=looks_mroIn (M:=model prog w) In hb
 simp only [checkBuiltinCall,k1,k2]
 refine wpAny_bind ?_
 unfold isInstance
 repeat (first | (with_reducible refine wpAny_loadPart_at hx ?_;rw [hc]) | with_reducible refine L1.at ?_ | wp_step)
 exact hq
theorem Yce {tk:Tok} {R:Result→Shared→Prop} (In:K.In hh) (hx:hh.get? x=some ox) (hc:ox.cls = .ref C) (hm:mroIn K C (.type "object")=some true) (hb:mroIn K C (.type "BaseException")=some true) (ha:findIn K (.ref C) "__class__"=some (some (.builtin "object.__class__")))
  (hq:R (.ok (.ret (.ref C))) ⟨hh,g,d,t,os⟩):codeAny (model prog w) A (.call (.builtin "BaseException.__getattribute__") ⟨[.ref x,.str "__class__" tk],[]⟩) R ⟨hh,g,d,t,os⟩ :=
 codeAny_call_builtin (by decide +kernel) F.entry_bexc_ga (Ybb In hx hc hb (Yba In hx hc hm ha hq))
theorem YdX {tk:Tok} {Q:Value→Shared→Prop} (In:K.In hh) (hx:hh.get? x=some ox) (hc:ox.cls = .ref C) (hm:mroIn K C (.type "object")=some true) (hb:mroIn K C (.type "BaseException")=some true) (ha:findIn K (.ref C) "__class__"=some (some (.builtin "object.__class__")))
  (hga:findIn K (.ref C) "__getattribute__"=some (some (.builtin "BaseException.__getattribute__"))) (hgt:findIn K (.ref C) "__getattr__"=some none) (hbd:bindSpecial (.builtin "BaseException.__getattribute__") (.ref x)=pure (.builtin "BaseException.__getattribute__",[.ref x])) (hq:Q (.ref C) ⟨hh,g,d,t,os⟩) :
  wpAny (model prog w) A (getAttrBy (.ref x) (.str "__class__" tk) false) Q E ⟨hh,g,d,t,os⟩:=by
 have e2:(Value.builtin "BaseException.__getattribute__"==Value.builtin "object.__getattribute__")=false:=by decide +kernel
 have e1:(onTheHeap (Value.ref C)&&Value.builtin "BaseException.__getattribute__"==Value.builtin "object.__getattribute__")=false:=by rw [e2];rfl
 have e0:(false&&onTheHeap (Value.builtin "BaseException.__getattribute__"))=false:=rfl
 have L1:=looks_findIn (M:=model prog w) In hga
 have L2:=looks_findIn (M:=model prog w) In hgt
 repeat (any_goals (first | assumption | (with_reducible refine wpAny_loadPart_at hx ?_;rw [hc]) | with_reducible refine L1.at ?_ | with_reducible refine L2.at ?_ | wp_step))
 refine Yce In hx hc hm hb ha ?_
 repeat (any_goals (first | assumption | wp_step))
theorem Ycf {Q:Option Value→Shared→Prop} (In:K.In hh) (hx:hh.get? x=some ox) (hc:ox.cls = .ref C) (hm:mroIn K C (.type "object")=some true) (hb:mroIn K C (.type "BaseException")=some true) (ha:findIn K (.ref C) "__class__"=some (some (.builtin "object.__class__")))
  (hga:findIn K (.ref C) "__getattribute__"=some (some (.builtin "BaseException.__getattribute__"))) (hgt:findIn K (.ref C) "__getattr__"=some none) (hq:Q (some (.ref C)) ⟨hh,g,d,t+1,os⟩) :
  wpAny (model prog w) A (getAttr? (.ref x) "__class__") Q E ⟨hh,g,d,t,os⟩:=by
 unfold getAttr? getAttrBy?
 refine wpAny_bind (wpAny_mkText (wpAny_bind (wpAny_attempt (YdX In hx hc hm hb ha hga hgt ?_ (wpAny_pure hq)))))
 exact Yc1 (.ref x)
theorem kitx_exc (hd:hasDictIn K C=true) (hm:mroIn K C (.type "object")=some true) (hb:mroIn K C (.type "BaseException")=some true) (ha:findIn K (.ref C) "__class__"=some (some (.builtin "object.__class__")))
  (hga:findIn K (.ref C) "__getattribute__"=some (some (.builtin "BaseException.__getattribute__"))) (hgt:findIn K (.ref C) "__getattr__"=some none):KitX K (.ref x) (.ref C) (fun h=>∃ o,h.get? x=some o∧o.cls = .ref C) where
 ty:=fun M h _ ⟨o,hx,hc⟩=>by rw [← hc];exact (Looks.ld hx).andThen .now
 it:=fun M h In _=>by
  obtain ⟨cd,e,_⟩:=any_some hd
  unfold clsIn at e
  split at e
  case h_2=>cases e
  case h_1 q =>
   intro A' Q' E' s' k z
   unfold isType
   unfold loadHead
   exact wpAny_bind (wpAny_loadPart (k _ _ (In _ _ q)) (wpAny_pure z))
 ne:=fun h tp dd its n sl In htp=>by
  obtain ⟨cd,e,_⟩:=any_some hd
  refine Bool.eq_false_iff.mpr fun z=>?_
  have z1:C=tp:=Value.ref.inj (beq_iff_eq.mp z)
  subst z1
  unfold clsIn at e
  split at e
  case h_2=>cases e
  case h_1 q =>
   have y:=(In _ _ q).symm.trans htp
   cases y
 ca:=fun {prog w A E Q s} In ⟨o,hx,hc⟩ k=>by
  obtain ⟨hh,g,d,t,os⟩:=s
  exact Ycf In hx hc hm hb ha hga hgt k
end
end PySem.W
namespace L2
open PySem PySem.Spec PyProof.Rows
structure ExcT (K:PySem.W.Frag) (C:Addr):Prop where
 hd:PySem.W.hasDictIn K C=true
 hm:PySem.W.mroIn K C (.type "object")=some true
 hb:PySem.W.mroIn K C (.type "BaseException")=some true
 ha:PySem.W.findIn K (.ref C) "__class__"=some (some (.builtin "object.__class__"))
 hga:PySem.W.findIn K (.ref C) "__getattribute__"=some (some (.builtin "BaseException.__getattribute__"))
 hgt:PySem.W.findIn K (.ref C) "__getattr__"=some none
section
variable {X:Cx}
theorem Yaf {C:Addr} (T:ExcT X.K C):Xh X (.builtin "isinstance") (fun xs H Q=>∃ a c cv b,xs=[.ref a,c]∧Vy c=some cv∧H a=some (WT a (.ref C))∧PySem.W.kitOne X.K (.ref C) cv=some b∧Q (.bl b) H):=by
 intro pins s σ H xs us Q I r h
 obtain ⟨a,c,cv,b,rfl,ec,ha,e,q⟩:=h
 obtain ⟨u,w',rfl,ru,rw'⟩:=Yeq r
 have ew:w'=cv:=by
  cases c with
  | ty n=>cases (show w'=Value.type n from rw');simpa [Vy] using ec
  | ref a=>cases (show w'=Value.ref a from rw');simpa [Vy] using ec
  | _=>simp [Vy] at ec
 subst ew
 cases (show u=Value.ref a from ru)
 obtain ⟨⟨o,vs,h1,h2,_⟩,_⟩:=(show YT X.prog X.w H s.heap a (WT a (.ref C)) from I.hok a _ ha)
 exact PySem.W.kia_one (PySem.W.kitx_exc T.hd T.hm T.hb T.ha T.hga T.hgt) I.kIn ⟨o,h1,h2⟩ e (fun z=>nomatch z) fun tk=>⟨.bl b,H,I.tok tk,rfl,q⟩
theorem VR {K:PySem.W.Frag} {C:Addr} (T:ExcT K C) (h:X.K=K:=by rfl):Xh X (.builtin "isinstance") (fun xs H Q=>∃ a c cv b,xs=[.ref a,c]∧Vy c=some cv∧H a=some (WT a (.ref C))∧PySem.W.kitOne K (.ref C) cv=some b∧Q (.bl b) H):=by subst h;exact Yaf T
theorem YfZ {g:Gx} {x:Str} {C:Addr} {pos:Pos} (h:g.mg x=some (.ref C)) (hX:X.gx=g) (hg:Gl X x) (hd:(x==("__debug__":Str))=false):PE X (.Name x pos) (tC (.ref C)):=by
 subst hX
 exact U9 hg h rfl hd
end
theorem YdY {X:Cx} {a:Addr}:(X.caught a).K=X.K:=rfl
end L2
namespace L2
open PySem PySem.Spec PyProof.Rows
theorem QA {K:PySem.W.Frag} {C:Addr} {f:Str} (h:PySem.W.findIn K (.ref C) f=some none):Xc K C f:=h
end L2
namespace L2
open PySem PySem.Spec PyProof.Rows
section
variable {src:List (Option Nat)} {te:TE} {σ:St} {H:Hp} {Q:VK}
end
end L2
namespace L2
open PySem PySem.Spec PyProof.Rows
section
variable {X:Cx}
end
end L2
namespace L2
open PySem PySem.Spec PyProof.Rows
section
variable {src:List (Option Nat)} {te:TE} {σ:St} {H:Hp} {Q:VK}
theorem YdZ {K:PySem.W.Frag} {tl:TE} {xs:List V} (ys:List V) (ha:∀ R:V→Hp→Prop,(∀ a H1,Same H H1→SqT K H1 a xs→R (.ref a) H1)→tl σ H R) (hl:ys.length=xs.length) (hlen:xs.length≤100000)
  (step:∀ (i:Nat) x y H',xs[i]?=some x→ys[i]?=some y→Same H H'→∀ R:VK,(∀ H'',Same H' H''→R y H'')→te (some x::YD src σ) H' R)
  (fin:∀ D H',H D=none→Same H H'→H' D=some (.lst ys)→Q (.ref D) H'):tLC (none::src) (Yb1 K tl) (Ys 0) XS te σ H Q :=
 ha _ fun a H1 s1 hS=>⟨a,rfl,⟨xs,hS⟩,fun D hD=>UV (V1.imp fun H' (e:Same H1 H')=>e.tup hS) ys (fun _ e=>e) hD hl hlen (fun i x y H' hx hy sm R r=>step i x y H' hx hy (s1.trans sm) R r) fun H' sm=>fin D H' (s1.free hD) (s1.trans sm)⟩
end
end L2
namespace L2
open PySem PySem.Spec PyProof.Rows
def SqX (K:PySem.W.Frag) (H:Hp) (a:Addr) (xs:List V):Prop:=Rd H a (.lst xs)∨∃ (its:Array Value) (n:Nat),K.lookup a=some { cls := .type "list",data := .seq its n }∧its.size≤sizeLine∧Yr xs its.toList
theorem SqX.sq {K:PySem.W.Frag} {H:Hp} {a:Addr} {xs:List V} (h:SqX K H a xs):SqL K H a xs:=by
 rcases h with h | ⟨its,n,h1,h2,h3⟩
 ·exact .inl h
 ·exact .inr ⟨_,its,n,h1,rfl,rfl,rfl,h2,h3⟩
theorem SqX.of {K:PySem.W.Frag} {H:Hp} {a:Addr} {xs:List V} (h:H a=some (.lst xs)):SqX K H a xs := .inl (.of h)
theorem SqX.keep {K:PySem.W.Frag} {H H':Hp} {a:Addr} {xs:List V} (h:SqX K H a xs) (s:Same H H'):SqX K H' a xs:=by
 rcases h with h | h
 ·rcases h with h | ⟨o,h⟩
  ·exact .inl (.inl (s _ _ h))
  ·exact .inl (.inr ⟨o,s _ _ h⟩)
 ·exact .inr h
section
variable {X:Cx}
end
end L2
namespace L2
open PySem PySem.Spec PyProof.Rows
section
variable {X:Cx} {g:Gx} {k j i:Nat} {x:Str} {ps:List Str} {sp:Sp} {p pos:Pos} {e:Expr} {es:List Expr} {t:TA}
end
theorem YK (es:List Expr) (x:Nat) (p:Pos) (es':List Expr) (env:Env):starEach (.Tuple es x p::es') env=(false,eval (.Tuple es x p) env)::starEach es' env:=rfl
end L2
namespace L2
open PySem PySem.Spec PyProof.Rows
section
variable {X:Cx} {pins:List (Addr×Obj)} {σ:St} {H:Hp} {s:Shared} {A:Around} {E Q:Value→Shared→Prop}
theorem Yag:∀ {Ts:List String} {us:List Value},Yr (Ts.map V.ty) us→us=Ts.map Value.type
 | [],_,r=>by cases r;rfl
 | T::Ts,_,r=>by
  cases r with
  | cons h t =>
   have:_=Value.type T:=h
   rw [this,Yag t]
   rfl
theorem Ycg {x:V} {u t:Value} {tp:Addr} {Ts:List String} {b:Bool} (I:Inv X pins σ H s) (rx:YA x u) (ty:TyOf X.K H x t) (hT:H tp=some (.tup (Ts.map V.ty))) (e:PySem.W.kitAny X.K t (Ts.map Value.type)=some b) (h:∀ tk,Q (.bool b) { s with toks:=tk }) :
  wpAny (model X.prog X.w) A (call (.builtin "isinstance") [u,.ref tp]) Q E s:=by
 obtain ⟨_,us,r,o,g1,g2,n,g3⟩:=(show YT X.prog X.w H s.heap tp (.tup (Ts.map V.ty)) from I.hok tp _ hT)
 obtain ⟨oc,od,ot,sl⟩:=o
 have g2':oc=Value.type "tuple":=g2
 have g3':ot=Data.seq us.toArray n:=g3
 subst g2' g3'
 rw [Yag r] at g1
 cases ty with
 | non=>cases (show u=Value.none from rx);exact PySem.W.kia_tup PySem.W.kitx_none I.kIn True.intro g1 e (fun z=>nomatch z) h
 | bl y=>cases (show u=Value.bool y from rx);exact PySem.W.kia_tup PySem.W.kitx_bool I.kIn True.intro g1 e (fun z=>nomatch z) h
 | int i=>obtain ⟨t,q⟩:=(show ∃ t,u=Value.int i t from rx);cases q;exact PySem.W.kia_tup PySem.W.kitx_int I.kIn True.intro g1 e (fun z=>nomatch z) h
 | str y=>obtain ⟨t,q⟩:=(show ∃ t,u=Value.str y t from rx);cases q;exact PySem.W.kia_tup PySem.W.kitx_str I.kIn True.intro g1 e (fun z=>nomatch z) h
 | flt y=>obtain ⟨t,q⟩:=(show ∃ t,u=Value.float y t from rx);cases q;exact PySem.W.kia_tup PySem.W.kitx_float I.kIn True.intro g1 e (fun z=>nomatch z) h
 | @lst a xs ea =>
  cases (show u=Value.ref a from rx)
  obtain ⟨_,_,n,_,h1⟩:=(show YT X.prog X.w H s.heap a (.lst xs) from I.hok a _ ea)
  exact PySem.W.kia_tup PySem.W.kitx_list I.kIn ⟨_,h1,rfl⟩ g1 e (fun z=>nomatch z) h
 | @frz a ob xs ea =>
  cases (show u=Value.ref a from rx)
  obtain ⟨_,_,_,n,_,h1⟩:=(show YT X.prog X.w H s.heap a (.frz ob (.lst xs)) from I.hok a _ ea)
  exact PySem.W.kia_tup PySem.W.kitx_list I.kIn ⟨_,h1,rfl⟩ g1 e (fun z=>nomatch z) h
 | @tup a xs ea =>
  cases (show u=Value.ref a from rx)
  obtain ⟨_,_,_,p⟩:=(show YT X.prog X.w H s.heap a (.tup xs) from I.hok a _ ea)
  obtain ⟨o,h1,h2,_⟩:=p
  exact PySem.W.kia_tup PySem.W.kitx_tuple I.kIn ⟨o,h1,h2⟩ g1 e (fun z=>nomatch z) h
 | @dK a kvs ea =>
  cases (show u=Value.ref a from rx)
  obtain ⟨_,_,vs,_,p⟩:=(show YT X.prog X.w H s.heap a (.dK kvs) from I.hok a _ ea)
  obtain ⟨o,es,ep,h1,h2,_⟩:=p
  exact PySem.W.kia_tup PySem.W.kitx_dict I.kIn ⟨o,h1,h2.1⟩ g1 e (fun z=>nomatch z) h
 | @dT a kvs ea =>
  cases (show u=Value.ref a from rx)
  obtain ⟨_,_,xs,_,o,es,ep,h1,h2,_⟩:=(show YT X.prog X.w H s.heap a (.dT kvs) from I.hok a _ ea)
  exact PySem.W.kia_tup PySem.W.kitx_dict I.kIn ⟨o,h1,h2.1⟩ g1 e (fun z=>nomatch z) h
 | @ins a C dx fs ea cl ha hn htk hm =>
  cases (show u=Value.ref a from rx)
  obtain ⟨mA,O,_⟩:=Ve I.hok ea
  obtain ⟨od,J,_⟩:=O.look
  exact PySem.W.kia_tup (PySem.W.kitx_own (cl.get _) cl.hd ha hn htk hm) I.kIn J g1 e (fun z=>nomatch z) h
end
section
variable {X:Cx}
theorem V4:Xh X (.builtin "isinstance") (fun xs H Q=>∃ x tp Ts t b,xs=[x,.ref tp]∧H tp=some (.tup (List.map V.ty Ts))∧TyOf X.K H x t∧PySem.W.kitAny X.K t (Ts.map Value.type)=some b∧Q (.bl b) H):=by
 intro pins s σ H xs us Q I r h
 obtain ⟨x,tp,Ts,t,b,rfl,hT,ty,e,q⟩:=h
 obtain ⟨u,v,rfl,ru,rv⟩:=r.two
 cases rv
 exact Ycg I ru ty hT e fun tk=>⟨.bl b,H,I.tok _,rfl,q⟩
end
section
variable {src:List (Option Nat)} {te:TE} {σ:St} {Q:VK}
theorem Yc3 {K:PySem.W.Frag} {G1 G2:Hp→List V→Prop} {xs ys:List V} {H1:Hp} {D:Addr} (zs:List V) (g1:∀ H',Same H1 H'→G1 H' xs) (g2:∀ H',Same H1 H'→G2 H' ys) (hD:H1 D=none) (hxy:xs.length=ys.length) (hl:zs.length=xs.length) (hlen:xs.length≤100000)
  (step:∀ (i:Nat) x y z H',xs[i]?=some x→ys[i]?=some y→zs[i]?=some z→Same H1 H'→∀ R:VK,(∀ H'',Same H' H''→R z H'')→te (some x::some y::YD src σ) H' R)
  (fin:∀ H',Same H1 H'→H' D=some (.lst zs)→Q (.ref D) H'):LC (none::none::src) (Itz G1 G2) (XA K 2 (YQ (Ys 0) (YQ (Ys 1) Xz))) XS te σ H1 Q D:=by
 have h6:100000<sizeLine:=by decide
 refine YcW (J:=Itz G1 G2) (n:=xs.length) (P:=fun H'=>Same H1 H') (fun i H' sm hi=>⟨xs,ys,xs[i],ys[i],g1 _ sm,g2 _ sm,List.getElem?_eq_getElem hi,List.getElem?_eq_getElem (by omega)⟩) (fun H' sm=>⟨xs,ys,g1 _ sm,g2 _ sm,by omega⟩)
  (fun i ws σ' H'=>ws=zs.take i∧(∃ o o',σ'=o::o'::YD src σ)∧Same H1 H'∧H' D=some (.lst ws)) ⟨by simp,⟨none,none,rfl⟩,.upd_new hD _,Ye⟩ (fun i ws σ' H' p=>⟨p.2.2.1,p.2.2.2⟩) (W9 K 0 1) ?_ ?_
 ·rintro i ws σ' H' hi ⟨rfl,⟨o,o',rfl⟩,sm,hd⟩ x H3 ⟨T,rfl,hT,heq⟩
  have hx:xs[i]?=some xs[i]:=List.getElem?_eq_getElem hi
  have hy:ys[i]?=some (ys[i]'(by omega)):=List.getElem?_eq_getElem _
  have hz:zs[i]?=some (zs[i]'(by omega)):=List.getElem?_eq_getElem _
  have e3:=heq xs ys _ _ (g1 _ sm) (g2 _ sm) hx hy
  subst e3
  have s3:Same H' (upd H' T (.tup [xs[i],ys[i]'(by omega)])) := .upd_new hT _
  refine ⟨T,_,rfl,SqT.of Ye,rfl,_,_,rfl,_,_,rfl,rfl,?_⟩
  show te (some xs[i]::some (ys[i]'(by omega))::YD src σ) _ _
  refine step i _ _ _ _ hx hy hz (sm.trans s3) _ fun H'' s2=>⟨s2 _ _ (s3 _ _ hd),?_,(XF hz).symm,⟨_,_,rfl⟩,.upd_over hD ((sm.trans s3).trans s2) _,Ye⟩
  rw [List.length_take];omega
 ·rintro ws σ' H' ⟨rfl,_,sm,hd⟩
  rw [← hl,List.take_length] at hd
  exact fin H' sm hd
variable {X:Cx} {H:Hp}
def iOr (a b:TI):TI:=fun σ H R=>a σ H R∨b σ H R
theorem pi_or {tg:Expr} {l:Expr} {a b:TI} (ha:PI X tg l a) (hb:PI X tg l b):PI X tg l (iOr a b):=by
 intro pins s σ H R I h
 rcases h with h | h
 ·exact ha pins s σ H R I h
 ·exact hb pins s σ H R I h
theorem Yd0 {K:PySem.W.Frag} {ta:TA} {xs ys:List V} {a b:Addr} (zs:List V) (ha:∀ R:List V→Hp→Prop,R [.ref a,.ref b] H→ta σ H R) (h1:SqT K H a xs) (h2:SqT K H b ys) (hxy:xs.length=ys.length) (hl:zs.length=xs.length) (hlen:xs.length≤100000)
  (step:∀ (i:Nat) x y z H',xs[i]?=some x→ys[i]?=some y→zs[i]?=some z→Same H H'→∀ R:VK,(∀ H'',Same H' H''→R z H'')→te (some x::some y::YD src σ) H' R)
  (fin:∀ D H',H D=none→Same H H'→H' D=some (.lst zs)→Q (.ref D) H'):tLC (none::none::src) (Yew K ta) (XA K 2 (YQ (Ys 0) (YQ (Ys 1) Xz))) XS te σ H Q :=
 ha _ ⟨a,b,xs,ys,rfl,h1,h2,fun D hD=>Yc3 zs (fun H' sm=>sm.tup h1) (fun H' sm=>sm.tup h2) hD hxy hl hlen step fun H'=>fin D H' hD⟩
theorem Yd1 {K:PySem.W.Frag} {ta:TA} {xs ys:List V} {a b:Addr} (zs:List V) (ha:∀ R:List V→Hp→Prop,R [.ref a,.ref b] H→ta σ H R) (h1:SqL K H a xs) (h2:SqL K H b ys) (hxy:xs.length=ys.length) (hl:zs.length=xs.length) (hlen:xs.length≤100000)
  (step:∀ (i:Nat) x y z H',xs[i]?=some x→ys[i]?=some y→zs[i]?=some z→Same H H'→∀ R:VK,(∀ H'',Same H' H''→R z H'')→te (some x::some y::YD src σ) H' R)
  (fin:∀ D H',H D=none→Same H H'→H' D=some (.lst zs)→Q (.ref D) H'):tLC (none::none::src) (Yex K ta) (XA K 2 (YQ (Ys 0) (YQ (Ys 1) Xz))) XS te σ H Q :=
 ha _ ⟨a,b,xs,ys,rfl,h1,h2,fun D hD=>Yc3 zs (fun H' sm=>sm.seq h1) (fun H' sm=>sm.seq h2) hD hxy hl hlen step fun H'=>fin D H' hD⟩
end
end L2
namespace L2
open PySem PySem.Spec PyProof.Rows
section
open PySem.SeqAt
open PySem.AutoSeq1 (wpAny_loadPart')
open PySem.MeetsSeq PySem.MeetsSeq2 PySem.MeetsSeq3
variable {X:Cx}
end
end L2
namespace L2
open PySem PySem.Spec PyProof.Rows
section
open PySem.SeqAt
open PySem.AutoSeq1 (wpAny_loadPart')
open PySem.MeetsSeq PySem.MeetsSeq2 PySem.MeetsSeq3
variable {X:Cx}
variable {K:PySem.W.Frag}
end
end L2
namespace L2
open PySem
mutual
inductive KD:PyData→Prop
 | int (i:Int):KD (.int i)
 | tup {ds:List PyData}:KDs ds→KD (.tuple ds)
inductive KDs:List PyData→Prop
 | nil:KDs []
 | cons {d:PyData} {ds:List PyData}:KD d→KDs ds→KDs (d::ds)
end
mutual
theorem KD.eqv:∀ {d e:PyData},KD d→KD e→(PyData.eqv d e=true↔d=e)
 | _,_,.int i,.int j=>by rw [PyData.eqv];simp
 | _,_,.int i,.tup _=>by rw [PyData.eqv];simp
 | _,_,.tup _,.int i=>by rw [PyData.eqv];simp
 | _,_,.tup h,.tup k=>by
  rw [PyData.eqv,h.eqv k]
  simp
theorem KDs.eqv:∀ {ds es:List PyData},KDs ds→KDs es→(PyData.eqvAll ds es=true↔ds=es)
 | _,_,.nil,.nil=>by simp [PyData.eqvAll]
 | _,_,.nil,.cons _ _=>by simp [PyData.eqvAll]
 | _,_,.cons _ _,.nil=>by simp [PyData.eqvAll]
 | _,_,.cons (d:=d) (ds:=ds) h hs,.cons (d:=e) (ds:=es) k ks=>by
  rw [PyData.eqvAll,Bool.and_eq_true,h.eqv k,hs.eqv ks]
  simp
end
mutual
inductive KLt:PyData→PyData→Prop
 | int {i j:Int}:i<j→KLt (.int i) (.int j)
 | mix {i:Int} {ds:List PyData}:KLt (.int i) (.tuple ds)
 | tup {ds es:List PyData}:KLs ds es→KLt (.tuple ds) (.tuple es)
inductive KLs:List PyData→List PyData→Prop
 | nil {e:PyData} {es:List PyData}:KLs [] (e::es)
 | here {d e:PyData} {ds es:List PyData}:KLt d e→KLs (d::ds) (e::es)
 | there {d:PyData} {ds es:List PyData}:KLs ds es→KLs (d::ds) (d::es)
end
mutual
theorem KLt.trans:∀ {a b c:PyData},KLt a b→KLt b c→KLt a c
 | _,_,_,.int h,.int k => .int (by omega)
 | _,_,_,.int h,.mix => .mix
 | _,_,_,.mix,.tup _ => .mix
 | _,_,_,.tup h,.tup k => .tup (h.trans k)
theorem KLs.trans:∀ {a b c:List PyData},KLs a b→KLs b c→KLs a c
 | _,_,_,.nil,.here _ => .nil
 | _,_,_,.nil,.there _ => .nil
 | _,_,_,.here h,.here k => .here (h.trans k)
 | _,_,_,.here h,.there _ => .here h
 | _,_,_,.there _,.here k => .here k
 | _,_,_,.there h,.there k => .there (h.trans k)
end
end L2
namespace L2
open PySem
section
variable {src:List (Option Nat)} {te:TE} {σ:St} {H:Hp} {Q:VK}
theorem Yby {J:It} {P:Hp→Prop} {xs:List V} (hJ:X7 J P xs) {H1:Hp} {D:Addr} (Rl:Nat→V→Hp→Prop) (st:∀ i y H H',Rl i y H→Same H H'→Rl i y H') (su:∀ i y H zs zs',Rl i y H→H D=some (.lst zs)→Rl i y (upd H D (.lst zs')))
  (hP:∀ H',Same H1 H'→P H') (hD:H1 D=none) (hlen:xs.length≤100000)
  (step:∀ (i:Nat) x H' zs,xs[i]?=some x→Same H1 H'→H' D=some (.lst zs)→∀ R:VK,(∀ y H'',Same H' H''→Rl i y H''→R y H'')→te (some x::YD src σ) H' R)
  (fin:∀ (ys:List V) H',Same H1 H'→H' D=some (.lst ys)→ys.length=xs.length→(∀ (j:Nat) y,ys[j]?=some y→Rl j y H')→Q (.ref D) H'):LC (none::src) J (Ys 0) XS te σ H1 Q D:=by
 have h6:100000<sizeLine:=by decide
 refine US hJ (fun i zs σ' H'=>zs.length=i∧(∃ o,σ'=o::YD src σ)∧Same H1 H'∧H' D=some (.lst zs)∧∀ (j:Nat) y,zs[j]?=some y→Rl j y H')
  ⟨rfl,⟨none,rfl⟩,.upd_new hD _,Ye,fun j y h=>by simp at h⟩ (fun i zs σ' H' ⟨_,_,p1,p2,_⟩=>⟨hP _ p1,p2⟩) (Vz 0) ?_ ?_
 ·rintro i zs σ' H' x hx ⟨hi',⟨o,rfl⟩,sm,hd,hts⟩
  have hi:=(List.getElem?_eq_some_iff.mp hx).1
  show te (some x::YD src σ) H' _
  refine step i x H' zs hx sm hd _ fun y H'' s2 hy=>⟨s2 _ _ hd,by omega,by simp [hi'],⟨_,rfl⟩,.upd_over hD (sm.trans s2) _,Ye,fun j z hj=>su _ _ _ _ _ ?_ (s2 _ _ hd)⟩
  rcases Nat.lt_trichotomy j zs.length with h1 | h1 | h1
  ·rw [List.getElem?_append_left h1] at hj
   exact st _ _ _ _ (hts j z hj) s2
  ·have hb:y=z:=by subst h1;simpa using hj
   subst hb
   rw [h1,hi']
   exact hy
  ·rw [List.getElem?_eq_none (by rw [List.length_append,List.length_singleton];omega)] at hj;cases hj
 ·rintro zs σ' H' ⟨hn,_,sm,hd,hts⟩
  exact fin zs H' sm hd hn hts
theorem Yd2 {K:PySem.W.Frag} {tl:TE} {xs:List V} {b:Addr} (Rl:Addr→Nat→V→Hp→Prop) (st:∀ D i y H H',Rl D i y H→Same H H'→Rl D i y H') (su:∀ D i y H zs zs',Rl D i y H→H D=some (.lst zs)→Rl D i y (upd H D (.lst zs')))
  (ha:∀ R:V→Hp→Prop,R (.ref b) H→tl σ H R) (hS:SqL K H b xs) (hlen:xs.length≤100000)
  (step:∀ D (i:Nat) x H' zs,xs[i]?=some x→Same H H'→H' D=some (.lst zs)→∀ R:VK,(∀ y H'',Same H' H''→Rl D i y H''→R y H'')→te (some x::YD src σ) H' R)
  (fin:∀ D (ys:List V) H',H D=none→Same H H'→H' D=some (.lst ys)→ys.length=xs.length→(∀ (j:Nat) y,ys[j]?=some y→Rl D j y H')→Q (.ref D) H'):tLC (none::src) (WZ K tl) (Ys 0) XS te σ H Q :=
 ha _ ⟨b,rfl,⟨xs,hS⟩,fun D hD=>Yby (Wm.imp fun H' (e:Same H H')=>e.seq hS) (Rl D) (st D) (su D) (fun _ e=>e) hD hlen (fun i x H' zs hx sm hd R r=>step D i x H' zs hx sm hd R r) fun ys H' sm=>fin D ys H' hD sm⟩
theorem QB {K:PySem.W.Frag} {tl:TE} {xs:List V} {b:Addr} (Rl:Addr→Nat→V→Hp→Prop) (st:∀ D i y H H',Rl D i y H→Same H H'→Rl D i y H') (su:∀ D i y H zs zs',Rl D i y H→H D=some (.lst zs)→Rl D i y (upd H D (.lst zs')))
  (ha:∀ R:V→Hp→Prop,R (.ref b) H→tl σ H R) (hS:SqT K H b xs) (hlen:xs.length≤100000)
  (step:∀ D (i:Nat) x H' zs,xs[i]?=some x→Same H H'→H' D=some (.lst zs)→∀ R:VK,(∀ y H'',Same H' H''→Rl D i y H''→R y H'')→te (some x::YD src σ) H' R)
  (fin:∀ D (ys:List V) H',H D=none→Same H H'→H' D=some (.lst ys)→ys.length=xs.length→(∀ (j:Nat) y,ys[j]?=some y→Rl D j y H')→Q (.ref D) H'):tLC (none::src) (Yb1 K tl) (Ys 0) XS te σ H Q :=
 ha _ ⟨b,rfl,⟨xs,hS⟩,fun D hD=>Yby (V1.imp fun H' (e:Same H H')=>e.tup hS) (Rl D) (st D) (su D) (fun _ e=>e) hD hlen (fun i x H' zs hx sm hd R r=>step D i x H' zs hx sm hd R r) fun ys H' sm=>fin D ys H' hD sm⟩
end
end L2
namespace L2
open PySem
mutual
inductive VL (H:Hp):V→PyData→List Addr→Prop
 | int (i:Int):VL H (.int i) (.int i) []
 | str (x:Str) (h:PyData.strOk x=true):VL H (.str x) (.str x) []
 | lst {a:Addr} {vs:List V} {ds:List PyData} {L:List Addr}:H a=some (.lst vs)→vs.length≤10000→VLs H vs ds L→VL H (.ref a) (.list ds) (a::L)
 | tup {a:Addr} {vs:List V} {ds:List PyData} {L:List Addr}:H a=some (.tup vs)→vs.length≤10000→VLs H vs ds L→VL H (.ref a) (.tuple ds) L
inductive VLs (H:Hp):List V→List PyData→List Addr→Prop
 | nil:VLs H [] [] []
 | cons {v:V} {d:PyData} {L:List Addr} {vs:List V} {ds:List PyData} {L':List Addr}:VL H v d L→VLs H vs ds L'→VLs H (v::vs) (d::ds) (L++L')
end
def Tps (H H':Hp):Prop:=∀ a vs,H a=some (.tup vs)→H' a=some (.tup vs)
theorem Same.tps {H H':Hp} (s:Same H H'):Tps H H':=fun a vs h=>s a _ h
theorem Tps.trans {H H' H'':Hp} (s:Tps H H') (t:Tps H' H''):Tps H H'':=fun a vs h=>t a vs (s a vs h)
theorem Tps.upd_lst {H:Hp} {p:Addr} {xs ys:List V} (h:H p=some (.lst xs)):Tps H (upd H p (.lst ys)):=fun a vs ha=>by
 rw [Yt (Wk ha h (by intro z;cases z))];exact ha
mutual
theorem VL.keepL {H H':Hp} (t:Tps H H'):∀ {v:V} {d:PyData} {L:List Addr},VL H v d L→(∀ a∈L,∀ vs,H a=some (.lst vs)→H' a=some (.lst vs))→VL H' v d L
 | _,_,_,.int i,_ => .int i
 | _,_,_,.str x h,_ => .str x h
 | _,_,_,.lst h hn hs,e => .lst (e _ (.head _) _ h) hn (hs.keepL t fun a ha=>e a (.tail _ ha))
 | _,_,_,.tup h hn hs,e => .tup (t _ _ h) hn (hs.keepL t e)
theorem VLs.keepL {H H':Hp} (t:Tps H H'):∀ {vs:List V} {ds:List PyData} {L:List Addr},VLs H vs ds L→(∀ a∈L,∀ vs,H a=some (.lst vs)→H' a=some (.lst vs))→VLs H' vs ds L
 | _,_,_,.nil,_ => .nil
 | _,_,_,.cons h hs,e => .cons (h.keepL t fun a ha=>e a (List.mem_append_left _ ha)) (hs.keepL t fun a ha=>e a (List.mem_append_right _ ha))
end
theorem VL.keep {H H':Hp} {v:V} {d:PyData} {L:List Addr} (h:VL H v d L) (s:Same H H'):VL H' v d L:=h.keepL s.tps fun a _ vs e=>s _ _ e
theorem VLs.keep {H H':Hp} {vs:List V} {ds:List PyData} {L:List Addr} (h:VLs H vs ds L) (s:Same H H'):VLs H' vs ds L:=h.keepL s.tps fun a _ vs e=>s _ _ e
mutual
theorem VL.mem {H:Hp}:∀ {v:V} {d:PyData} {L:List Addr},VL H v d L→∀ a∈L,∃ vs,H a=some (.lst vs)∧vs.length≤10000
 | _,_,_,.lst (a:=b) h hn hs,a,ha=>by
  rcases List.mem_cons.mp ha with e | ha
  ·subst e;exact ⟨_,h,hn⟩
  ·exact hs.mem a ha
 | _,_,_,.tup h hn hs,a,ha=>hs.mem a ha
theorem VLs.mem {H:Hp}:∀ {vs:List V} {ds:List PyData} {L:List Addr},VLs H vs ds L→∀ a∈L,∃ vs,H a=some (.lst vs)∧vs.length≤10000
 | _,_,_,.cons h hs,a,ha=>by
  rcases List.mem_append.mp ha with ha | ha
  ·exact h.mem a ha
  ·exact hs.mem a ha
end
mutual
theorem VL.den {K:PySem.W.Frag} {H:Hp}:∀ {v:V} {d:PyData} {L:List Addr},VL H v d L→Den K H v d
 | _,_,_,.int i => .int i
 | _,_,_,.str x h => .str x h
 | _,_,_,.lst h _ hs => .lst (SqL.of h) hs.den
 | _,_,_,.tup h _ hs => .tup (SqT.of h) hs.den
theorem VLs.den {K:PySem.W.Frag} {H:Hp}:∀ {vs:List V} {ds:List PyData} {L:List Addr},VLs H vs ds L→Dens K H vs ds
 | _,_,_,.nil => .nil
 | _,_,_,.cons h hs => .cons h.den hs.den
end
theorem VLs.length {H:Hp}:∀ {vs:List V} {ds:List PyData} {L:List Addr},VLs H vs ds L→vs.length=ds.length
 | _,_,_,.nil=>rfl
 | _,_,_,.cons _ hs=>congrArg (·+1) hs.length
theorem VLs.append {H:Hp} {vs':List V} {ds':List PyData} {L':List Addr}:∀ {vs:List V} {ds:List PyData} {L:List Addr},VLs H vs ds L→VLs H vs' ds' L'→VLs H (vs++vs') (ds++ds') (L++L')
 | _,_,_,.nil,h=>h
 | _,_,_,.cons a b,h=>by rw [List.append_assoc];exact .cons a (b.append h)
theorem VL.one {H:Hp} {v:V} {d:PyData} {L:List Addr} (h:VL H v d L):VLs H [v] [d] L:=by
 have:=VLs.cons h .nil
 rwa [List.append_nil] at this
theorem VLs.take {H:Hp}:∀ {vs:List V} {ds:List PyData} {L:List Addr} (n:Nat),VLs H vs ds L→∃ L',VLs H (vs.take n) (ds.take n) L'∧∀ a∈L',a∈L
 | _,_,_,0,_=>by simp;exact ⟨[],.nil,fun a h=>by cases h⟩
 | _,_,_,n+1,.nil=>by simp;exact ⟨[],.nil,fun a h=>by cases h⟩
 | _,_,_,n+1,.cons a b=>by
  obtain ⟨L',h1,h2⟩:=b.take n
  exact ⟨_,.cons a h1,fun x hx=>by
   rcases List.mem_append.mp hx with h | h
   ·exact List.mem_append_left _ h
   ·exact List.mem_append_right _ (h2 x h)⟩
theorem VLs.drop {H:Hp}:∀ {vs:List V} {ds:List PyData} {L:List Addr} (n:Nat),VLs H vs ds L→∃ L',VLs H (vs.drop n) (ds.drop n) L'∧∀ a∈L',a∈L
 | _,_,_,0,h=>⟨_,h,fun a h=>h⟩
 | _,_,_,n+1,.nil=>⟨[],by simp;exact .nil,fun a h=>by cases h⟩
 | _,_,_,n+1,.cons a b=>by
  obtain ⟨L',h1,h2⟩:=b.drop n
  exact ⟨L',h1,fun x hx=>List.mem_append_right _ (h2 x hx)⟩
structure Owns (H0 H:Hp) (vs:List V) (ds:List PyData) (L:List Addr):Prop where
 vl:VLs H vs ds L
 nd:L.Nodup
 new:∀ a∈L,H0 a=none
theorem Owns.ext {H0 H1 H2:Hp} {vs:List V} {ds:List PyData} {L L':List Addr} {ys:List V} {es:List PyData} {D:Addr} {zs zs':List V} (h:Owns H0 H1 vs ds L) (hD:∀ a∈L,a≠D) (s0:Same H0 H1) (s:Same H1 H2) (o:Owns H1 H2 ys es L') (h1:H1 D=some (.lst zs)):Owns H0 (upd H2 D (.lst zs')) (vs++ys) (ds++es) (L++L')∧∀ a∈L++L',a≠D:=by
 have hD':∀ a∈L',a≠D:=fun a ha e=>by have:=o.new a ha;rw [e,h1] at this;cases this
 have t:Tps H2 (upd H2 D (.lst zs')) := .upd_lst (s _ _ h1)
 refine ⟨⟨((h.vl.keep s).keepL t fun a ha vs e=>by rw [Yt (hD a ha)];exact e).append (o.vl.keepL t fun a ha vs e=>by rw [Yt (hD' a ha)];exact e),?_,fun a ha=>?_⟩,fun a ha=>?_⟩
 ·refine List.nodup_append.mpr ⟨h.nd,o.nd,fun a ha b hb e=>?_⟩
  subst e
  obtain ⟨vs,e1,_⟩:=h.vl.mem a ha
  rw [o.new a hb] at e1
  cases e1
 ·rcases List.mem_append.mp ha with ha | ha
  ·exact h.new a ha
  ·exact s0.free (o.new a ha)
 ·rcases List.mem_append.mp ha with ha | ha
  ·exact hD a ha
  ·exact hD' a ha
section
variable {src:List (Option Nat)} {te:TE} {σ:St} {H:Hp} {Q:VK}
end
end L2
namespace L2
open PySem PySem.Spec PyProof.Rows
section
variable {X:Cx} {pos:Pos}
def Yfe:V→List V→Hp→VK→Prop:=fun x vs H Q=>∃ (z y:Str),x = .str z∧vs=[.str y]∧Q (.bl (Txt.startswith z y)) H
theorem Yc4:MtR X "str.startswith" Yfe:=by
 intro pins s σ H x vs v us Q I rx r h
 obtain ⟨z,y,rfl,rfl,q⟩:=h
 obtain ⟨t,rfl⟩:=rx
 obtain ⟨u,rfl,ru⟩:=Xw r
 obtain ⟨t',rfl⟩:=ru
 exact call_gives F.slot_str_startswith (typeIs_str s z t) F.entry_str_startswith (F.args_str_startswith_2 _ _) (gives_str_startswith z y t t') ⟨.bl _,H,I,rfl,q⟩
theorem QL:Xh X (.type "int") (fun xs H Q=>∃ x n,xs=[.str x]∧PySem.intText? x=some n∧x.length≤640∧Q (.int n) H):=by
 intro pins s σ H xs us Q I r h
 obtain ⟨x,n,rfl,hn,hl,q⟩:=h
 obtain ⟨u,rfl,t,rfl⟩:=Xw r
 exact PySem.W.KIN.call_text hn hl ⟨.int n,H,I.tok _,⟨_,rfl⟩,q⟩
end
def dg (i:Int):List Nat:=(Str.ofString (toString i)).cps.toList
theorem X4 (i:Int):Str.ofString (toString i)=S (dg i):=by unfold dg S;simp
theorem Wn (n:Nat):dg (n:Int)=(Nat.toDigits 10 n).map Char.toNat:=PySem.W.KIN.signs_num n
theorem W1 (n:Nat):∀ c∈dg (n:Int),48≤c∧c≤57:=by
 intro c hc
 rw [Wn] at hc
 obtain ⟨ch,hch,e⟩:=List.mem_map.mp hc
 have r:=PyProof.Rows.digit_range (Nat.isDigit_of_mem_toDigits (by decide) (by decide) hch)
 rw [← e]
 exact r
theorem Ybz {n:Nat} (h:0<n):∃ c r,dg (n:Int)=c::r∧c≠48:=by
 rw [Wn]
 induction n using Nat.strongRecOn with
 | _ m ih =>
  by_cases h1:m<10
  ·rw [Nat.toDigits_of_lt_base h1]
   refine ⟨_,[],rfl,?_⟩
   have:∀ d:Nat,d<10→0<d→(Nat.digitChar d).toNat≠48:=by decide
   exact this m h1 h
  ·have hm:m%10<10:=Nat.mod_lt m (by decide)
   have t:Nat.toDigits 10 (m / 10)++Nat.toDigits 10 (m%10)=Nat.toDigits 10 (10*(m / 10)+m%10):=Nat.toDigits_append_toDigits (by decide) (by omega) hm
   rw [Nat.div_add_mod] at t
   obtain ⟨c,r,e,hc⟩:=ih (m / 10) (by omega) (by omega)
   rw [← t,List.map_append,e]
   exact ⟨c,_,rfl,hc⟩
theorem Ych (n:Nat):dg (n:Int)≠[]:=by
 by_cases h:n=0
 ·subst h;decide +kernel
 ·obtain ⟨c,r,e,_⟩:=Ybz (n:=n) (by omega)
  rw [e];simp
theorem V5 {n:Nat} (h:0<n):dg (-(n:Int))=45::dg (n:Int):=by
 obtain ⟨m,rfl⟩:∃ m,n=m+1:=⟨n - 1,by omega⟩
 rw [Wn]
 unfold dg
 rw [Str.ofString_eq_byList]
 show ((toString (Int.negSucc m)).toList.map Char.toNat)=_
 have e:toString (Int.negSucc m)="-"++Nat.repr (m+1):=rfl
 rw [e,String.toList_append,List.map_append,Nat.toList_repr]
 rfl
theorem UW {n k:Nat} (hk:0<k) (h:n<10^k):(dg (n:Int)).length≤k:=by
 rw [Wn,List.length_map]
 have:=(Nat.length_repr_le_iff hk).mpr h
 rwa [← String.length_toList,Nat.toList_repr] at this
theorem Yah {i:Int} (h:i.natAbs<10^600):PySem.intText? (S (dg i))=some i:=by
 have hl:=UW (k:=600) (by decide) h
 rcases Int.natAbs_eq i with e | e
 ·rw [e]
  have e1:(S (dg (i.natAbs:Int))).cps.toList=dg (i.natAbs:Int):=YV _
  have:=PySem.intText_digits (x:=S (dg (i.natAbs:Int))) (by rw [e1];exact W1 _) (by rw [e1];exact Ych _) (by rw [Yw];omega)
  rw [this,e1,Wn,PySem.W.KIN.val_back]
 ·by_cases h0:i.natAbs=0
  ·have:i=0:=by omega
   subst this
   decide +kernel
  ·rw [e,V5 (by omega)]
   have e1:(S (45::dg (i.natAbs:Int))).cps.toList=45::dg (i.natAbs:Int):=YV _
   have:=PySem.intText_neg (x:=S (45::dg (i.natAbs:Int))) e1 (W1 _) (Ych _) (by rw [Yw,List.length_cons];omega)
   rw [this,Wn,PySem.W.KIN.val_back]
end L2
namespace L2
open PySem
section
variable {src:List (Option Nat)} {te:TE} {σ:St} {H:Hp} {Q:VK}
end
end L2
namespace L2
open PySem PySem.Spec PyProof.Rows
def Gx.MeX (g:Gx) (k:Nat) (C:Addr) (m:Str) (ps:List Str) (sp:Sp):Prop:=∃ f fd,FnOk g.P g.w g.K g.mg g.base (CXF g.P g.w) k f fd ps sp∧Xr g.K fd ps []∧Meth g.K C m f
section
variable {g:Gx} {k:Nat} {x qual m:Str} {st:Stmt} {N ps:List Str} {sp:Sp} {C:Addr}
theorem Gx.RawM.meX (R:g.RawM C m qual st ps) (S:FnScope N ps (Yh st)) (len:∀ vs H Q E,sp vs H Q E→vs.length=ps.length) (b:YeB g k N qual st sp):g.MeX (k+1) C m ps sp:=by
 obtain ⟨f,fd,F,bd,hm⟩:=R
 refine ⟨f,fd,?_,bd,hm⟩
 obtain ⟨oc,od,kV,doc,pm,an,cdv,ct,osl,rfl,lk,hcd⟩:=F.ex
 exact Yb9 lk hcd S len fun A outer s H vs Q E hr h=>b f cdv A outer s H vs Q E hr h
theorem Gx.MeX.mono {j:Nat} (F:g.MeX j C m ps sp) (h:j≤k):g.MeX k C m ps sp:=by
 obtain ⟨f,fd,F,r⟩:=F
 exact ⟨f,fd,F.mono h,r⟩
theorem Gx.RawM.noneX (R:g.RawM C m qual st ps) (no:∀ vs H Q E,¬ sp vs H Q E):g.MeX k C m ps sp:=by
 obtain ⟨f,fd,F,bd,hm⟩:=R
 exact ⟨f,fd,⟨fun vs H Q E h=>absurd h (no vs H Q E),fun A outer s H args us vs Q E _ _ _ _ h=>absurd h (no vs H Q E)⟩,bd,hm⟩
end
section
variable {g:Gx} {X:Cx} {k j:Nat} {x m:Str} {ps:List Str} {sp:Sp} {E:XK} {C:Addr} {e o:Expr} {es:List Expr} {t:TA} {ta:TE} {p pos apos:Pos}
theorem Um {pl:Sem Bool} (F:g.MeX j C m ps sp) (c:Cls g.K C) (hr:Room k X.A) (hp:XL (CXF g.P g.w) X E) (ho:PE X o ta) (hj:j≤k) (hX:X.gx=g)
  (ht:eval (.Call (.Attribute o m apos) [] [] pos) X.env=(do
   let ov ← eval o X.env
   standAt apos.atName
   let (f,first) ← holding [ov] (getMethod ov m pl)
   callWith pos f first (backTo pos (starEach [] X.env)) (backToKw pos (keywordEach [] X.env)))):PE X (.Call (.Attribute o m apos) [] [] pos) (Ul C m sp [] E ta Q8):=by
 subst hX
 obtain ⟨f,fd,F,b,hm⟩:=F
 exact Yaa ho c hm F (hr.mono hj) b .nil hp ht
end
theorem UX {P:Program} {w:World} {X:Cx}:XL (CXF P w) X (fun _ _ _=>False):=by
 intro pins σ H s e s' I h
 obtain ⟨_,_,_,_,_,_,_,_,z⟩:=h
 exact z.elim
def YeC (K:PySem.W.Frag) (cv:Value) (sp:Sp) (t:TA) (j:Nat) (ts:TS):TS:=fun D σ H=>t σ H fun vs H1=>sp (vs++[]) H1 (fun v H2=>D.nx σ H2) (fun cls _ H2=>PySem.W.exmOne K cls cv=some true∧∀ a,H2 a=none→ts (D.gone j) (σ.set j (some (.ref a))) (upd H2 a (WT a cls)))
section
variable {g:Gx} {X:Cx} {k jj j:Nat} {f c n:Str} {ps:List Str} {sp:Sp} {e:Expr} {es:List Expr} {t:TA} {ts:TS} {b₀:Stmt} {suite:List Stmt} {cv:Value} {fp cp hpos apos cpos pos:Pos}
theorem Yff (F:g.FnX jj f ps sp) (hr:Room k X.A) (hN:X.N.Nodup) (hj:X.N[j]?=some n) (hk:X.env.scope.names.lookup n=some .local) (ha:PA X.nox (e::es) t) (hcm:g.mg c=some cv) (hsu:∀ a,PSs (X.caught a) (b₀::suite) ts)
  (hjk:jj≤k) (hX:X.gx=g) (hs:X.stack=X.env::X.outer) (hf:X.env.frame=some X.env.locals) (hg:Gl X f) (hc:Gl X c) (hdf:(f==("__debug__":Str))=false) (hdb:(c==("__debug__":Str))=false)
  (he:starEach (e::es) X.env=(false,eval e X.env)::starEach es X.env) (hpl:(backTo cpos (starEach es X.env)).any (·.1)=false)
  (hsw:swapsWith (.Call (.Name f fp) (e::es) [] cpos) none apos.line X.env=pure false) :
  PS X (.Try [.Expr (.Call (.Name f fp) (e::es) [] cpos) apos] [.ExceptHandler (some (.Name c cp)) (some n) (b₀::suite) hpos] [] [] pos) (YeC X.K cv sp t j ts):=by
 subst hX
 intro pins s σ H D I h
 obtain ⟨fa,fd,F,b,kp,hm⟩:=F
 refine wpAny_Try_except ?_
 refine wpAny_execs_cons ?_
 refine wpAny_Expr_any (thn (Q:=EP X pins σ fun v H2=>D.nx σ H2) ?_ fun v s1 hz=>?_) I.quiet hsw
 ·refine wpAny_Call_Name_kw (WL I hg hm ?_ hdf)
  refine PySem.W.callWith_K (h₀:=X.base) I.ok.mod.kin kp (wpAny_mono (ha cpos pins s σ H _ (I.wish _) h) (fun us s1 hz=>?_) fun _ _ z=>z.elim) he hpl
  obtain ⟨vs,H1,I1,r,q⟩:=hz
  have I1:=I1.unwish
  refine ⟨I1.kIn,?_⟩
  have r2:Yr (vs++[]) (us++[]):=r.append .nil
  have hl:(us++[]).length=ps.length:=by rw [← r2.length];exact F.len _ _ _ _ q
  refine wpAny_call (codeAny_mono (F.run X.A X.stack s1 H1 ⟨us,[]⟩ (us++[]) (vs++[]) _ _ (hr.mono hjk) I1.env0 (b s1 us I1.kIn hl) r2 q) fun r s' hq=>?_)
  cases r with
  | error e=>exact I1.catchAs hs hf hN hj hk hq hsu hc hcm hdb
  | ok fl =>
   cases fl with
   | ret u=>exact I1.after hq
   | next=>exact False.elim hq
   | brk=>exact False.elim hq
   | cont=>exact False.elim hq
 ·obtain ⟨y,H1,I1,r1,q1⟩:=hz
  exact wpAny_execs_nil (wpAny_execs_nil ⟨_,H1,I1,q1⟩)
end
end L2
namespace L2
open PySem PySem.Spec PyProof.Rows
def Wi (l:List Str) (v:Str):List Str:=if l.any (·==v) then l else l++[v]
def met (val:Nat→Str) (i:Nat):List Str:=((List.range i).map val).foldl Wi []
theorem Yd3 (val:Nat→Str):met val 0=[]:=rfl
theorem Wv (val:Nat→Str) (i:Nat):met val (i+1)=Wi (met val i) (val i):=by
 unfold met;rw [List.range_succ,List.map_append,List.foldl_append];rfl
theorem Yai (val:Nat→Str):∀ i,(met val i).length≤i
 | 0=>by rw [Yd3];exact Nat.le_refl _
 | i+1=>by
  rw [Wv];unfold Wi
  have ih:=Yai val i
  split
  ·omega
  ·rw [List.length_append,List.length_singleton];omega
theorem YbA (l:List Str) (v k:Str):(Wi l v).any (·==k)=(l.any (·==k)||decide (k=v)):=by
 unfold Wi
 by_cases h:l.any (·==v)=true
 ·rw [if_pos h]
  by_cases e:k=v
  ·subst e;rw [h];simp
  ·simp [e]
 ·rw [if_neg h,List.any_append]
  by_cases e:k=v
  ·subst e;simp
  ·have hb:(v==k)=false:=by simpa [beq_iff_eq] using (fun h':v=k=>e h'.symm)
   simp [hb,e]
theorem YbB (l:List Str) (v:Str):(Wi l v).length=if l.any (·==v) then l.length else l.length+1:=by
 unfold Wi;split<;>simp
theorem Qg {val:Nat→Str}:∀ {n:Nat},(∀ i j,i<j→j<n→val i≠val j)→met val n=(List.range n).map val
 | 0,_=>rfl
 | n+1,h=>by
  rw [Wv,Qg fun i j a b=>h i j a (by omega),List.range_succ,List.map_append]
  unfold Wi
  rw [if_neg]
  ·rfl
  ·simp only [List.any_map,List.any_eq_true,List.mem_range,Function.comp,beq_iff_eq,not_exists,not_and]
   intro i hi e
   exact h i n hi (by omega) e
section
variable {prog:Program} {w:World} {A:Around} {R:Result→Shared→Prop} {I:Addr} {fp wr:List Addr} {G:Array GenState→Array GenState→Prop} {n:Nat} {P:Nat→Value→Prop} {St:Nat→Shared→Prop}
theorem Yaj (W:WalksS prog w A.in1 I fp wr G n P St) (S:Addr) (hSf:S∉fp)
  (val:Nat→Str) (hval:∀ i v,P i v→∃ t,v = .str (val i) t) (hb:n+1<scanBound) :
  ∀ (k i:Nat) (s:Shared),n - i=k→i≤n→St i s →
   s.heap.SetOf (PySem.strKind prog w) S (fun k'=>(met val i).any (·==k')) (met val i).length →
   (∀ s',Moved (S::wr) G s s'→s'.heap.SetOf (PySem.strKind prog w) S (fun k'=>(met val n).any (·==k')) (met val n).length→R (.ok (.ret .none)) s') →
   codeAny (model prog w) A (.builtin "set.update.loop" ⟨[.ref S,.ref I],[]⟩) R s:=by
 have hSw:S∉wr:=fun h=>hSf (W.sub _ h)
 have hsub:∀ b∈wr,b∈S::wr:=fun b hb=>List.mem_cons_of_mem _ hb
 intro k
 induction k with
 | zero =>
  intro i s hk hi hst hS hR
  have hin:i=n:=by omega
  subst hin
  refine codeAny_builtin F.entry_set_update_loop ?_
  rw [Around.under_plainId F.plain_set_update_loop _]
  show wpAny _ A.in1 (pyNext (.ref I) >>= _) _ _ s
  refine wpAny_bind (W.done s _ _ hst fun s' hm=>?_)
  show wpAny _ A.in1 (ret Value.none) _ _ s'
  exact wpAny_pure (hR s' (hm.mono hsub) (by
   obtain ⟨o,es,ep,t,ho,Y5⟩:=hS
   exact ⟨o,es,ep,t,hm.heap S _ hSw ho,Y5⟩))
 | succ k ih =>
  intro i s hk hi hst hS hR
  have hlt:i<n:=by omega
  refine codeAny_builtin F.entry_set_update_loop ?_
  rw [Around.under_plainId F.plain_set_update_loop _]
  show wpAny _ A.in1 (pyNext (.ref I) >>= _) _ _ s
  refine wpAny_bind (W.item i s _ _ hlt hst fun v s' hP hst' hm=>?_)
  obtain ⟨t,rfl⟩:=hval i v hP
  have hS':s'.heap.SetOf (PySem.strKind prog w) S (fun k'=>(met val i).any (·==k')) (met val i).length:=by
   obtain ⟨o,es,ep,tb,ho,Y5⟩:=hS
   exact ⟨o,es,ep,tb,hm.heap S _ hSw ho,Y5⟩
  show wpAny _ A.in1 (holding [Value.str (val i) t] (setAdd S (.str (val i) t)) >>= _) _ _ s'
  refine wpAny_bind (wpAny_holding ?_)
  unfold setAdd
  refine wpAny_holding ?_
  have his:(PySem.strKind prog w).is (val i) (.str (val i) t)=true:=by simp [PySem.strKind,Value.isStrOf]
  refine wpAny_bind ((PySem.strKind prog w).pyHash (k:=val i) his ?_)
  have hroom:(met val i).length+1<scanBound:=by have:=Yai val i;omega
  refine wpAny_setAddHashed_of (knd:=PySem.strKind prog w) (s:={ s' with toks:=s'.toks+1 }) his rfl hS' hroom fun h' hsb hS2=>?_
  have hSi:h'.SetOf (PySem.strKind prog w) S (fun k'=>(met val (i+1)).any (·==k')) (met val (i+1)).length :=
   SetOf_congr hS2 (fun k'=>by rw [Wv,YbA]) (by rw [Wv,YbB])
  refine wpAny_pure ⟨plainId_quiet F.plain_set_update_loop _,ih (i+1) _ (by omega) hlt (W.frame _ s' _ _ hst' (Nat.le_succ _) fun b hb o e=>?_) hSi fun s'' hm'' hS''=>?_⟩
  ·rw [hsb.2 b (fun h:b=S=>hSf (by rw [← h];exact hb))];exact e
  ·refine hR s'' (Moved.trans W.gtrans ((hm.mono hsub).then_heap (Nat.le_succ _) fun b o hb e=>?_) hm'') hS''
   rw [hsb.2 b (fun h:b=S=>hb (by rw [h];exact List.mem_cons_self))];exact e
end
end L2
namespace L2
open PySem PySem.Spec PyProof.Rows
theorem Ybc:isSubtype (.type "str") (.type "set")=pure false:=by rw [isSubtype_type];kernel_rfl
theorem Uv:isSubtype (.type "str") (.type "frozenset")=pure false:=by rw [isSubtype_type];kernel_rfl
def sg (x:Str) (i:Nat):Str:=⟨#[x.cps.getD i 0]⟩
section
variable {prog:Program} {w:World} {A:Around} {E:Value→Shared→Prop} {s:Shared}
set_option maxHeartbeats 3200000 in
theorem Yci {x:Str} {u:Tok} {Q:Value→Shared→Prop}
  (hh:A.handled=none) (hb:x.cps.size+1<scanBound)
  (h:∀ (h':Heap) (tk:Nat),h'.SetOf (PySem.strKind prog w) s.heap.objs.size (fun k'=>(met (sg x) x.cps.size).any (·==k')) (met (sg x) x.cps.size).length →
   (∀ b o,b<s.heap.objs.size→s.heap.get? b=some o→h'.get? b=some o)→Q (.ref s.heap.objs.size) { s with heap:=h',toks:=tk }) :
  wpAny (model prog w) A (call (.type "set") [.str x u]) Q E s:=by
 obtain ⟨c,tl,hmro⟩:=PySem.F.called_set.mro
 have hmade:=PySem.F.called_set.made
 have hsub:=PySem.F.called_set.sub
 refine wpAny_call (codeAny_of_tree ?_)
 show wpAny _ _ (callAny (.type "set") _) _ _ _
 refine wpAny_pure ⟨Code.quiet_builtin _ (by decide +kernel),codeAny_builtin PySem.F.entry_type_call ?_⟩
 rw [Around.under_plain (weight_type_call_type "set" [.str x u] []) rfl]
 have h1:=PySem.F.called_set.notType
 have h2:=PySem.F.called_set.canCreate
 have hct:=PySem.F.typeCall_set_1 (.str x u)
 repeat (any_goals (first | assumption | wp_step))
 refine codeAny_mono (code_set_new_1 (.str x u) (E:=E) (Q₁:=fun obj s₁=>∃ led:Bool,obj = .ref s.heap.objs.size∧s₁={ s with heap:=s.heap.push { cls := .type "set",dict:=none,data := .set #[] 0 (.fresh 0 0 led) } }) fun led=>⟨led,rfl,rfl⟩) fun r s₁ hr=>?_
 cases r with
 | error e=>exact hr
 | ok fl =>
  cases fl with
  | ret obj =>
   obtain ⟨led,rfl,rfl⟩:=hr
   have hS:(s.heap.push { cls := .type "set",dict:=none,data := .set #[] 0 (.fresh 0 0 led) }).get? s.heap.objs.size=some { cls := .type "set",dict:=none,data := .set #[] 0 (.fresh 0 0 led) }:=Heap.get?_push_size _ rfl
   have hT:Shared.TypeIs { s with heap:=s.heap.push { cls := .type "set",dict:=none,data := .set #[] 0 (.fresh 0 0 led) } } (.ref s.heap.objs.size) "set":=⟨_,hS,rfl⟩
   have hli:=PySem.F.called_set.init.lookup
   have hbi:=PySem.F.called_set.init.bind (.ref s.heap.objs.size)
   repeat (any_goals (first | assumption | wp_step))
   refine codeAny_mono (codeAny_call_builtin (R:=wants (fun r s₂=>r = .none∧∃ h' tk,s₂={ s with heap:=h',toks:=tk } ∧
     h'.SetOf (PySem.strKind prog w) s.heap.objs.size (fun k'=>(met (sg x) x.cps.size).any (·==k')) (met (sg x) x.cps.size).length ∧
     (∀ b o,b<s.heap.objs.size→s.heap.get? b=some o→h'.get? b=some o)) E) PySem.F.called_set.init.plain PySem.F.entry_set_init (check_set_init_1 hT ?_)) fun r₂ s₂ hr₂=>?_
   ·have hsls:=Ybc
    have hslf:=Uv
    have hne:(Value.type "str"==Value.type "dict")=false:=by decide
    unfold Builtin.«set.__init__» noKeywords Builtin.Frozenset.updateFrom
    generalize hPI:pyIter=PI
    wp_walk
    subst hPI
    refine wpAny_pyIter_str fun oI St W st0=>?_
    refine wpAny_bind (wpAny_runValue ?_)
    have hh3:A.in1.in1.in1.handled=none:=by simp [hh]
    have hSf:s.heap.objs.size∉[(s.heap.push { cls := .type "set",dict:=none,data := .set #[] 0 (.fresh 0 0 led) }).objs.size]:=by
     rw [Heap.size_push];simp only [List.mem_cons,List.not_mem_nil,or_false]
     exact Nat.ne_of_lt (Nat.lt_succ_self _)
    have hval:∀ (i:Nat) (v:Value),SignAt x i v→∃ t,v = .str (sg x i) t:=fun i v hv=>by
     obtain ⟨c,t,e,rfl⟩:=hv
     refine ⟨t,?_⟩
     unfold sg
     rw [Array.getD_eq_getD_getElem?,e]
     rfl
    refine Yaj ((W _ hh3).toS) s.heap.objs.size hSf (sg x) hval hb (x.cps.size - 0) 0 _ (by omega) (Nat.zero_le _) st0 ?hS0 ?hR
    case hS0 =>
     have hget:((s.heap.push { cls := .type "set",dict:=none,data := .set #[] 0 (.fresh 0 0 led) }).push oI).get? s.heap.objs.size
       = some { cls := .type "set",dict:=none,data := .set #[] 0 (.fresh 0 0 led) }:=Heap.get?_push_of_some _ hS
     exact SetOf_congr ((setObjOf_fresh (knd:=PySem.strKind prog w) led).setOf hget (by unfold scanBound;omega)) (fun _=>rfl) rfl
    case hR =>
     intro s' hm hS'
     obtain ⟨h',g',d',tk',os'⟩:=s'
     have eg:g'=s.gens:=hm.gens
     have ed:d'=s.drawn:=hm.drawn
     have eo:os'=s.os:=hm.os
     subst eg;subst ed;subst eo
     show wpAny _ _ _ _ _ _
     refine wpAny_pure ?_
     show wpAny _ _ (ret Value.none) _ _ _
     refine wpAny_pure ⟨rfl,h',tk',rfl,hS',fun b o hb e=>?_⟩
     have hb1:b≠s.heap.objs.size:=Nat.ne_of_lt hb
     have hb2:b≠(s.heap.push { cls := .type "set",dict:=none,data := .set #[] 0 (.fresh 0 0 led) }).objs.size:=by
      rw [Heap.size_push];exact Nat.ne_of_lt (Nat.lt_succ_of_lt hb)
     exact hm.heap b o (by simp only [List.mem_cons,List.not_mem_nil,or_false,not_or];exact ⟨hb1,hb2⟩) (Heap.get?_push_of_some _ (Heap.get?_push_of_some _ e))
   ·cases r₂ with
    | error e=>exact hr₂
    | ok fl₂ =>
     cases fl₂ with
     | ret r =>
      obtain ⟨rfl,h',tk,rfl,hS',hk'⟩:=hr₂
      repeat (any_goals (first | assumption | wp_step))
      exact h _ _ hS' hk'
     | _=>exact hr₂.elim
  | _=>exact hr.elim
end
def VB (a:Addr) (n:Nat):HO := .ext fun h=>∃ (o:Obj) (es:Array (Int×Value)) (ep:Nat) (t:SetTable),h.get? a=some o∧o.ExactSet∧o.data = .set es ep t∧t.fits es.size=true∧es.size=n∧n<scanBound
section
variable {X:Cx}
theorem QM (hc:X.calm=true:=by rfl):Xh X (.type "set") (fun xs H Q=>∃ x,xs=[.str x]∧x.length≤1000∧∀ a,H a=none→Q (.ref a) (upd H a (VB a (met (sg x) x.cps.size).length))):=by
 intro pins s σ H xs us Q I r h
 obtain ⟨x,rfl,hl,q⟩:=h
 obtain ⟨u,rfl,t,rfl⟩:=Xw r
 have hl':x.cps.size≤1000:=hl
 refine Yci (I.ok.hd hc) (by unfold scanBound;omega) fun h' tk hS hk=>?_
 refine ⟨.ref s.heap.objs.size,_,I.laid (o:=VB s.heap.objs.size _) (fun b o e=>hk b o (Heap.lt_size e) e) (Nat.le_refl _) ?_,rfl,q _ (I.hok.fresh (Nat.le_refl _))⟩
 obtain ⟨o,es,ep,tb,ho,hex,hd,_,_,hb,hf,hn⟩:=hS
 exact ⟨⟨o,es,ep,tb,ho,hex,hd,hf,hn,by omega⟩,⟨o,ho⟩,fun h1 h2 p k=>by obtain ⟨o,es,ep,tb,ho,z⟩:=p;exact ⟨o,es,ep,tb,k o ho,z⟩⟩
theorem WG:Xh X (.builtin "len") (fun xs H Q=>∃ a n,xs=[.ref a]∧H a=some (VB a n)∧Q (.int (n:Nat)) H):=by
 intro pins s σ H xs us Q I r h
 obtain ⟨a,n,rfl,ha,q⟩:=h
 obtain ⟨u,rfl,ru⟩:=Xw r
 obtain rfl:u=Value.ref a:=ru
 obtain ⟨⟨o,es,ep,tb,ho,hex,hd,hf,hn,hb⟩,_,_⟩:=I.hok a _ ha
 subst hn
 refine call_len_set ho hex hd hf ?_ ⟨.int _,H,I.tok _,⟨_,rfl⟩,q⟩
 unfold scanBound at hb
 omega
end
end L2
namespace L2
open PySem PySem.Spec PyProof.Rows
section
variable {X:Cx}
end
end L2
namespace L2
open PySem PySem.Spec PyProof.Rows
theorem QC:∀ (tk:Nat) (xs:List Str),Yr (xs.map V.str) (strsFrom tk xs)
 | _,[] => .nil
 | tk,x::r => .cons ⟨tk,rfl⟩ (QC (tk+1) r)
theorem Yc5 (c:Nat):∀ l:List Nat,cnt c l≤l.length
 | []=>by rw [cnt_nil];simp
 | n::r=>by
  have:=Yc5 c r
  rw [cnt_cons,List.length_cons]
  split<;>omega
theorem Yc6 (x:Str) (c:Nat):(Txt.split x ⟨#[c]⟩).length≤x.length+1:=by
 have h1:=split_len x c
 have h2:=Yc5 c x.cps.toList
 rw [Array.length_toList] at h2
 have:x.length=x.cps.size:=rfl
 omega
section
variable {X:Cx}
def Yf0:V→List V→Hp→VK→Prop:=fun x vs H Q=>∃ (z:Str) (c:Nat),x = .str z∧vs=[.str ⟨#[c]⟩]∧z.length≤100000∧∀ l,H l=none→Q (.ref l) (upd H l (.lst ((Txt.split z ⟨#[c]⟩).map V.str)))
theorem Yd4:MtR X "str.split" Yf0:=by
 intro pins s σ H x vs v us Q I rx r h
 obtain ⟨z,c,rfl,rfl,hl,q⟩:=h
 obtain ⟨t,rfl⟩:=rx
 obtain ⟨u,rfl,ru⟩:=Xw r
 obtain ⟨t',rfl⟩:=ru
 have hs:=Yc6 z c
 have big:200000≤sizeLine:=by decide
 have hy:((⟨#[c]⟩:Str).length==0)=false:=rfl
 have one:Txt.split z ⟨#[c]⟩=[z]→EP X pins σ Q (.ref s.heap.objs.size) { s with heap:=s.heap.push { cls := .type "list",data := .seq [Value.str z t].toArray } }:=fun e=>by
  have hq:=q _ (I.hok.fresh (Nat.le_refl _))
  rw [e] at hq
  exact ⟨.ref s.heap.objs.size,_,I.lnew (ys:=[V.str z]) (.cons ⟨t,rfl⟩ .nil) (by show 1≤sizeLine;decide),rfl,hq⟩
 by_cases h1:(decide (z.length<(⟨#[c]⟩:Str).length)||decide (PySem.Builtin.Str.strKind z<PySem.Builtin.Str.strKind ⟨#[c]⟩))=true
 ·refine call_meets F.slot_str_split (typeIs_str s z t) F.entry_str_split (F.args_str_split_2 _ _) (meets_str_split_cannot_occur z ⟨#[c]⟩ t t' h1) ?_
  exact one (by unfold Txt.split;rw [if_pos h1])
 ·have h1':=Bool.eq_false_iff.mpr h1
  by_cases hf:(PySem.Builtin.Str.occurrences z ⟨#[c]⟩ 0 z.length (z.length+1)).isEmpty=true
  ·refine call_meets F.slot_str_split (typeIs_str s z t) F.entry_str_split (F.args_str_split_2 _ _) (meets_str_split_not_found z ⟨#[c]⟩ t t' h1' hy hf) ?_
   exact one (by unfold Txt.split;rw [if_neg h1,if_pos hf])
  ·have hf':=Bool.eq_false_iff.mpr hf
   have e:Txt.split z ⟨#[c]⟩=PySem.Builtin.Str.partsBetween z (PySem.Builtin.Str.occurrences z ⟨#[c]⟩ 0 z.length (z.length+1)) (⟨#[c]⟩:Str).length:=by unfold Txt.split;rw [if_neg h1,if_neg hf]
   rw [e] at hs
   refine call_meets F.slot_str_split (typeIs_str s z t) F.entry_str_split (F.args_str_split_2 _ _) (meets_str_split_sep z ⟨#[c]⟩ t t' h1' hy hf' (by omega) (by omega)) ?_
   have hq:=q _ (I.hok.fresh (Nat.le_refl _))
   rw [e] at hq
   exact ⟨.ref s.heap.objs.size,_,I.lnew (QC _ _) (by rw [List.length_map];omega),rfl,hq⟩
end
end L2
namespace L2
open PySem PySem.Spec PyProof.Rows
section
variable {X:Cx}
end
end L2
namespace L2
open PySem PySem.Spec PyProof.Rows
section
variable {X:Cx} {e lo st:Expr} {te tl ts:TE} {pos p2:Pos}
end
section
variable {g:Gx} {X:Cx} {k j:Nat} {x m:Str} {ps:List Str} {sp:Sp} {e:Expr} {es:List Expr} {t:TA} {p pos apos:Pos}
end
end L2
namespace L2
open PySem PySem.Spec PyProof.Rows
section
variable {X:Cx}
end
section
variable {K:PySem.W.Frag} {h:Heap} {mg:Str→Option Value} {P:Program} {w:World} {base:Heap} {f B:Addr} {x qual m:Str} {st:Stmt} {ps N:List Str} {oc kV dc pm cd ct:Value} {od an:Option Addr} {sl:Array (Option Value)} {g:Gx} {k:Nat} {sp:Sp}
end
end L2
namespace L2
end L2
namespace L2
open PySem PySem.Spec PyProof.Rows
section
variable {g:TG} {tb:TS} {D:Ends} {σ:St} {H:Hp}
end
def V0s (H:Hp) (us:List V) (ds:List PyData):Prop:=us.length=ds.length∧∀ (i:Nat) u d,us[i]?=some u→ds[i]?=some d→VL H u d []
theorem V0s.keep {H H':Hp} {us:List V} {ds:List PyData} (h:V0s H us ds) (t:Tps H H'):V0s H' us ds:=⟨h.1,fun i u d h1 h2=>(h.2 i u d h1 h2).keepL t fun a ha=>absurd ha (by simp)⟩
theorem V0s.nil {H:Hp}:V0s H [] []:=⟨rfl,fun i u d h=>by simp at h⟩
theorem V0s.one {H:Hp} {u:V} {d:PyData} (h:VL H u d []):V0s H [u] [d]:=⟨rfl,fun i x y h1 h2=>by
 cases i with
 | zero =>
  have e1:u=x:=by simpa using h1
  have e2:d=y:=by simpa using h2
  subst e1 e2
  exact h
 | succ i=>simp at h1⟩
theorem V0s.append {H:Hp} {us us':List V} {ds ds':List PyData} (h:V0s H us ds) (h':V0s H us' ds'):V0s H (us++us') (ds++ds'):=by
 refine ⟨by rw [List.length_append,List.length_append,h.1,h'.1],fun i u d h1 h2=>?_⟩
 by_cases hi:i<us.length
 ·rw [List.getElem?_append_left hi] at h1
  rw [List.getElem?_append_left (by rw [← h.1];exact hi)] at h2
  exact h.2 i u d h1 h2
 ·rw [List.getElem?_append_right (by omega)] at h1
  rw [List.getElem?_append_right (by rw [← h.1];omega),← h.1] at h2
  exact h'.2 _ u d h1 h2
theorem V0s.take {H:Hp} {us:List V} {ds:List PyData} (h:V0s H us ds) (n:Nat):V0s H (us.take n) (ds.take n):=by
 refine ⟨by rw [List.length_take,List.length_take,h.1],fun i u d h1 h2=>?_⟩
 rw [List.getElem?_take] at h1 h2
 split at h1
 ·rw [if_pos (by assumption)] at h2;exact h.2 i u d h1 h2
 ·cases h1
theorem V0s.drop {H:Hp} {us:List V} {ds:List PyData} (h:V0s H us ds) (n:Nat):V0s H (us.drop n) (ds.drop n):=by
 refine ⟨by rw [List.length_drop,List.length_drop,h.1],fun i u d h1 h2=>?_⟩
 rw [List.getElem?_drop] at h1 h2
 exact h.2 _ u d h1 h2
theorem V0s.of {H:Hp}:∀ {us:List V} {ds:List PyData} {L:List Addr},VLs H us ds L→L=[]→V0s H us ds
 | _,_,_,.nil,_ => .nil
 | _,_,_,.cons h hs,e=>by
  obtain ⟨e1,e2⟩:=List.append_eq_nil_iff.mp e
  subst e1
  have:=(V0s.of hs e2)
  exact V0s.append (.one h) this
end L2
namespace L2
open PySem
end L2
namespace L2
open PySem
end L2
namespace L2
open PySem PySem.Spec PyProof.Rows
section
variable {X:Cx} {elts:List Expr} {kk:Nat} {tpos:Pos}
end
section
variable {tb:TS} {D:Ends} {σ:St} {H:Hp}
end
end L2
namespace L2
open PySem
end L2
namespace L2
open PySem PySem.Spec PyProof.Rows
abbrev FnO (f:Addr) (fd:FuncData):HO := .ext fun h=>h.get? f=some { cls := .type "function",data := .func fd }
abbrev CdO (c:Addr) (q:Str):HO := .ext fun h=>h.CodeRec (.ref c) q
abbrev CellO (c:Addr) (v:V):HO := .ext fun h=>∃ u,YA v u∧h.IsCell c (some u)
section
variable {P:Program} {w:World} {H H':Hp} {h h':Heap}
end
def off (H:Hp) (cs:List Addr):Hp:=fun b=>if b∈cs then none else H b
def on (H' H:Hp) (cs:List Addr):Hp:=fun b=>if b∈cs then H b else H' b
section
variable {H H':Hp} {cs:List Addr} {b:Addr} {o:HO}
end
abbrev V6:=List (Str×Addr×V)
def V6.In (l:V6) (H:Hp):Prop:=∀ p∈l,H p.2.1=some (CellO p.2.1 p.2.2)
theorem V6.In.keep {l:V6} {H H':Hp} (h:l.In H) (s:Same H H'):l.In H':=fun p hp=>s _ _ (h p hp)
section
variable {l:V6} {H:Hp}
end
section
variable {P:Program} {w:World} {K:PySem.W.Frag} {mg:Str→Option Value} {base:Heap} {N ps:List Str} {qual name:Str} {scope:Scope} {f c:Addr} {A:Around} {outer:List Env} {s:Shared} {H:Hp} {us:List Value} {vs:List V} {l:V6} {cd:Value}
end
def ClIn (H:Hp) (f c:Addr) (fd:FuncData) (qual:Str) (l:V6):Prop:=H f=some (FnO f fd)∧H c=some (CdO c qual)∧l.In H
theorem ClIn.keep {H H':Hp} {f c:Addr} {fd:FuncData} {qual:Str} {l:V6} (h:ClIn H f c fd qual l) (s:Same H H'):ClIn H' f c fd qual l:=⟨s _ _ h.1,s _ _ h.2.1,h.2.2.keep s⟩
end L2
namespace L2
open PySem PySem.Spec PyProof.Rows
section
variable {X:Cx} {pins:List (Addr×Obj)} {σ:St} {H:Hp} {s:Shared}
end
section
variable {X:Cx} {c P:Addr} {name qual:Str} {params:Arguments} {body:List Stmt} {eb:Expr} {scope:Scope} {clos:List (Str×Addr)} {pos:Pos} {ln:Nat}
end
section
variable {X:Cx} {st:Stmt} {Y5:List Stmt} {t:TS} {u:(St→V→Hp→Prop)→St→Hp→Prop} {e:Expr} {te:TE} {pos:Pos}
end
end L2
namespace L2
open PySem PySem.Spec PyProof.Rows
section
variable {X:Cx} {g:Gx} {k j i:Nat} {x:Str} {p pos:Pos} {e:Expr} {es:List Expr} {t:TA}
end
end L2
namespace HT
open PySem PySem.Spec PyProof.Rows
variable {prog:Program} {w:World} {A:Around} {E:Value→Shared→Prop} {s:Shared}
end HT
namespace L2
open PySem PySem.Spec PyProof.Rows
end L2
namespace L2
open PySem PySem.Spec PyProof.Rows
section
variable {tb:TS} {D:Ends} {σ:St} {H:Hp}
end
section
variable {src:List (Option Nat)} {te:TE} {tt:TT} {σ:St} {H:Hp} {Q:VK}
end
end L2
namespace L2
open PySem PySem.Spec PyProof.Rows
end L2
namespace L2
open PySem PySem.Spec PyProof.Rows
section
variable {g:Gx} {x qual:Str} {st:Stmt} {N ps:List Str} {dvs:List V} {sp:Sp} {j k:Nat}
variable {X:Cx} {p pos:Pos} {e:Expr} {es:List Expr} {t:TA}
end
section
variable {X:Cx}
end
section
variable {src:List (Option Nat)} {te:TE} {σ:St} {H:Hp} {Q:VK}
end
end L2
namespace L2
open PySem PySem.Spec PyProof.Rows
mutual
inductive RK (h:Heap):Value→PyData→Prop
 | int (i:Int) (t:Tok):RK h (.int i t) (.int i)
 | str (x:Str) (t:Tok) (hx:PyData.strOk x=true):RK h (.str x t) (.str x)
 | tup {a:Addr} {o:Obj} {vs:Array Value} {n:Nat} {ds:List PyData}:h.get? a=some o→o.cls = .type "tuple"→o.data = .seq vs n→RKs h vs.toList ds→RK h (.ref a) (.tuple ds)
inductive RKs (h:Heap):List Value→List PyData→Prop
 | nil:RKs h [] []
 | cons {v:Value} {d:PyData} {vs:List Value} {ds:List PyData}:RK h v d→RKs h vs ds→RKs h (v::vs) (d::ds)
end
mutual
inductive KO:PyData→Prop
 | int (i:Int):KO (.int i)
 | str (x:Str):KO (.str x)
 | tup {ds:List PyData}:KOs ds→KO (.tuple ds)
inductive KOs:List PyData→Prop
 | nil:KOs []
 | cons {d:PyData} {ds:List PyData}:KO d→KOs ds→KOs (d::ds)
end
mutual
theorem RK.ko {h:Heap}:∀ {v:Value} {d:PyData},RK h v d→KO d
 | _,_,.int i t => .int i
 | _,_,.str x t _ => .str x
 | _,_,.tup _ _ _ hs => .tup hs.ko
theorem RKs.ko {h:Heap}:∀ {vs:List Value} {ds:List PyData},RKs h vs ds→KOs ds
 | _,_,.nil => .nil
 | _,_,.cons a b => .cons a.ko b.ko
end
mutual
theorem RK.reads {h:Heap}:∀ {v:Value} {d:PyData},RK h v d→(∃ as,Reads h v d as)∧d.canLay0=true
 | _,_,.int i t=>⟨⟨_,.int i t⟩,rfl⟩
 | _,_,.str x t hx=>⟨⟨_,.str x t⟩,by simpa [PyData.canLay0] using hx⟩
 | _,_,.tup h1 h2 h3 hs=>by
  obtain ⟨⟨as,r⟩,l⟩:=hs.reads
  exact ⟨⟨_,.tuple h1 h2 h3 r⟩,by rw [PyData.canLay0];exact l⟩
theorem RKs.reads {h:Heap}:∀ {vs:List Value} {ds:List PyData},RKs h vs ds→(∃ as,ReadsAll h vs ds as)∧PyData.canLayAll0 ds=true
 | _,_,.nil=>⟨⟨_,.nil⟩,rfl⟩
 | _,_,.cons a b=>by
  obtain ⟨⟨as,r⟩,l⟩:=a.reads
  obtain ⟨⟨bs,r'⟩,l'⟩:=b.reads
  exact ⟨⟨_,.cons r r'⟩,by rw [PyData.canLayAll0,l,l'];rfl⟩
end
theorem RK.of {h:Heap} {d:PyData} {v:Value} {as:List Addr} (k:KO d) (r:Reads h v d as) (l:d.canLay0=true):RK h v d:=by
 induction k using KO.rec (motive_2:=fun ds _=>∀ {vs:List Value} {as:List Addr},ReadsAll h vs ds as→PyData.canLayAll0 ds=true→RKs h vs ds) generalizing v as with
 | int i=>cases r with | int _ t=>exact .int i t
 | str x=>cases r with | str _ t=>exact .str x t (by simpa [PyData.canLay0] using l)
 | tup _ ih=>cases r with | tuple h1 h2 h3 hs=>exact .tup h1 h2 h3 (ih hs (by rw [PyData.canLay0] at l;exact l))
 | nil=>rename_i r l;cases r;exact .nil
 | cons _ _ ih ihs =>
  rename_i r l
  rw [PyData.canLayAll0,Bool.and_eq_true] at l
  cases r with | cons r rs=>exact .cons (ih r l.1) (ihs rs l.2)
theorem RK.inj {h:Heap} {d:PyData} {v:Value} {e:PyData} (a:RK h v d) (b:RK h v e):d=e:=by
 obtain ⟨⟨_,r⟩,l⟩:=a.reads
 obtain ⟨⟨_,r'⟩,_⟩:=b.reads
 exact (r.unique _ _ r').1
mutual
theorem RK.keeps {h h':Heap} {x:Addr} {o:Obj} {es:Array DictEntry} {ep:Nat} (ho:h.get? x=some o) (hd:o.data = .dict es ep) (hs:Heap.SameBut x h h'):∀ {v:Value} {d:PyData},RK h v d→RK h' v d
 | _,_,.int i t => .int i t
 | _,_,.str y t hy => .str y t hy
 | _,_,.tup (a:=a) h1 h2 h3 ks=>by
  have hne:a≠x:=by
   rintro rfl
   rw [ho] at h1
   cases h1
   rw [hd] at h3
   exact nomatch h3
  exact .tup ((hs.2 a hne).trans h1) h2 h3 (RKs.keeps ho hd hs ks)
theorem RKs.keeps {h h':Heap} {x:Addr} {o:Obj} {es:Array DictEntry} {ep:Nat} (ho:h.get? x=some o) (hd:o.data = .dict es ep) (hs:Heap.SameBut x h h'):∀ {vs:List Value} {ds:List PyData},RKs h vs ds→RKs h' vs ds
 | _,_,.nil => .nil
 | _,_,.cons a b => .cons (RK.keeps ho hd hs a) (RKs.keeps ho hd hs b)
end
noncomputable instance decPy:DecidableEq PyData:=fun a b=>Classical.propDecidable (a=b)
mutual
theorem KO.eqv:∀ {d e:PyData},KO d→KO e→d.eqv e=decide (d=e)
 | .int a,.int b,_,_=>by
  by_cases h:a=b
  ·subst h;simp [PyData.eqv]
  ·simp [PyData.eqv,h]
 | .str a,.str b,_,_=>by
  by_cases h:a=b
  ·subst h;simp [PyData.eqv]
  ·simp [PyData.eqv,h]
 | .int a,.str b,_,_=>by simp [PyData.eqv]
 | .str a,.int b,_,_=>by simp [PyData.eqv]
 | .int a,.tuple b,_,_=>by simp [PyData.eqv]
 | .str a,.tuple b,_,_=>by simp [PyData.eqv]
 | .tuple a,.int b,_,_=>by simp [PyData.eqv]
 | .tuple a,.str b,_,_=>by simp [PyData.eqv]
 | .tuple a,.tuple b,.tup x,.tup y=>by
  rw [PyData.eqv,KOs.eqv x y]
  by_cases h:a=b
  ·subst h;simp
  ·simp [h]
theorem KOs.eqv:∀ {ds es:List PyData},KOs ds→KOs es→PyData.eqvAll ds es=decide (ds=es)
 | [],[],_,_=>by simp [PyData.eqvAll]
 | [],_::_,_,_=>by simp [PyData.eqvAll]
 | _::_,[],_,_=>by simp [PyData.eqvAll]
 | d::ds,e::es,.cons x xs,.cons y ys=>by
  rw [PyData.eqvAll,KO.eqv x y,KOs.eqv xs ys]
  by_cases h:d=e
  ·subst h
   by_cases h2:ds=es
   ·subst h2;simp
   ·simp [h2]
  ·simp [h]
end
section
variable {P:Program} {w:World}
mutual
def kh (P:Program) (w:World):PyData→Int
 | .int i=>(XU P w).hash (.inl i)
 | .str x=>(XU P w).hash (.inr x)
 | .tuple ds=>reduceHash (Builtin.Tuple.tupleHashOf (khs P w ds))
 | _=>0
def khs (P:Program) (w:World):List PyData→List Int
 | []=>[]
 | d::ds=>kh P w d::khs P w ds
end
mutual
def kdr:PyData→Nat
 | .int _=>1
 | .str _=>1
 | .tuple ds=>Ww ds+1
 | _=>0
def Ww:List PyData→Nat
 | []=>0
 | d::ds=>kdr d+Ww ds
end
theorem Yfg (a b:List PyData):khs P w (a++b)=khs P w a++khs P w b:=by
 induction a with
 | nil=>simp [khs]
 | cons x a ih=>simp [khs,ih]
theorem Yd5 (a b:List PyData):Ww (a++b)=Ww a+Ww b:=by
 induction a with
 | nil=>simp [Ww]
 | cons x a ih=>simp [Ww,ih,Nat.add_assoc]
theorem Yd6 (a b:List PyData):PyData.depthAll (a++b)=max (PyData.depthAll a) (PyData.depthAll b):=by
 induction a with
 | nil=>simp [PyData.depthAll]
 | cons x a ih=>simp [PyData.depthAll,ih,Nat.max_assoc]
theorem UY {s:Shared} {a:Addr} {o:Obj} (h1:s.heap.get? a=some o) (h2:o.cls = .type "tuple"):s.TypeIs (.ref a) "tuple":=⟨o,h1,h2⟩
theorem YbC:∀ (n:Nat) {A:Around} {E:Value→Shared→Prop} {s:Shared} {v:Value} {d:PyData} {Q:Int→Shared→Prop},RK s.heap v d→d.depth≤n→A.units+n<cLine→Q (kh P w d) { s with toks:=s.toks+kdr d }→wpAny (model P w) A (pyHash v) Q E s
 | n,A,E,s,_,_,Q,.int i t,_,_,h=>(XU P w).pyHash (Yev (k := .inl i) (show YA (.int i) (.int i t) from ⟨t,rfl⟩)) (by simpa [kh,kdr] using h)
 | n,A,E,s,_,_,Q,.str x t _,_,_,h=>(XU P w).pyHash (Yev (k := .inr x) (show YA (.str x) (.str x t) from ⟨t,rfl⟩)) (by simpa [kh,kdr] using h)
 | 0,A,E,s,_,_,Q,.tup _ _ _ _,hd,_,h=>by simp [PyData.depth] at hd
 | n+1,A,E,s,_,_,Q,.tup (a:=a) (ds:=ds) h1 h2 h3 ks,hd,hu,h=>by
  have hT:=UY h1 h2
  unfold pyHash
  first | unfold pyHashByItsType | skip
  first | refine wpAny_bind (wpAny_cRoomFor_or (.inr (by omega)) ?_) | skip
  refine wpAny_bind (wpAny_specialOf hT F.slot_tuple_hash.lookup ?_)
  show wpAny _ _ (if (some (Value.builtin "tuple.__hash__")==some Value.none)=true then _ else _) Q E s
  rw [if_neg (by rw [beq_builtin_none];exact Bool.false_ne_true)]
  refine wpAny_bind (wpAny_specialOf hT F.slot_tuple_hash.lookup ?_)
  refine wpAny_bind (wpAny_callSpecialIfBoundUnlessNone?_slot hT F.slot_tuple_hash (wpAny_call_entry F.slot_tuple_hash hT F.entry_tuple_hash ?_ (F.args_tuple_hash_1 _)))
  show wpAny _ _ (Builtin.Tuple.tupleItemsOf (.ref a) >>= _) _ _ s
  refine wpAny_bind (wpAny_tupleItemsOf h1 h3 ?_)
  refine wpAny_bind ?_
  rw [← Array.forIn_toList]
  have hdd:PyData.depthAll ds≤n:=by simp only [PyData.depth] at hd;omega
  refine wpAny_forIn_list _ (fun Y5 (b:Array Int) s'=>∃ done left,ds=done++left∧RKs s.heap Y5 left∧b.toList=khs P w done∧s'={ s with toks:=s.toks+Ww done }) _ ?_ ?_ _ _ ⟨[],ds,rfl,ks,by simp [khs],by simp [Ww]⟩
  ·rintro x Y5 b s' ⟨done,left,e,hl,hb,rfl⟩
   cases hl with
   | @cons _ d _ ds' hk hl' =>
    have hdk:d.depth≤n:=by
     rw [e,Yd6] at hdd
     simp only [PyData.depthAll] at hdd
     omega
    have hin:A.in1.units+n<cLine:=by
     have:A.in1.units=A.units+1:=rfl
     omega
    refine wpAny_bind (YbC n (s:={ s with toks:=s.toks+Ww done }) hk hdk hin ?_)
    have fin:∃ done' left',ds=done'++left'∧RKs s.heap Y5 left'∧(b.push (kh P w d)).toList=khs P w done'∧({ s with toks:=s.toks+Ww done+kdr d }:Shared)={ s with toks:=s.toks+Ww done' } :=
     ⟨done++[d],ds',by rw [e];simp,hl',by rw [Yfg,Array.toList_push,hb];simp [khs],by rw [Yd5];simp [Ww,Nat.add_assoc]⟩
    first
     | exact wpAny_pure fin
     | exact wpAny_bind (wpAny_pure (wpAny_pure fin))
  ·rintro b s' ⟨done,left,e,hl,hb,rfl⟩
   cases hl
   rw [List.append_nil] at e
   subst e
   show wpAny _ _ (retInt (Builtin.Tuple.tupleHashOf b.toList)) _ _ _
   rw [hb]
   refine wpAny_ret_mkInt ?_
   simp only [kh,kdr] at h
   unfold reduceHash at h
   show wpAny _ _ (if (decide (-(2:Int)^63≤Builtin.Tuple.tupleHashOf (khs P w ds))&&decide (Builtin.Tuple.tupleHashOf (khs P w ds)<2^63))=true then _ else _) Q E _
   by_cases hr:(decide (-(2:Int)^63≤Builtin.Tuple.tupleHashOf (khs P w ds))&&decide (Builtin.Tuple.tupleHashOf (khs P w ds)<2^63))=true
   ·rw [if_pos hr]
    rw [if_pos hr] at h
    exact wpAny_pure (by simpa [Nat.add_assoc] using h)
   ·rw [if_neg hr]
    rw [if_neg hr] at h
    exact wpAny_bind (wpAny_rule (wpAny_pure (by simpa [Nat.add_assoc] using h)))
theorem Yak:∀ (n:Nat) {A:Around} {E:Value→Shared→Prop} {s:Shared} {v:Value} {d:PyData} {Q:Bool→Shared→Prop},RK s.heap v d→d.depth≤n→Q true s→wpAny (model P w) A (eqIsQuiet n v) Q E s
 | n,A,E,s,_,_,Q,.int i t,_,h=>by rw [eqIsQuiet_byValue _ (by rfl)];exact wpAny_pure h
 | n,A,E,s,_,_,Q,.str x t _,_,h=>by rw [eqIsQuiet_byValue _ (by rfl)];exact wpAny_pure h
 | 0,A,E,s,_,_,Q,.tup _ _ _ _,hd,h=>by simp [PyData.depth] at hd
 | n+1,A,E,s,_,_,Q,.tup (a:=a) (ds:=ds) h1 h2 h3 ks,hd,h=>by
  have hT:=UY h1 h2
  have hdd:PyData.depthAll ds≤n:=by simp only [PyData.depth] at hd;omega
  unfold eqIsQuiet
  refine wpAny_bind (wpAny_specialOf hT F.slot_tuple_eq.lookup ?_)
  refine wpAny_bind (wpAny_isInstance hT isSubtype_tuple_tuple ?_)
  simp only [Bool.not_true,Bool.false_eq_true,if_false]
  refine wpAny_bind (wpAny_seqItems h1 h3 ?_)
  refine wpAny_bind ?_
  rw [Option.getD_some,← Array.forIn_toList]
  refine wpAny_forIn_list _ (fun Y5 r s'=>r.1=none∧s'=s∧∃ left,RKs s.heap Y5 left∧PyData.depthAll left≤n) _ ?_ ?_ _ _ ⟨rfl,rfl,ds,ks,hdd⟩
  ·rintro v Y5 r s' ⟨hr,rfl,left,hl,hdl⟩
   cases hl with
   | @cons _ d _ ds' hk hl' =>
    simp only [PyData.depthAll] at hdl
    refine wpAny_bind (Yak n hk (by omega) ?_)
    simp only [Bool.not_true,Bool.false_eq_true,if_false]
    exact wpAny_pure ⟨rfl,rfl,ds',hl',by omega⟩
  ·rintro ⟨r1,r2⟩ s' ⟨hr,rfl,_⟩
   simp only at hr
   subst hr
   exact wpAny_pure h
noncomputable def deepKind (P:Program) (w:World):HeapKind P w PyData where
 is:=fun h d a=>RK h (.ref a) d∧d.depth≤8
 hash:=kh P w
 draws:=kdr
 room:=fun A=>A.units+8<cLine
 inj:=fun hx hy=>hx.1.inj hy.1
 keeps:=fun x ho hd hs=>⟨x.1.keeps ho hd hs,x.2⟩
 pyHash:=fun hu hk h=>YbC 8 hk.1 hk.2 hu h
 eqBool:=fun {A E s x y a b Q} hu hx hy h=>by
  obtain ⟨⟨as,r1⟩,l1⟩:=hx.1.reads
  obtain ⟨⟨bs,r2⟩,l2⟩:=hy.1.reads
  have hm:min x.depth y.depth≤8:=Nat.le_trans (Nat.min_le_left _ _) hx.2
  exact SeqAt.eqAt_reads x y A s _ _ _ _ r1 r2 l1 l2 (by omega) P w E Q (by rw [KO.eqv hx.1.ko hy.1.ko];exact h)
 quiet:=fun hk h=>Yak 8 hk.1 hk.2 h
end
abbrev Dx:=List (PyData×Addr×Addr)
def dconv (x:PyData×Addr×Addr):PyData×Addr×Value:=(x.1,x.2.1,.ref x.2.2)
noncomputable def DDi (P:Program) (w:World) (a:Addr) (xs:Dx):HO := .ext fun h=>(a==sysModules)=false∧∃ o es ep,h.get? a=some o∧o.ExactDict∧o.data = .dict es ep∧es.toList=(xs.map dconv).map (entryOfKey (deepKind P w))
structure DK (K:PySem.W.Frag) (H:Hp) (b:Addr) (d:PyData):Prop where
 den:Den K H (.ref b) d
 ko:KO d
 dp:d.depth≤8
theorem DK.keep {K:PySem.W.Frag} {H H':Hp} {b:Addr} {d:PyData} (h:DK K H b d) (s:Same H H'):DK K H' b d:=⟨h.den.keep s,h.ko,h.dp⟩
noncomputable def lookD (xs:Dx) (d:PyData):Option Addr:=(xs.find? fun x=>decide (x.1=d)).map (·.2.2)
structure DictD (P:Program) (w:World) (K:PySem.W.Frag) (H:Hp) (a:Addr) (xs:Dx):Prop where
 at_:H a=some (DDi P w a xs)
 nd:(xs.map (·.1)).Nodup
 len:xs.length≤1000
 keys:∀ x∈xs,DK K H x.2.1 x.1
section
variable {X:Cx} {pins:List (Addr×Obj)} {σ:St} {H:Hp} {s:Shared} {a b:Addr} {d:PyData} {xs:Dx} {u r:Value} {A:Around} {E:Value→Shared→Prop}
end
section
variable {X:Cx} {o i e value:Expr} {pos pos' tpos:Pos} {td ty tv:TE} {k:Nat}
end
def VC (H H':Hp):Prop:=∀ b xs,Rd H b (.tup xs)→Rd H' b (.tup xs)
theorem VC.sq {K:PySem.W.Frag} {H H':Hp} (t:VC H H') {b:Addr} {xs:List V} (h:SqT K H b xs):SqT K H' b xs:=by
 rcases h with h | h
 ·exact .inl (t _ _ h)
 ·exact .inr h
theorem VC.trans {H H1 H2:Hp} (a:VC H H1) (b:VC H1 H2):VC H H2:=fun c xs e=>b c xs (a c xs e)
theorem Yd7 {K:PySem.W.Frag} {H H':Hp} (t:VC H H') {d:PyData} {v:V} (k:KO d) (r:Den K H v d):Den K H' v d:=by
 induction k using KO.rec (motive_2:=fun ds _=>∀ {vs:List V},Dens K H vs ds→Dens K H' vs ds) generalizing v with
 | int i=>cases r with | int _=>exact .int i
 | str x=>cases r with | str _ h=>exact .str x h
 | tup _ ih=>cases r with | tup h hs=>exact .tup (t.sq h) (ih hs)
 | nil=>rename_i r;cases r;exact .nil
 | cons _ _ ih ihs=>rename_i r;cases r with | cons a b=>exact .cons (ih a) (ihs b)
theorem DK.tupk {K:PySem.W.Frag} {H H':Hp} {b:Addr} {d:PyData} (h:DK K H b d) (t:VC H H'):DK K H' b d:=⟨Yd7 t h.ko h.den,h.ko,h.dp⟩
theorem DictD.keep {P:Program} {w:World} {K:PySem.W.Frag} {H H':Hp} {a:Addr} {xs:Dx} (h:DictD P w K H a xs) (t:VC H H') (e:H' a=some (DDi P w a xs)):DictD P w K H' a xs:=⟨e,h.nd,h.len,fun x hx=>(h.keys x hx).tupk t⟩
section
variable {X:Cx} {k:Nat}
end
section
variable {X:Cx} {e:Expr} {f:Str} {pos:Pos} {ta:TE}
end
end L2
namespace L2
open PySem PySem.Spec PyProof.Rows
end L2
namespace L2
open PySem PySem.Spec PyProof.Rows
end L2
namespace L2
open PySem PySem.Spec PyProof.Rows
section
variable {M:Model} {A:Around} {E:Value→Shared→Prop} {s:Shared}
end
section
variable {X:Cx}
end
section
variable {X:Cx}
end
end L2
namespace L2
open PySem PySem.Spec PyProof.Rows
theorem YbD {e:Value} {env env':Env} (h:env.frame=env'.frame):noteFrame e env=noteFrame e env':=by
 unfold noteFrame PySem.frameOf
 rw [h]
def X5 (B:Heap) (l:List Env) (e:Addr) (cls a0:Value) (h:Heap):Prop:=B.StaysIn h∧B.get? e=none∧h.FunFrames B l∧∃ fl,h.TracedAtW B e cls a0 fl
section
variable {M:Model} {A:Around} {E:Value→Shared→Prop} {s:Shared} {B:Heap} {env:Env} {outer l:List Env} {e L:Addr} {cls a0:Value} {Q:Unit→Shared→Prop}
theorem UZ {fr:Option Addr} (R:X5 B l e cls a0 s.heap) (h:∀ h',X5 B l e cls a0 h'→s.heap.UpToSlots h'→Q () { s with heap:=h' }):wpAny M A (setFlight (.ref e) fr) Q E s:=by
 obtain ⟨kb,en,fl,f,oe,vs,T,oT,ts,he,hc,hd,h1,nT,neT,hT,dT,h3⟩:=R
 have sz:3<ts.size:=(Array.getElem?_eq_some_iff.mp h3).1
 have oth:∀ b,b≠T→(s.heap.update T (Obj.mapFields (·.setIfInBounds 3 (fr.elim Value.none fun f=>rawInt f)))).get? b=s.heap.get? b:=fun b hb=>Heap.get?_update_other _ _ (Ne.symm hb)
 have nr:∀ b o,s.heap.get? b=some o→(∀ vs,o.data ≠ .fields vs)→b≠T:=fun b o hb hn q=>by
  rw [q,hT] at hb
  cases hb
  exact hn ts dT
 unfold setFlight
 refine wpAny_bind (wpAny_field he hd h1 ?_)
 rw [if_pos (show (Value.ref T != Value.none)=true by simp)]
 refine wpAny_setField hT dT sz (h _ ⟨fun b o q=>(oth b fun z=>by rw [z,nT] at q;cases q).trans (kb b o q),en,fl.of_keeps fun b o q n=>⟨o,(oth b (nr b o q n)).trans q,rfl⟩,fr.elim Value.none fun f=>rawInt f,oe,vs,T,_,_,(oth e (Ne.symm neT)).trans he,hc,hd,h1,nT,neT,Heap.get?_update_self _ hT (Obj.isFreed_of_fields (Obj.data_mapFields dT _)),Obj.data_mapFields dT _,?_⟩ fun b o q n=>⟨o.slots,(oth b (nr b o q n)).trans q⟩)
 simp [sz]
theorem UB (hfr:A.frames=some (env::outer)) (hf:env.frame=some L) (R:X5 B (env::outer) e cls a0 s.heap) (hQ:∀ h',X5 B (env::outer) e cls a0 h'→s.heap.UpToSlots h'→Q () { s with heap:=h' }):wpAny M A (noteFrame (.ref e) env) Q E s:=by
 obtain ⟨kb,en,fl,f,oe,vs,T,oT,ts,he,⟨hc,h0⟩,hd,h1,nT,neT,hT,dT,h3⟩:=R
 subst hc
 unfold noteFrame
 simp only [hf]
 refine wpAny_bind (wpAny_field he hd h1 ?_)
 rw [if_pos (show (Value.ref T != Value.none)=true by simp)]
 refine wpAny_bind (wpAny_field hT dT h3 ?_)
 by_cases c:(f==rawInt L)=true
 ·rw [if_pos c]
  exact wpAny_pure (hQ s.heap ⟨kb,en,fl,f,oe,vs,T,oT,ts,he,⟨rfl,h0⟩,hd,h1,nT,neT,hT,dT,h3⟩ (.refl _))
 ·rw [if_neg c]
  have oth:∀ b,b≠T→(s.heap.update T (Obj.mapFields (·.setIfInBounds 3 Value.none))).get? b=s.heap.get? b:=fun b hb=>Heap.get?_update_other _ _ (Ne.symm hb)
  have nr:∀ b o,s.heap.get? b=some o→(∀ vs,o.data ≠ .fields vs)→b≠T:=fun b o hb hn q=>by
   rw [q,hT] at hb
   cases hb
   exact hn ts dT
  refine wpAny_bind (wpAny_setField hT dT (Array.getElem?_eq_some_iff.mp h3).1 ?_)
  exact wpAny_entryW hfr (fl.of_keeps fun b o q n=>⟨o,(oth b (nr b o q n)).trans q,rfl⟩) hf ((oth e (Ne.symm neT)).trans he) (fun b o q=>(oth b fun z=>by rw [z,nT] at q;cases q).trans (kb b o q)) en hd (Array.getElem?_eq_some_iff.mp h1).1 h0
   fun h' ⟨x1,x2,x3,x4⟩=>hQ h' ⟨x1,en,x2,_,x3⟩ fun b o q n=>x4 b o ((oth b (nr b o q n)).trans q) n
theorem Yc7 (hfr:A.frames=some (env::outer)) (hf:env.frame=some L) (R:X5 B (env::outer) e cls a0 s.heap) (hQ:∀ h',Heap.FlyingW B outer e cls a0 h'→s.heap.UpToSlots h'→Q () { s with heap:=h' }):wpAny M A (leaving env (.ref e)) Q E s:=by
 unfold leaving
 refine wpAny_bind (UB hfr hf R fun h1 ⟨k1,k2,k3,fl,k4⟩ u1=>?_)
 refine wpAny_setFlight_noneW k1 k3 k4 fun h2 j1 j2 j3 j4=>hQ h2 ⟨j1,k2,j2.2.2,j3⟩ ?_
 exact u1.trans fun b o q n=>⟨o.slots,j4 b o q n⟩
theorem X5.hide {h h':Heap} {C:Addr} {oc:Obj} (R:X5 B l e cls a0 h) (hC:B.get? C=some oc) (sb:Heap.SameBut C h h'):X5 (PySem.W.hideAll B [C]) l e cls a0 h':=by
 obtain ⟨kb,en,fl,f,oe,vs,T,oT,ts,he,hc,hd,h1,nT,neT,hT,dT,h3⟩:=R
 have nC:∀ {b:Addr},B.get? b=none→b≠C:=fun {b} q z=>by rw [z,hC] at q;cases q
 have hn:∀ {b:Addr},B.get? b=none→(PySem.W.hideAll B [C]).get? b=none:=fun {b} q=>by
  cases z:(PySem.W.hideAll B [C]).get? b with
  | none=>rfl
  | some o=>rw [PySem.W.of_hideAll _ z] at q;cases q
 have ff:∀ {l:List Env},h.FunFrames B l→h'.FunFrames (PySem.W.hideAll B [C]) l:=fun {l}=>by
  induction l with
  | nil=>exact fun _=>trivial
  | cons x r ih =>
   rintro ⟨z1,⟨L,o,z2,z3,z4,z5⟩,z6⟩
   exact ⟨z1,⟨L,o,z2,hn z3,(sb.2 L (nC z3)).trans z4,z5⟩,ih z6⟩
 refine ⟨fun b o q=>?_,hn en,ff fl,f,oe,vs,T,oT,ts,(sb.2 e (nC en)).trans he,hc,hd,h1,hn nT,neT,(sb.2 T (nC nT)).trans hT,dT,h3⟩
 have:b≠C:=fun z=>by rw [z,PySem.W.hideAll_none _ (by simp)] at q;cases q
 exact (sb.2 b this).trans (kb b o (PySem.W.of_hideAll _ q))
end
section
variable {X:Cx} {pins:List (Addr×Obj)} {σ:St} {H H':Hp} {s s1 s':Shared} {B:Heap} {e C:Addr} {cls a0:Value} {M:Model} {A:Around} {Q:Unit→Shared→Prop} {EE:Value→Shared→Prop}
theorem Inv.leave_comp {oc:Obj} (I:Inv X pins σ H s) (hs:X.stack=X.env::X.outer) (hf:X.env.frame=some X.env.locals) (hex:X.ex=[]) (hA:A.frames=some (X.env::X.outer)) (F:Fly X.prog X.w X.stack H s.heap e cls H' s1.heap B)
  (hC:s.heap.get? C=some oc) (hHC:H C=none) (hCn:X.s₀.heap.objs.size≤C) (R:X5 (PySem.W.hideAll B [C]) (X.env::X.outer) e cls a0 s'.heap) (up:∀ b o,b≠C→s1.heap.get? b=some o→(∀ vs,o.data ≠ .fields vs)→∃ sl,s'.heap.get? b=some { o with slots:=sl })
  (hQ:∀ h'',Fly X.prog X.w X.outer X.H₀ X.s₀.heap e cls H' h'' (PySem.W.hideAll B [C])→Q () { s' with heap:=h'' }):wpAny M A (leaving X.env (.ref e)) Q EE s':=by
 have nx:∀ b:Addr,b∉X.ex:=by
  rw [hex]
  intro b z
  cases z
 have old:∀ {b:Addr} {o:Obj},X.s₀.heap.get? b=some o→b≠C:=fun {b o} q=>Nat.ne_of_lt (Nat.lt_of_lt_of_le (Heap.lt_size q) hCn)
 have nm:∀ {b:Addr},b≠C→b∉[C]:=fun {b} n z=>n (by simpa using z)
 rw [hs] at F
 refine Yc7 hA hf R fun h'' x1 x2=>hQ h'' ?_
 refine ⟨⟨a0,x1⟩,fun b o q=>?_,fun b o q n nb=>PySem.W.hideAll_get _ (F.keep b o (I.base.keep b o q n nb (nx b)) (I.base.free b o q n (nx b)) (I.notStk hf q nb)) (nm (old q)),fun b o q n hb=>?_,fun b o q nb=>?_,fun b o q n=>?_,fun b xs q=>F.tups b xs (I.base.tups b xs q),fun b o u q=>F.frzs b o u (I.base.frzs b o u q),fun b ps q=>?_⟩
 ·have hn:H' C=none:=F.free C oc hC hHC
  refine (F.hok b o q).stay (fun c v hc r=>PySem.W.hideAll_get _ r (nm fun z=>?_)) (fun _ z=>z) fun _ _ z=>z
  rw [z] at hc
  rcases hc with hc | hc
  ·rw [← hc,hn] at q;cases q
  ·rw [hn] at hc;cases hc
 ·obtain ⟨sl,e1⟩:=I.base.slot b o q n hb (nx b)
  obtain ⟨sl1,e2⟩:=F.slot b _ e1 (I.base.free b o q n (nx b)) (I.inStk hf hb)
  obtain ⟨_,o',e',d⟩:=I.ok.funs.mem hb
  rw [q] at e'
  cases e'
  obtain ⟨sl2,e3⟩:=up b _ (old q) e2 d
  obtain ⟨sl3,e4⟩:=x2 b _ e3 d
  exact ⟨sl3,e4⟩
 ·obtain ⟨o',e1⟩:=I.base.there b o q (nx b)
  obtain ⟨o2,e2⟩:=F.al b o' e1 (I.notStk hf q nb)
  exact ⟨o2,PySem.W.hideAll_get _ e2 (nm (old q))⟩
 ·obtain ⟨o',e1⟩:=I.base.there b o q (nx b)
  exact F.free b o' e1 (I.base.free b o q n (nx b))
 ·obtain ⟨m1,e1⟩:=I.base.tbls b ps q
  obtain ⟨m2,e2⟩:=F.tbls b _ e1
  exact ⟨m1++m2,by rw [e2,Array.append_assoc]⟩
end
def Qh (X:Cx) (E:XK):Prop:=X.stack=X.env::X.outer∧X.env.frame=some X.env.locals∧∀ (pins:List (Addr×Obj)) (σ:St) (H H':Hp) (s s1 s':Shared) (B:Heap) (e C:Addr) (cls a0:Value) (oc:Obj),Inv X pins σ H s→Fly X.prog X.w X.stack H s.heap e cls H' s1.heap B→s.heap.get? C=some oc→H C=none→X.s₀.heap.objs.size≤C→X5 (PySem.W.hideAll B [C]) (X.env::X.outer) e cls a0 s'.heap →
 (∀ b o,b≠C→s1.heap.get? b=some o→(∀ vs,o.data ≠ .fields vs)→∃ sl,s'.heap.get? b=some { o with slots:=sl })→s'.os=s.os→AllBare s'.gens→E cls none H'→X.xe (.ref e) s'
theorem Qi {g:Gx} {N:List Str} {qual:Str} {st:Stmt} {f:Addr} {cdv:Value} {A:Around} {outer:List Env} {s:Shared} {H:Hp} {E:XK}:Qh (g.cxX N qual st f cdv A outer s H E) E :=
 ⟨rfl,rfl,fun pins σ H1 H' s2 s1 s' B e C cls a0 oc I F hC hHC hCn R up os bare q=>I.leave_comp rfl rfl rfl I.ok.frames F hC hHC hCn R up fun h'' F'=>⟨e,cls,H',_,rfl,os.trans I.os,bare,F',q⟩⟩
def cxCX (X:Cx) (E:XK) (scope:Scope) (N':List Str) (cl:List (Str×Addr)) (C:Addr) (s₀:Shared) (H₀:Hp) (fp:List Addr) (pn:List (Addr×Obj)):Cx :=
 (cxC X scope N' cl C s₀ H₀ fp pn).wish fun e s'=>∃ pins σ H s,Inv (cxC X scope N' cl C s₀ H₀ fp pn) pins σ H s∧CXF X.prog X.w X.stack H s E e s'
theorem Ycj {X:Cx} {E:XK} {scope:Scope} {N':List Str} {cl:List (Str×Addr)} {C:Addr} {s₀:Shared} {H₀:Hp} {fp:List Addr} {pn:List (Addr×Obj)}:XL (CXF X.prog X.w) (cxCX X E scope N' cl C s₀ H₀ fp pn) E :=
 fun pins σ H s e s' I hq=>⟨pins,σ,H,s,I.unwish,hq⟩
section
variable {prog:Program} {w:World} {A:Around} {R:Result→Shared→Prop} {s:Shared}
theorem U0 {elt tg iter:Expr} {ifs:List Expr} {scope:Scope} {pos:Pos} {it acc:Value} {env:Env} (J:Nat→Shared→Prop)
  (turn:∀ n s,J n s→wpAny (model prog w) A (pyNext it) (fun r s₁=>match r with
    | none=>R (.ok .next) s₁
    | some v=>wpAny (model prog w) A (letOwnedTupleGo tg it v) (fun _ z₁=>wpAny (model prog w) A (assign tg env v) (fun _ s₂ =>
      wpAny (model prog w) A (forIn ifs true fun c r=>if r=true then do let ok ← isTrue c env (eval c env);pure (ForInStep.yield ok) else pure (ForInStep.yield r))
       (fun ok s₃=>if ok=true then wpAny (model prog w) A (eval elt env) (fun x s₄=>wpAny (model prog w) A (call (.builtin "list.append") [acc,x]) (fun _ s₅=>∃ m,m<n∧J m s₅) (fun _ _=>False) s₄) (notedBy (model prog w) A env fun e s'=>R (.error e) s') s₃
        else ∃ m,m<n∧J m s₃) (fun _ _=>False) s₂) (fun _ _=>False) z₁) (fun _ _=>False) s₁) (fun _ _=>False) s)
  (n:Nat) (h:J n s):codeAny (model prog w) A (.compLoop (.ListComp elt [⟨tg,iter,ifs,0⟩] scope pos) 0 it acc env) R s:=by
 refine codeAny_loop rfl J (fun n s hJ=>?_) n h
 show wpAny _ A (Sem.onRaise (compTurn (.ListComp elt [⟨tg,iter,ifs,0⟩] scope pos) 0 it acc env) (fun x=>do noteFrame x env;theTreesLotGoes x)) _ _ s
 refine wpAny_noted ?_
 rw [compTurn_list]
 have no:∀ {E:Value→Shared→Prop},∀ (e:Value) (s':Shared),False→E e s':=fun _ _ f=>f.elim
 refine wpAny_bind (wpAny_standAt (wpAny_bind (wpAny_mono (turn n s hJ) (fun r s₁ h₁=>?_) no)))
 cases r with
 | none=>exact wpAny_pure h₁
 | some v =>
  refine wpAny_bind (wpAny_mono h₁ (fun _ z₁ hz=>?_) no)
  refine wpAny_bind (wpAny_mono hz (fun _ s₂ h₂=>wpAny_bind (wpAny_mono h₂ (fun ok s₃ h₃=>?_) no)) no)
  cases ok with
  | false=>exact wpAny_pure ⟨rfl,h₃⟩
  | true =>
   exact wpAny_bind (wpAny_bind (wpAny_mono h₃ (fun x s₄ h₄=>wpAny_bind (wpAny_mono h₄ (fun _ s₅ h₅=>wpAny_pure (wpAny_pure ⟨rfl,h₅⟩)) no)) fun _ _ z=>z))
end
section
variable {X:Cx}
theorem Yc8 {elt tg iter:Expr} {ifs:List Expr} {scope:Scope} {pos:Pos} {src:List (Option Nat)} {N':List Str} {wi:TI} {g:TG} {tt:TT} {te:TE} {E:XK} (hL:Qh X E) (hcap:Cap X scope src N') (hc:X.calm=true) (hi:PI X tg iter wi)
  (hg:∀ cl C s₀ H₀ fp pn,PG (cxC X scope N' cl C s₀ H₀ fp pn) tg g) (ht:∀ cl C s₀ H₀ fp pn,PTs (cxC X scope N' cl C s₀ H₀ fp pn) ifs tt) (he:∀ cl C s₀ H₀ fp pn,PE (cxCX X E scope N' cl C s₀ H₀ fp pn) elt te)
  (hfree:∀ x,(x,NameKind.free)∈scope.names→X.env.scope.names.lookup x=some NameKind.cell∨X.env.scope.names.lookup x=some NameKind.free)
  (hk:scope.kind = .function) (hcell:∀ y∈scope.names,y.2 ≠ .cell) (hnames:∀ y∈scope.names,y.2 = .local→scope.names.lookup y.1=some .local)
  (hs:∀ x,foldedSetIterable iter X.env x=pure x):PE X (.ListComp elt [⟨tg,iter,ifs,0⟩] scope pos) (tLC src wi g tt te):=by
 intro pins s σ H Q I h
 obtain ⟨hst,hfr,hX⟩:=hL
 have no:∀ {E:Value→Shared→Prop},∀ (e:Value) (s':Shared),False→E e s':=fun _ _ f=>f.elim
 obtain ⟨cl,hcl,a,b⟩:=WH X.env scope fun x hx=>I.ok.has x (hfree x hx)
 rw [eval_ListComp]
 refine wpAny_comprehension_free (use:=none) rfl hs hcl hk hnames (thn (hi pins s σ H _ I h) fun v s1 h1=>thn h1 fun itv s2 h2=>?_)
 obtain ⟨it,fp,tn,J,H2,e,I2,T,st2,f2,q⟩:=h2
 subst e
 have hD:H2 s2.heap.objs.size=none:=I2.hok.fresh (Nat.le_refl _)
 obtain ⟨W,⟨m0,w0⟩,turn⟩:=q s2.heap.objs.size hD
 have I3:=I2.lnew (t':=s2.toks) (ys:=[]) (its:=[]) .nil (Nat.zero_le _)
 have fl2:∀ b∈fp,b<s2.heap.objs.size:=fun b hb=>by
  obtain ⟨o,e,_⟩:=T.obj _ _ st2 b hb
  exact Heap.lt_size e
 refine wpAny_newObj_type ?_
 generalize es3:({ s2 with heap:=s2.heap.push { cls := .type "list",dict:=none,data := .seq ([]:List Value).toArray } }:Shared)=s3
 have I3':Inv X pins σ (upd H2 s2.heap.objs.size (.lst [])) s3:=es3▸I3
 have keep3:∀ b o,s2.heap.get? b=some o→s3.heap.get? b=some o:=fun b o e=>by rw [← es3];exact Heap.get?_push_of_some _ e
 have st3:tn 0 s3.heap:=T.keep _ _ _ st2 fun b _ o e=>keep3 b o e
 have fl3:∀ b∈fp,b<s3.heap.objs.size:=fun b hb=>by
  obtain ⟨o,e,_⟩:=T.obj _ _ st3 b hb
  exact Heap.lt_size e
 have f3:∀ b∈fp,XB X pins (upd H2 s2.heap.objs.size (.lst [])) b:=fun b hb=>⟨by rw [Yt (Nat.ne_of_lt (fl2 b hb))];exact (f2 b hb).1,(f2 b hb).2⟩
 generalize eD:s2.heap.objs.size=D at *
 generalize eH3:upd H2 D (.lst [])=H3 at *
 refine wpAny_newFunctionEnv hcell (by intro y hy;simp at hy) (fun h₁ hns₁ hsb₁=>?_) hk
 have keep4:∀ b o,s3.heap.get? b=some o→h₁.get? b=some o:=fun b o e=>hsb₁.extBut b o (Nat.ne_of_lt (Heap.lt_size e)) (Heap.get?_push_of_some _ e)
 have I4:=Vx (N':=N') (src:=src) (tk:=s3.toks+([]:List (Str×Value)).length) hk hcell hcap a b I3' f3 fl3 rfl keep4 hns₁
 have stat:∀ {H':Hp},(∀ b∈fp,H' b=none)→∀ b∈fp,XB (cxC X scope N' cl s3.heap.objs.size s3 H3 fp (X.pn++pins)) [] H' b:=fun hn b' hb=>by
  obtain ⟨f0,f1,fs,fe,f4,f5⟩:=f3 b' hb
  refine ⟨hn b' hb,Nat.ne_of_lt (fl3 b' hb),fun z=>?_,.inl hb,fun x c h=>f4 x c (a x c h),fun p hp=>f5 p (by simpa [cxC] using hp)⟩
  rcases List.mem_cons.mp (I3'.stkSub b' z) with e | e
  ·exact f1 e
  ·exact fs e
 have fin:∀ {H':Hp} {s':Shared} {σ':St} {pins':List (Addr×Obj)},Inv (cxC X scope N' cl s3.heap.objs.size s3 H3 fp (X.pn++pins)) pins' σ' H' s'→∀ h',Heap.SameBut s3.heap.objs.size s'.heap h'→Inv X pins σ H' { s' with heap:=h' }:=fun {H' s' σ' pins'} J' h' sb=>by
  have same:∀ b o,b≠s3.heap.objs.size→s'.heap.get? b=some o→h'.get? b=some o:=fun b o hb e=>sb.extBut b o hb e
  have u:Un (frs X.stack) fp H3 H' s3.heap s'.heap:=J'.base
  refine I3'.call' (s':={ s' with heap:=h' }) (ch:=fp) J'.os ⟨fun b o e n hb hx=>?_,fun b o e n hb hx=>?_,u.free,fun b o e hx=>?_,u.tups,u.frzs,u.tbls⟩ (fun b o e=>?_) J'.bare fun b hb=>?_
  ·exact same b o (Nat.ne_of_lt (Heap.lt_size e)) (u.keep b o e n hb hx)
  ·obtain ⟨sl,z⟩:=u.slot b o e n hb hx
   exact ⟨sl,same b _ (Nat.ne_of_lt (Heap.lt_size e)) z⟩
  ·obtain ⟨o',z⟩:=u.there b o e hx
   exact ⟨o',same b o' (Nat.ne_of_lt (Heap.lt_size e)) z⟩
  ·have nC:∀ c v,H' c=some v→c≠s3.heap.objs.size:=fun c v z q=>by
    have:=J'.free
    rw [show (cxC X scope N' cl s3.heap.objs.size s3 H3 fp (X.pn++pins)).env.locals=s3.heap.objs.size from rfl,← q,z] at this
    cases this
   refine (J'.hok b o e).stay (fun c v hc q=>same c v ?_ q) (fun _ q=>q) fun _ _ q=>q
   rcases hc with z | z
   ·rw [z];exact nC b o e
   ·exact nC c _ z
  ·obtain ⟨f0,f1,fs,fe,f4,f5⟩:=f3 b hb
   exact ⟨fe,f1,f4,f5⟩
 have nfr:s3.heap.objs.size∉frs X.stack:=fun z=>by
  obtain ⟨_,o,e,_⟩:=I3'.stack.mem z
  exact absurd (Heap.lt_size e) (Nat.lt_irrefl _)
 -- an exception leaves the block
 have gone:∀ (e:Value) (s':Shared),(∃ pins' σ' H s,Inv (cxC X scope N' cl s3.heap.objs.size s3 H3 fp (X.pn++pins)) pins' σ' H s∧CXF X.prog X.w X.stack H s E e s') →
   notedBy (model X.prog X.w) X.A (compEnvC scope cl s3.heap.objs.size X.env) (fun e s'=>compPost (model X.prog X.w) X.A X.xe none (EP X pins σ Q) (.ref D) s3.heap.objs.size (.error e) s') e s':=by
  rintro e s' ⟨pins',σ',H',s5,I5,ea,cls,H'',B,rfl,os5,bare5,F,qE⟩
  obtain ⟨m,hn,_⟩:=I5.loc
  obtain ⟨oc,es,ep,hoc,hdc,Y5⟩:=id hn
  have hHC:H' s3.heap.objs.size=none:=I5.free
  have hoc':s5.heap.get? s3.heap.objs.size=some oc:=hoc
  have hBC:B.get? s3.heap.objs.size=some oc:=F.keep _ _ hoc' hHC nfr
  obtain ⟨a0,fl⟩:=F.fl
  rw [hst] at fl
  unfold notedBy
  rw [YbD (show (compEnvC scope cl s3.heap.objs.size X.env).frame=X.env.frame from rfl)]
  have fA:X.A.frames=some (X.env::X.outer):=by rw [← hst];exact I3'.ok.frames
  obtain ⟨f1,f2,f3,f4⟩:=fl
  refine UB fA hfr ⟨f1,f2,f3,_,f4⟩ fun h1 R1 u1=>⟨m,⟨oc,es,ep,R1.1 _ _ hBC,hdc,Y5⟩,fun h2 sb2 cenv _=>?_⟩
  have R2:=R1.hide hBC sb2
  obtain ⟨_,_,_,fg,oe,vs,T,oT,ts,ze,_,zd,z1,_⟩:=id R2
  unfold PySem.passOn
  refine wpAny_bind (wpAny_field ze zd z1 ?_)
  rw [if_neg (show ¬ ((Value.ref T==Value.none)=true) by simp)]
  have tail:wpAny (model X.prog X.w) X.A (setFlight (.ref ea) cenv.frame >>= fun _=>throw (.ref ea):Sem Value) (fun _ _=>False) X.xe { s' with heap:=h2 }:=by
   refine wpAny_bind (UZ R2 fun h3 R3 u3=>wpAny_throw ?_)
   refine hX pins σ H' H'' { s5 with heap:=s5.heap } s' _ B ea s3.heap.objs.size cls a0 oc (fin I5 _ ⟨rfl,fun _ _=>rfl⟩) F hoc' hHC I3'.sz R3 (fun b o nb q n=>?_) os5 bare5 qE
   obtain ⟨sl1,e1⟩:=u1 b o q n
   have e2:=(sb2.2 b nb).trans e1
   obtain ⟨sl3,e3⟩:=u3 b _ e2 n
   exact ⟨sl3,e3⟩
  first
   | exact wpAny_bind (wpAny_pure tail)
   | exact tail
 have loop:codeAny (model X.prog X.w) X.A (.compLoop (.ListComp elt [⟨tg,iter,ifs,0⟩] scope pos) 0 (.ref it) (.ref D) (compEnvC scope cl s3.heap.objs.size X.env))
   (compPost (model X.prog X.w) X.A X.xe none (EP X pins σ Q) (.ref D) s3.heap.objs.size) { s3 with heap:=h₁,toks:=s3.toks+([]:List (Str×Value)).length }:=by
  refine U0 (fun n s'=>∃ i ys σ' H',Inv (cxC X scope N' cl s3.heap.objs.size s3 H3 fp (X.pn++pins)) [] σ' H' s'∧tn i s'.heap∧(∀ b∈fp,H' b=none)∧W i n ys σ' H') ?_ m0 ⟨0,[],YD src σ,H3,I4,T.keep _ _ _ st3 fun b _ o e=>keep4 b o e,fun b hb=>(f3 b hb).1,w0⟩
  rintro n s5 ⟨i,ys,σ5,H5,I5,st5,fr5,w5⟩
  obtain ⟨hDs,stop | go⟩:=turn i n ys σ5 H5 w5
  ·obtain ⟨stop,qn⟩:=stop
   refine thn (T.done (cxC X scope N' cl s3.heap.objs.size s3 H3 fp (X.pn++pins)) rfl rfl rfl hc i [] s5 σ5 H5 _ I5 (stat fr5) st5 stop) fun r s6 ⟨hr,I6⟩=>?_
   subst hr
   obtain ⟨m,hn,_⟩:=id I6.loc
   exact ⟨m,hn,fun h' sb=>⟨.ref D,H5,fin I6 h' sb,rfl,qn⟩⟩
  ·obtain ⟨go,N,hN,step⟩:=go
   refine thn (T.item (cxC X scope N' cl s3.heap.objs.size s3 H3 fp (X.pn++pins)) rfl rfl rfl hc i [] s5 σ5 H5 _ I5 (stat fr5) st5 go) fun r s6 ⟨u,hr,h6⟩=>?_
   subst hr
   refine thn h6 fun _ s7 ⟨x,H7,I7,r7,y7,st7,fr7⟩=>?_
   have I7':=I7.pinned (stat fr7) (T.obj _ _ st7)
   have again:∀ {s8:Shared} {σ8:St} {H8:Hp} {ys':List V},Inv (cxC X scope N' cl s3.heap.objs.size s3 H3 fp (X.pn++pins)) ([]++WB fp s7.heap) σ8 H8 s8→(∃ m',m'<n∧W (i+1) m' ys' σ8 H8) →
     ∃ m,m<n∧∃ i ys σ' H',Inv (cxC X scope N' cl s3.heap.objs.size s3 H3 fp (X.pn++pins)) [] σ' H' s8∧tn i s8.heap∧(∀ b∈fp,H' b=none)∧W i m ys σ' H':=fun {s8 σ8 H8 ys'} I8 ⟨m',hm,w8⟩=>by
    refine ⟨m',hm,i+1,ys',σ8,H8,I8.unpinned,T.keep _ _ _ st7 fun b hb o e=>(I8.pin (b,o) (List.mem_append_right _ (List.mem_append_right _ (Y6 hb e)))).1,fun b hb=>?_,w8⟩
    obtain ⟨o,e,d⟩:=T.obj _ _ st7 b hb
    exact (I8.pin (b,o) (List.mem_append_right _ (List.mem_append_right _ (Y6 hb e)))).2.1
   refine thn (hg cl _ s3 H3 fp _ _ s7 σ5 H7 x u _ I7' r7 (step x H7 y7)) fun _ s8 ⟨σ8,H8,I8,q8⟩=>?_
   refine thn (ht cl _ s3 H3 fp _ _ s8 σ8 H8 _ I8 q8) fun ok s9 ⟨H9,I9,q9⟩=>?_
   cases ok with
   | false=>exact again I9 (hN _ _ _ q9)
   | true =>
    rw [if_pos rfl]
    refine wpAny_mono (he cl _ s3 H3 fp _ _ s9 σ8 H9 _ (I9.wish _) q9) (fun y s10 ⟨yv,H10,I10',r10,q10⟩=>?_) gone
    have I10:=I10'.unwish
    obtain ⟨hDy,hlen,w10⟩:=q10
    refine thn (Xs (X:=cxC X scope N' cl s3.heap.objs.size s3 H3 fp (X.pn++pins)) _ s10 σ8 H10 (.ref D) [yv] (.ref D) [y] (fun _ H'=>H'=upd H10 D (.lst (ys++[yv]))) I10 rfl (.cons r10 .nil) ⟨D,ys,yv,rfl,rfl,hDy,hlen,rfl⟩) fun _ s11 ⟨_,H11,I11,_,e11⟩=>?_
    subst e11
    exact again I11 (hN _ _ _ w10)
 exact codeAny_compStart_list loop (T.self _ 0 _ _ _ (T.keep _ _ _ st3 fun b _ o e=>keep4 b o e) loop)
end
end L2
namespace L2
open PySem PySem.Spec PyProof.Rows
section
variable {prog:Program} {w:World} {A:Around} {E:Value→Shared→Prop} {s:Shared}
set_option maxHeartbeats 3200000 in
theorem Ybd {l:Addr} {items:Array Value} {val:Nat→Str} {Q:Value→Shared→Prop}
  (hh:A.handled=none) (hl:s.heap.IsList l items) (hval:∀ (i:Nat) (v:Value),items[i]?=some v→∃ t,v = .str (val i) t) (hb:items.size+1<scanBound)
  (h:∀ (h':Heap) (tk:Nat),h'.SetOf (PySem.strKind prog w) s.heap.objs.size (fun k'=>(met val items.size).any (·==k')) (met val items.size).length →
   (∀ b o,b<s.heap.objs.size→s.heap.get? b=some o→h'.get? b=some o)→Q (.ref s.heap.objs.size) { s with heap:=h',toks:=tk }) :
  wpAny (model prog w) A (call (.type "set") [.ref l]) Q E s:=by
 obtain ⟨c,tl,hmro⟩:=PySem.F.called_set.mro
 have hmade:=PySem.F.called_set.made
 have hsub:=PySem.F.called_set.sub
 refine wpAny_call (codeAny_of_tree ?_)
 show wpAny _ _ (callAny (.type "set") _) _ _ _
 refine wpAny_pure ⟨Code.quiet_builtin _ (by decide +kernel),codeAny_builtin PySem.F.entry_type_call ?_⟩
 rw [Around.under_plain (weight_type_call_type "set" [.ref l] []) rfl]
 have h1:=PySem.F.called_set.notType
 have h2:=PySem.F.called_set.canCreate
 have hct:=PySem.F.typeCall_set_1 (.ref l)
 repeat (any_goals (first | assumption | wp_step))
 refine codeAny_mono (code_set_new_1 (.ref l) (E:=E) (Q₁:=fun obj s₁=>∃ led:Bool,obj = .ref s.heap.objs.size∧s₁={ s with heap:=s.heap.push { cls := .type "set",dict:=none,data := .set #[] 0 (.fresh 0 0 led) } }) fun led=>⟨led,rfl,rfl⟩) fun r s₁ hr=>?_
 cases r with
 | error e=>exact hr
 | ok fl =>
  cases fl with
  | ret obj =>
   obtain ⟨led,rfl,rfl⟩:=hr
   have hS:(s.heap.push { cls := .type "set",dict:=none,data := .set #[] 0 (.fresh 0 0 led) }).get? s.heap.objs.size=some { cls := .type "set",dict:=none,data := .set #[] 0 (.fresh 0 0 led) }:=Heap.get?_push_size _ rfl
   have hT:Shared.TypeIs { s with heap:=s.heap.push { cls := .type "set",dict:=none,data := .set #[] 0 (.fresh 0 0 led) } } (.ref s.heap.objs.size) "set":=⟨_,hS,rfl⟩
   have hli:=PySem.F.called_set.init.lookup
   have hbi:=PySem.F.called_set.init.bind (.ref s.heap.objs.size)
   repeat (any_goals (first | assumption | wp_step))
   refine codeAny_mono (codeAny_call_builtin (R:=wants (fun r s₂=>r = .none∧∃ h' tk,s₂={ s with heap:=h',toks:=tk } ∧
     h'.SetOf (PySem.strKind prog w) s.heap.objs.size (fun k'=>(met val items.size).any (·==k')) (met val items.size).length ∧
     (∀ b o,b<s.heap.objs.size→s.heap.get? b=some o→h'.get? b=some o)) E) PySem.F.called_set.init.plain PySem.F.entry_set_init (check_set_init_1 hT ?_)) fun r₂ s₂ hr₂=>?_
   ·have hsls:=PySem.F.sub_list_set
    have hslf:=PySem.F.sub_list_frozenset
    have hne:(Value.type "list"==Value.type "dict")=false:=by decide
    obtain ⟨ol,hol,hcl,nl,hdl⟩:=hl
    obtain ⟨ocls,odict,odata,oslots⟩:=ol
    simp only at hcl hdl
    subst hcl hdl
    have hol2:=Heap.get?_push_of_some (h:=s.heap) { cls := .type "set",dict:=none,data := .set #[] 0 (.fresh 0 0 led) } hol
    have hl1:(s.heap.push { cls := .type "set",dict:=none,data := .set #[] 0 (.fresh 0 0 led) }).IsList l items:=⟨_,hol2,rfl,nl,rfl⟩
    unfold Builtin.«set.__init__» noKeywords Builtin.Frozenset.updateFrom
    generalize hPI:pyIter=PI
    wp_walk
    subst hPI
    refine wpAny_pyIter_list hl1 (wpAny_bind (wpAny_runValue ?_))
    have lS:l<s.heap.objs.size:=Heap.lt_size hol
    have h3:A.in1.in1.in1.handled=none:=by simp [hh]
    have nI:l≠(s.heap.push { cls := .type "set",dict:=none,data := .set #[] 0 (.fresh 0 0 led) }).objs.size:=by
     rw [Heap.size_push]
     exact Nat.ne_of_lt (Nat.lt_trans lS (Nat.lt_succ_self _))
    have sF:s.heap.objs.size∉[(s.heap.push { cls := .type "set",dict:=none,data := .set #[] 0 (.fresh 0 0 led) }).objs.size,l]:=by
     rw [Heap.size_push]
     simp only [List.mem_cons,List.not_mem_nil,or_false,not_or]
     exact ⟨Nat.ne_of_lt (Nat.lt_succ_self _),fun z=>Nat.lt_irrefl _ (z▸lS)⟩
    refine Yaj ((Walks.list h3 _ l nI items).toS) s.heap.objs.size sF val hval hb (items.size - 0) 0 _ (by omega) (Nat.zero_le _) ⟨⟨_,Heap.get?_push_size _ rfl,rfl,rfl⟩,hl1.push _⟩ ?hS0 ?hR
    case hS0 =>
     have hget:((s.heap.push { cls := .type "set",dict:=none,data := .set #[] 0 (.fresh 0 0 led) }).push { cls := .type "list_iterator",data := .fields #[.ref l,.int 0 0] }).get? s.heap.objs.size
       = some { cls := .type "set",dict:=none,data := .set #[] 0 (.fresh 0 0 led) }:=Heap.get?_push_of_some _ hS
     exact SetOf_congr ((setObjOf_fresh (knd:=PySem.strKind prog w) led).setOf hget (by unfold scanBound;omega)) (fun _=>rfl) rfl
    case hR =>
     intro s' hm hS'
     obtain ⟨h',g',d',tk',os'⟩:=s'
     have eg:g'=s.gens:=hm.gens
     have ed:d'=s.drawn:=hm.drawn
     have eo:os'=s.os:=hm.os
     subst eg;subst ed;subst eo
     show wpAny _ _ _ _ _ _
     refine wpAny_pure ?_
     show wpAny _ _ (ret Value.none) _ _ _
     refine wpAny_pure ⟨rfl,h',tk',rfl,hS',fun b o hb e=>?_⟩
     have hb1:b≠s.heap.objs.size:=Nat.ne_of_lt hb
     have hb2:b≠(s.heap.push { cls := .type "set",dict:=none,data := .set #[] 0 (.fresh 0 0 led) }).objs.size:=by
      rw [Heap.size_push];exact Nat.ne_of_lt (Nat.lt_succ_of_lt hb)
     exact hm.heap b o (by simp only [List.mem_cons,List.not_mem_nil,or_false,not_or];exact ⟨hb1,hb2⟩) (Heap.get?_push_of_some _ (Heap.get?_push_of_some _ e))
   ·cases r₂ with
    | error e=>exact hr₂
    | ok fl₂ =>
     cases fl₂ with
     | ret r =>
      obtain ⟨rfl,h',tk,rfl,hS',hk'⟩:=hr₂
      repeat (any_goals (first | assumption | wp_step))
      exact h _ _ hS' hk'
     | _=>exact hr₂.elim
  | _=>exact hr.elim
end
section
variable {X:Cx}
theorem VS (hc:X.calm=true:=by rfl):Xh X (.type "set") (fun xs H Q=>∃ (l:Addr) (ts:List Str),xs=[.ref l]∧SqL X.K H l (ts.map V.str)∧ts.length≤1000∧∀ a,H a=none→Q (.ref a) (upd H a (VB a (met (fun i=>ts.getD i "") ts.length).length))):=by
 intro pins s σ H xs us Q I r h
 obtain ⟨l,ts,rfl,hS,hl,q⟩:=h
 obtain ⟨u,rfl,ru⟩:=Xw r
 obtain rfl:u=Value.ref l:=ru
 obtain ⟨its,r',pl,hz⟩:=I.list hS
 have hlen:ts.length=its.length:=by rw [← r'.length,List.length_map]
 refine Ybd (val:=fun i=>ts.getD i "") (I.ok.hd hc) pl.isList (fun i v hv=>?_) (by unfold scanBound;simp only [List.size_toArray];omega) fun h' tk hS hk=>?_
 ·have hv':its[i]?=some v:=by simpa using hv
  have hi:=(List.getElem?_eq_some_iff.mp hv').1
  have ht:(ts.map V.str)[i]?=some (.str (ts.getD i "")):=by
   rw [List.getElem?_map,List.getD_eq_getElem?_getD,List.getElem?_eq_getElem (by omega)]
   rfl
  obtain ⟨v2,e2,rv⟩:=r'.get ht
  rw [hv'] at e2
  cases e2
  exact rv
 ·rw [show its.toArray.size=ts.length by simp [hlen]] at hS
  refine ⟨.ref s.heap.objs.size,_,I.laid (o:=VB s.heap.objs.size _) (fun b o e=>hk b o (Heap.lt_size e) e) (Nat.le_refl _) ?_,rfl,q _ (I.hok.fresh (Nat.le_refl _))⟩
  obtain ⟨o,es,ep,tb,ho,hex,hd,_,_,hb,hf,hn⟩:=hS
  exact ⟨⟨o,es,ep,tb,ho,hex,hd,hf,hn,by omega⟩,⟨o,ho⟩,fun h1 h2 p k=>by obtain ⟨o,es,ep,tb,ho,z⟩:=p;exact ⟨o,es,ep,tb,k o ho,z⟩⟩
def Yf1:V→List V→Hp→VK→Prop:=fun x vs H Q=>∃ (z y:Str),x = .str z∧vs=[.str y]∧0≤Txt.find z y∧Q (.int (Txt.find z y)) H
theorem Yc9:MtR X "str.index" Yf1:=by
 intro pins s σ H x vs v us Q I rx r h
 obtain ⟨z,y,rfl,rfl,h0,q⟩:=h
 obtain ⟨t,rfl⟩:=rx
 obtain ⟨u,rfl,ru⟩:=Xw r
 obtain ⟨t',rfl⟩:=ru
 obtain ⟨i,Y5,e⟩:∃ i Y5,Builtin.Str.occurrences z y 0 z.length 1=i::Y5:=by
  cases e:Builtin.Str.occurrences z y 0 z.length 1 with
  | nil =>
   have:Txt.find z y = -1:=by unfold Txt.find;rw [e]
   omega
  | cons i r=>exact ⟨i,r,rfl⟩
 have ef:Txt.find z y=(i:Int):=by unfold Txt.find;rw [e]
 rw [ef] at q
 exact call_gives F.slot_str_index (typeIs_str s z t) F.entry_str_index (F.args_str_index_2 _ _) (gives_str_index z y t t' i Y5 e) ⟨.int _,H,I.tok _,⟨_,rfl⟩,q⟩
end
end L2
namespace L2
open PySem PySem.Spec PyProof.Rows
open Sem (wp)
section
variable {prog:Program} {w:World} {A:Around} {R:Result→Shared→Prop} {I:Addr} {fp wr:List Addr} {n:Nat} {P:Nat→Value→Prop} {St:Nat→Heap→Prop}
end
section
variable {prog:Program} {w:World} {A:Around} {E:Value→Shared→Prop} {s:Shared} {l:Addr} {xs:Array (Int×Tok)}
end
section
variable {X:Cx}
end
section
variable {X:Cx}
end
end L2
namespace L2
open PySem PySem.Spec PyProof.Rows PySem.Builtin.Str
section
variable {X:Cx}
def rPart:V→List V→Hp→VK→Prop:=fun x vs H Q=>∃ (l:List Nat) (c:Nat),x = .str (S l)∧vs=[.str (S [c])]∧l.length≤100000∧∀ p,H p=none→(c∉l→Q (.ref p) (upd H p (.tup [.str (S l),.str (S []),.str (S [])])))∧(∀ a b,c∉a→l=a++c::b→Q (.ref p) (upd H p (.tup [.str (S a),.str (S [c]),.str (S b)])))
theorem Inv.tnew3 {pins:List (Addr×Obj)} {σ:St} {H:Hp} {s:Shared} {ys:List V} {its:List Value} {t':Nat} (I:Inv X pins σ H s) (hv:Yr ys its) (hz:ys.length≤sizeLine) :
  Inv X pins σ (upd H s.heap.objs.size (.tup ys)) { s with heap:=s.heap.push { cls := .type "tuple",data := .seq its.toArray },toks:=t' } :=
 I.laid (fun _ _ q=>Heap.get?_push_of_some _ q) (Nat.le_refl _) (show YT X.prog X.w _ _ _ (.tup ys) from ⟨hz,its,hv,IsTup.new _ _⟩)
theorem YeD (l:List Nat) (i j:Nat):strSub (S l) i j=S ((l.drop i).take (j - i)):=by
 have h:=StrLaws.strSub_toList (S l) i j
 rw [YV] at h
 have e:∀ x:Str,x=S x.cps.toList:=fun x=>by unfold S;simp
 rw [e (strSub (S l) i j),h]
theorem V7:MtR X "str.partition" rPart:=by
 intro pins s σ H x vs v us Q I rx r h
 obtain ⟨l,c,rfl,rfl,hl,q⟩:=h
 obtain ⟨t,rfl⟩:=rx
 obtain ⟨u,rfl,ru⟩:=Xw r
 obtain ⟨t',rfl⟩:=ru
 have big:100000≤sizeLine:=by decide
 have hsz:(S l).length≤sizeLine:=by rw [Yw];omega
 obtain ⟨q0,q1⟩:=q _ (I.hok.fresh (Nat.le_refl _))
 refine call_meets F.slot_str_partition (typeIs_str s (S l) t) F.entry_str_partition (F.args_str_partition_2 _ _) (meets_str_partition (S l) (S [c]) t t' rfl hsz) ?_
 rcases StrLaws.occ_head (S l) ⟨#[c]⟩ 1 (Nat.le_refl 1) with ⟨h0,hn⟩ | ⟨i,r,h0,hi,hn⟩
 ·have hfree:c∉l:=fun hm=>by
   obtain ⟨j,hj⟩:=List.getElem?_of_mem hm
   exact hn j ((StrLaws.subAt_one (S l) c j).mpr (by rw [YV];exact hj))
  rw [show S [c]=⟨#[c]⟩ from rfl,h0]
  exact ⟨.ref s.heap.objs.size,_,Inv.tnew3 (ys:=[V.str (S l),V.str (S []),V.str (S [])]) I (.cons ⟨t,rfl⟩ (.cons ⟨_,rfl⟩ (.cons ⟨_,rfl⟩ .nil))) (by show 3≤sizeLine;decide),rfl,q0 hfree⟩
 ·have hm:=(StrLaws.subAt_one (S l) c i).mp hi
  rw [YV] at hm
  have hlt:=(List.getElem?_eq_some_iff.mp hm).1
  have e:l=l.take i++c::l.drop (i+1):=by
   have h1:l.drop i=c::l.drop (i+1):=by
    rw [List.drop_eq_getElem_cons hlt,(List.getElem?_eq_some_iff.mp hm).2]
   rw [← h1,List.take_append_drop]
  have hfree:c∉l.take i:=fun hc=>by
   obtain ⟨j,hj⟩:=List.getElem?_of_mem hc
   have hji:=(List.getElem?_eq_some_iff.mp hj).1
   rw [List.length_take] at hji
   rw [List.getElem?_take_of_lt (by omega)] at hj
   exact hn j (by omega) ((StrLaws.subAt_one (S l) c j).mpr (by rw [YV];exact hj))
  have e1:strSub (S l) 0 i=S (l.take i):=by rw [YeD];simp
  have e2:strSub (S l) (i+(S [c]).length) (S l).length=S (l.drop (i+1)):=by
   rw [YeD,Yw,Yw]
   congr 1
   exact List.take_of_length_le (by simp)
  rw [show S [c]=⟨#[c]⟩ from rfl] at e2 ⊢
  rw [h0]
  dsimp only
  rw [e1,e2]
  refine ⟨.ref s.heap.objs.size,_,Inv.tnew3 (ys:=[V.str (S (l.take i)),V.str (S [c]),V.str (S (l.drop (i+1)))]) I (.cons ⟨_,rfl⟩ (.cons ⟨t',rfl⟩ (.cons ⟨_,rfl⟩ .nil))) (by show 3≤sizeLine;decide),rfl,q1 _ _ hfree e⟩
end
end L2
namespace L2
open PySem PySem.Spec PyProof.Rows
section
variable {X:Cx}
theorem Yd8 {i:Nat} {x:Str} {pos' apos:Pos} {elt tg iter:Expr} {ifs:List Expr} {scope:Scope} {pos:Pos} {src:List (Option Nat)} {N':List Str} {wi:TI} {g:TG} {tt:TT} {te:TE} {E:XK} (hN:X.N.Nodup) (hix:X.N[i]?=some x) (hlx:Loc X.env.scope x) (hL:Qh X E) (hcap:Cap X scope src N') (hc:X.calm=true) (hi:PI X tg iter wi)
  (hg:∀ cl C s₀ H₀ fp pn,PG (cxC X scope N' cl C s₀ H₀ fp pn) tg g) (ht:∀ cl C s₀ H₀ fp pn,PTs (cxC X scope N' cl C s₀ H₀ fp pn) ifs tt) (he:∀ cl C s₀ H₀ fp pn,PE (cxCX X E scope N' cl C s₀ H₀ fp pn) elt te)
  (hfree:∀ x,(x,NameKind.free)∈scope.names→X.env.scope.names.lookup x=some NameKind.cell∨X.env.scope.names.lookup x=some NameKind.free)
  (hk:scope.kind = .function) (hcell:∀ y∈scope.names,y.2 ≠ .cell) (hnames:∀ y∈scope.names,y.2 = .local→scope.names.lookup y.1=some .local)
  (hs:∀ x,foldedSetIterable iter X.env x=pure x) (hsw:swapsWithSole [.Name x pos'] (.ListComp elt [⟨tg,iter,ifs,0⟩] scope pos) apos.line X.env=pure true) (hf:X.fn x=true∨X.env.scope.names.lookup x=some .local) :
  PS X (.Assign [.Name x pos'] (.ListComp elt [⟨tg,iter,ifs,0⟩] scope pos) apos) (Q3 (tLC src wi g tt te) (Ys i)):=by
 intro pins s σ H D0 I h
 obtain ⟨hst,hfr,hX⟩:=hL
 have no:∀ {E:Value→Shared→Prop},∀ (e:Value) (s':Shared),False→E e s':=fun _ _ f=>f.elim
 obtain ⟨cl,hcl,a,b⟩:=WH X.env scope fun x hx=>I.ok.has x (hfree x hx)
 rw [exec_Assign_arm]
 refine wpAny_bind (wpAny_standAt ?_)
 rw [hsw]
 refine wpAny_bind (wpAny_pure ?_)
 rw [if_pos rfl]
 refine wpAny_bind ?_
 rw [arm_evalThenUse_ListComp]
 refine wpAny_bind ?_
 refine wpAny_comprehension_free (use:=some _) rfl hs hcl hk hnames (thn (hi pins s σ H _ I h) fun v s1 h1=>thn h1 fun itv s2 h2=>?_)
 obtain ⟨it,fp,tn,J,H2,e,I2,T,st2,f2,q⟩:=h2
 subst e
 have hD:H2 s2.heap.objs.size=none:=I2.hok.fresh (Nat.le_refl _)
 obtain ⟨W,⟨m0,w0⟩,turn⟩:=q s2.heap.objs.size hD
 have I3:=I2.lnew (t':=s2.toks) (ys:=[]) (its:=[]) .nil (Nat.zero_le _)
 have fl2:∀ b∈fp,b<s2.heap.objs.size:=fun b hb=>by
  obtain ⟨o,e,_⟩:=T.obj _ _ st2 b hb
  exact Heap.lt_size e
 refine wpAny_newObj_type ?_
 generalize es3:({ s2 with heap:=s2.heap.push { cls := .type "list",dict:=none,data := .seq ([]:List Value).toArray } }:Shared)=s3
 have I3':Inv X pins σ (upd H2 s2.heap.objs.size (.lst [])) s3:=es3▸I3
 have keep3:∀ b o,s2.heap.get? b=some o→s3.heap.get? b=some o:=fun b o e=>by rw [← es3];exact Heap.get?_push_of_some _ e
 have st3:tn 0 s3.heap:=T.keep _ _ _ st2 fun b _ o e=>keep3 b o e
 have fl3:∀ b∈fp,b<s3.heap.objs.size:=fun b hb=>by
  obtain ⟨o,e,_⟩:=T.obj _ _ st3 b hb
  exact Heap.lt_size e
 have f3:∀ b∈fp,XB X pins (upd H2 s2.heap.objs.size (.lst [])) b:=fun b hb=>⟨by rw [Yt (Nat.ne_of_lt (fl2 b hb))];exact (f2 b hb).1,(f2 b hb).2⟩
 generalize eD:s2.heap.objs.size=D at *
 generalize eH3:upd H2 D (.lst [])=H3 at *
 refine wpAny_newFunctionEnv hcell (by intro y hy;simp at hy) (fun h₁ hns₁ hsb₁=>?_) hk
 have keep4:∀ b o,s3.heap.get? b=some o→h₁.get? b=some o:=fun b o e=>hsb₁.extBut b o (Nat.ne_of_lt (Heap.lt_size e)) (Heap.get?_push_of_some _ e)
 have I4:=Vx (N':=N') (src:=src) (tk:=s3.toks+([]:List (Str×Value)).length) hk hcell hcap a b I3' f3 fl3 rfl keep4 hns₁
 -- the iterator's objects,through the block
 have stat:∀ {H':Hp},(∀ b∈fp,H' b=none)→∀ b∈fp,XB (cxC X scope N' cl s3.heap.objs.size s3 H3 fp (X.pn++pins)) [] H' b:=fun hn b' hb=>by
  obtain ⟨f0,f1,fs,fe,f4,f5⟩:=f3 b' hb
  refine ⟨hn b' hb,Nat.ne_of_lt (fl3 b' hb),fun z=>?_,.inl hb,fun x c h=>f4 x c (a x c h),fun p hp=>f5 p (by simpa [cxC] using hp)⟩
  rcases List.mem_cons.mp (I3'.stkSub b' z) with e | e
  ·exact f1 e
  ·exact fs e
 -- behind the block
 have fin:∀ {H':Hp} {s':Shared} {σ':St} {pins':List (Addr×Obj)},Inv (cxC X scope N' cl s3.heap.objs.size s3 H3 fp (X.pn++pins)) pins' σ' H' s'→∀ h',Heap.SameBut s3.heap.objs.size s'.heap h'→Inv X pins σ H' { s' with heap:=h' }:=fun {H' s' σ' pins'} J' h' sb=>by
  have same:∀ b o,b≠s3.heap.objs.size→s'.heap.get? b=some o→h'.get? b=some o:=fun b o hb e=>sb.extBut b o hb e
  have u:Un (frs X.stack) fp H3 H' s3.heap s'.heap:=J'.base
  refine I3'.call' (s':={ s' with heap:=h' }) (ch:=fp) J'.os ⟨fun b o e n hb hx=>?_,fun b o e n hb hx=>?_,u.free,fun b o e hx=>?_,u.tups,u.frzs,u.tbls⟩ (fun b o e=>?_) J'.bare fun b hb=>?_
  ·exact same b o (Nat.ne_of_lt (Heap.lt_size e)) (u.keep b o e n hb hx)
  ·obtain ⟨sl,z⟩:=u.slot b o e n hb hx
   exact ⟨sl,same b _ (Nat.ne_of_lt (Heap.lt_size e)) z⟩
  ·obtain ⟨o',z⟩:=u.there b o e hx
   exact ⟨o',same b o' (Nat.ne_of_lt (Heap.lt_size e)) z⟩
  ·have nC:∀ c v,H' c=some v→c≠s3.heap.objs.size:=fun c v z q=>by
    have:=J'.free
    rw [show (cxC X scope N' cl s3.heap.objs.size s3 H3 fp (X.pn++pins)).env.locals=s3.heap.objs.size from rfl,← q,z] at this
    cases this
   refine (J'.hok b o e).stay (fun c v hc q=>same c v ?_ q) (fun _ q=>q) fun _ _ q=>q
   rcases hc with z | z
   ·rw [z];exact nC b o e
   ·exact nC c _ z
  ·obtain ⟨f0,f1,fs,fe,f4,f5⟩:=f3 b hb
   exact ⟨fe,f1,f4,f5⟩
 have nfr:s3.heap.objs.size∉frs X.stack:=fun z=>by
  obtain ⟨_,o,e,_⟩:=I3'.stack.mem z
  exact absurd (Heap.lt_size e) (Nat.lt_irrefl _)
 -- an exception leaves the block
 have gone:∀ (e:Value) (s':Shared),(∃ pins' σ' H s,Inv (cxC X scope N' cl s3.heap.objs.size s3 H3 fp (X.pn++pins)) pins' σ' H s∧CXF X.prog X.w X.stack H s E e s') →
   notedBy (model X.prog X.w) X.A (compEnvC scope cl s3.heap.objs.size X.env) (fun e s'=>compPost (model X.prog X.w) X.A X.xe (some fun v=>assignAll v ((assignEach [.Name x pos'] X.env).map (·.2))) (fun _ s'=>wpAny (model X.prog X.w) X.A (pure PUnit.unit) (fun _ s'=>wpAny (model X.prog X.w) X.A (pure Flow.next) (SP X pins D0) X.xe s') X.xe s') (.ref D) s3.heap.objs.size (.error e) s') e s':=by
  rintro e s' ⟨pins',σ',H',s5,I5,ea,cls,H'',B,rfl,os5,bare5,F,qE⟩
  obtain ⟨m,hn,_⟩:=I5.loc
  obtain ⟨oc,es,ep,hoc,hdc,Y5⟩:=id hn
  have hHC:H' s3.heap.objs.size=none:=I5.free
  have hoc':s5.heap.get? s3.heap.objs.size=some oc:=hoc
  have hBC:B.get? s3.heap.objs.size=some oc:=F.keep _ _ hoc' hHC nfr
  obtain ⟨a0,fl⟩:=F.fl
  rw [hst] at fl
  unfold notedBy
  rw [YbD (show (compEnvC scope cl s3.heap.objs.size X.env).frame=X.env.frame from rfl)]
  have fA:X.A.frames=some (X.env::X.outer):=by rw [← hst];exact I3'.ok.frames
  obtain ⟨f1,f2,f3,f4⟩:=fl
  refine UB fA hfr ⟨f1,f2,f3,_,f4⟩ fun h1 R1 u1=>⟨m,⟨oc,es,ep,R1.1 _ _ hBC,hdc,Y5⟩,fun h2 sb2 cenv _=>?_⟩
  have R2:=R1.hide hBC sb2
  obtain ⟨_,_,_,fg,oe,vs,T,oT,ts,ze,_,zd,z1,_⟩:=id R2
  unfold PySem.passOn
  refine wpAny_bind (wpAny_field ze zd z1 ?_)
  rw [if_neg (show ¬ ((Value.ref T==Value.none)=true) by simp)]
  have tail:wpAny (model X.prog X.w) X.A (setFlight (.ref ea) cenv.frame >>= fun _=>throw (.ref ea):Sem Value) (fun _ _=>False) X.xe { s' with heap:=h2 }:=by
   refine wpAny_bind (UZ R2 fun h3 R3 u3=>wpAny_throw ?_)
   refine hX pins σ H' H'' { s5 with heap:=s5.heap } s' _ B ea s3.heap.objs.size cls a0 oc (fin I5 _ ⟨rfl,fun _ _=>rfl⟩) F hoc' hHC I3'.sz R3 (fun b o nb q n=>?_) os5 bare5 qE
   obtain ⟨sl1,e1⟩:=u1 b o q n
   have e2:=(sb2.2 b nb).trans e1
   obtain ⟨sl3,e3⟩:=u3 b _ e2 n
   exact ⟨sl3,e3⟩
  first
   | exact wpAny_bind (wpAny_pure tail)
   | exact tail
 have loop:codeAny (model X.prog X.w) X.A (.compLoop (.ListComp elt [⟨tg,iter,ifs,0⟩] scope pos) 0 (.ref it) (.ref D) (compEnvC scope cl s3.heap.objs.size X.env))
   (compPost (model X.prog X.w) X.A X.xe (some fun v=>assignAll v ((assignEach [.Name x pos'] X.env).map (·.2))) (fun _ s'=>wpAny (model X.prog X.w) X.A (pure PUnit.unit) (fun _ s'=>wpAny (model X.prog X.w) X.A (pure Flow.next) (SP X pins D0) X.xe s') X.xe s') (.ref D) s3.heap.objs.size) { s3 with heap:=h₁,toks:=s3.toks+([]:List (Str×Value)).length }:=by
  refine U0 (fun n s'=>∃ i ys σ' H',Inv (cxC X scope N' cl s3.heap.objs.size s3 H3 fp (X.pn++pins)) [] σ' H' s'∧tn i s'.heap∧(∀ b∈fp,H' b=none)∧W i n ys σ' H') ?_ m0 ⟨0,[],YD src σ,H3,I4,T.keep _ _ _ st3 fun b _ o e=>keep4 b o e,fun b hb=>(f3 b hb).1,w0⟩
  rintro n s5 ⟨i,ys,σ5,H5,I5,st5,fr5,w5⟩
  obtain ⟨hDs,stop | go⟩:=turn i n ys σ5 H5 w5
  ·obtain ⟨stop,qn⟩:=stop
   refine thn (T.done (cxC X scope N' cl s3.heap.objs.size s3 H3 fp (X.pn++pins)) rfl rfl rfl hc i [] s5 σ5 H5 _ I5 (stat fr5) st5 stop) fun r s6 ⟨hr,I6⟩=>?_
   subst hr
   obtain ⟨m,hn,_⟩:=id I6.loc
   have IO:Inv X pins σ H5 s6:=fin I6 s6.heap (Heap.SameBut.refl _ _)
   have hCn:H5 s3.heap.objs.size=none:=I6.free
   have hC:∀ {H':Hp},H' s3.heap.objs.size=none→XB X pins H' s3.heap.objs.size:=fun {H'} z=>I3'.fpOk (Nat.le_refl _) z
   obtain ⟨oC,es,ep,hoC,rC⟩:=hn
   have IP:=IO.pinned (fp:=[s3.heap.objs.size]) (fun b hb=>by rw [List.mem_singleton.mp hb];exact hC hCn) (fun b hb=>by rw [List.mem_singleton.mp hb];exact ⟨oC,hoC,fun v z=>by (rw [rC.1] at z;cases z)⟩)
   show wpAny _ _ (assign (.Name x pos') X.env (.ref D)) _ _ _
   refine thn (Yq hN hix hlx hf _ s6 σ H5 (.ref D) (.ref D) _ IP rfl qn) fun _ s7 ⟨σ7,H7,I7,q7⟩=>?_
   obtain ⟨g1,g2,_⟩:=I7.pin (s3.heap.objs.size,oC) (List.mem_append_right _ (List.mem_append_right _ (Y6 (List.mem_singleton.mpr rfl) hoC)))
   refine ⟨m,⟨oC,es,ep,g1,rC⟩,fun h' sb=>wpAny_pure (wpAny_pure ⟨σ7,H7,?_,q7⟩)⟩
   exact I7.unpinned.turnedL (t':=s7.toks) (ch:=[s3.heap.objs.size]) (fun b o hb e=>sb.extBut b o (fun z=>hb (by rw [z];exact List.mem_singleton.mpr rfl)) e) (fun b hb=>by rw [List.mem_singleton.mp hb];exact hC g2)
  ·obtain ⟨go,N,hN,step⟩:=go
   refine thn (T.item (cxC X scope N' cl s3.heap.objs.size s3 H3 fp (X.pn++pins)) rfl rfl rfl hc i [] s5 σ5 H5 _ I5 (stat fr5) st5 go) fun r s6 ⟨u,hr,h6⟩=>?_
   subst hr
   refine thn h6 fun _ s7 ⟨x,H7,I7,r7,y7,st7,fr7⟩=>?_
   have I7':=I7.pinned (stat fr7) (T.obj _ _ st7)
   have again:∀ {s8:Shared} {σ8:St} {H8:Hp} {ys':List V},Inv (cxC X scope N' cl s3.heap.objs.size s3 H3 fp (X.pn++pins)) ([]++WB fp s7.heap) σ8 H8 s8→(∃ m',m'<n∧W (i+1) m' ys' σ8 H8) →
     ∃ m,m<n∧∃ i ys σ' H',Inv (cxC X scope N' cl s3.heap.objs.size s3 H3 fp (X.pn++pins)) [] σ' H' s8∧tn i s8.heap∧(∀ b∈fp,H' b=none)∧W i m ys σ' H':=fun {s8 σ8 H8 ys'} I8 ⟨m',hm,w8⟩=>by
    refine ⟨m',hm,i+1,ys',σ8,H8,I8.unpinned,T.keep _ _ _ st7 fun b hb o e=>(I8.pin (b,o) (List.mem_append_right _ (List.mem_append_right _ (Y6 hb e)))).1,fun b hb=>?_,w8⟩
    obtain ⟨o,e,d⟩:=T.obj _ _ st7 b hb
    exact (I8.pin (b,o) (List.mem_append_right _ (List.mem_append_right _ (Y6 hb e)))).2.1
   refine thn (hg cl _ s3 H3 fp _ _ s7 σ5 H7 x u _ I7' r7 (step x H7 y7)) fun _ s8 ⟨σ8,H8,I8,q8⟩=>?_
   refine thn (ht cl _ s3 H3 fp _ _ s8 σ8 H8 _ I8 q8) fun ok s9 ⟨H9,I9,q9⟩=>?_
   cases ok with
   | false=>exact again I9 (hN _ _ _ q9)
   | true =>
    rw [if_pos rfl]
    refine wpAny_mono (he cl _ s3 H3 fp _ _ s9 σ8 H9 _ (I9.wish _) q9) (fun y s10 ⟨yv,H10,I10',r10,q10⟩=>?_) gone
    have I10:=I10'.unwish
    obtain ⟨hDy,hlen,w10⟩:=q10
    refine thn (Xs (X:=cxC X scope N' cl s3.heap.objs.size s3 H3 fp (X.pn++pins)) _ s10 σ8 H10 (.ref D) [yv] (.ref D) [y] (fun _ H'=>H'=upd H10 D (.lst (ys++[yv]))) I10 rfl (.cons r10 .nil) ⟨D,ys,yv,rfl,rfl,hDy,hlen,rfl⟩) fun _ s11 ⟨_,H11,I11,_,e11⟩=>?_
    subst e11
    exact again I11 (hN _ _ _ w10)
 exact codeAny_compStart_list loop (T.self _ 0 _ _ _ (T.keep _ _ _ st3 fun b _ o e=>keep4 b o e) loop)
end
end L2
set_option maxHeartbeats 8000000
namespace KW
open PySem L2
def top (i:Nat):Stmt:=PySem.Challenge.pw_countgen_k06_books_read.main.body.getD i (.Pass ⟨0,0,0,0⟩)
abbrev Z45:Stmt:=top 13
abbrev Z1W:Stmt:=top 14
abbrev Z14:Stmt:=top 15
abbrev Z2P:Stmt:=top 16
abbrev Z4C:Stmt:=top 17
abbrev Z0S:Stmt:=top 19
theorem Z04:FnScope ["text","depth","sign"] ["text"] (Yh Z0S):=⟨rfl,rfl,rfl,by decide +kernel,rfl,by decide +kernel,by decide +kernel⟩
abbrev Z2v:Stmt:=top 20
theorem Z23:FnScope ["text","reader","note"] ["text"] (Yh Z2v):=⟨rfl,rfl,rfl,by decide +kernel,rfl,by decide +kernel,by decide +kernel⟩
abbrev Z0T:Stmt:=top 27
theorem Z1X:FnScope ["word","figures"] ["word"] (Yh Z0T):=⟨rfl,rfl,rfl,by decide +kernel,rfl,by decide +kernel,by decide +kernel⟩
abbrev Z2w:Stmt:=top 28
theorem Yal:FnScope ["note"] ["note"] (Yh Z2w):=⟨rfl,rfl,rfl,by decide +kernel,rfl,by decide +kernel,by decide +kernel⟩
abbrev Z0U:Stmt:=top 29
theorem Z1Y:FnScope ["note","word"] ["note"] (Yh Z0U):=⟨rfl,rfl,rfl,by decide +kernel,rfl,by decide +kernel,by decide +kernel⟩
abbrev Z0n:Stmt:=top 30
theorem Z2x:FnScope ["notes","least","most"] ["notes","least","most"] (Yh Z0n):=⟨rfl,rfl,rfl,by decide +kernel,rfl,by decide +kernel,by decide +kernel⟩
abbrev Z17:Stmt:=top 31
theorem Z4e:FnScope ["notes"] ["notes"] (Yh Z17):=⟨rfl,rfl,rfl,by decide +kernel,rfl,by decide +kernel,by decide +kernel⟩
abbrev Z1s:Stmt:=top 32
theorem Z2l:FnScope ["notes","signs"] ["notes"] (Yh Z1s):=⟨rfl,rfl,rfl,by decide +kernel,rfl,by decide +kernel,by decide +kernel⟩
abbrev Z1M:Stmt:=top 33
theorem Z4T:FnScope ["notes"] ["notes"] (Yh Z1M):=⟨rfl,rfl,rfl,by decide +kernel,rfl,by decide +kernel,by decide +kernel⟩
abbrev Z0A:Stmt:=top 34
theorem Z3p:FnScope ["kind","notes"] ["kind","notes"] (Yh Z0A):=⟨rfl,rfl,rfl,by decide +kernel,rfl,by decide +kernel,by decide +kernel⟩
abbrev Z18:Stmt:=top 35
theorem Z24:FnScope ["notes","times"] ["notes"] (Yh Z18):=⟨rfl,rfl,rfl,by decide +kernel,rfl,by decide +kernel,by decide +kernel⟩
abbrev Z0V:Stmt:=top 36
theorem Z1Z:FnScope ["note","mark"] ["note"] (Yh Z0V):=⟨rfl,rfl,rfl,by decide +kernel,rfl,by decide +kernel,by decide +kernel⟩
abbrev Z1t:Stmt:=top 37
theorem Z4D:FnScope ["notes"] ["notes"] (Yh Z1t):=⟨rfl,rfl,rfl,by decide +kernel,rfl,by decide +kernel,by decide +kernel⟩
abbrev Z1N:Stmt:=top 38
theorem Z4U:FnScope ["name"] ["name"] (Yh Z1N):=⟨rfl,rfl,rfl,by decide +kernel,rfl,by decide +kernel,by decide +kernel⟩
abbrev Z19:Stmt:=top 39
theorem Z0W:FnScope ["note","kind","notes"] ["note"] (Yh Z19):=⟨rfl,rfl,rfl,by decide +kernel,rfl,by decide +kernel,by decide +kernel⟩
abbrev Z25:Stmt:=top 40
theorem QN:FnScope ["text"] ["text"] (Yh Z25):=⟨rfl,rfl,rfl,by decide +kernel,rfl,by decide +kernel,by decide +kernel⟩
abbrev Z32:Stmt:=top 41
theorem Z46:FnScope ["shape","kind"] ["shape"] (Yh Z32):=⟨rfl,rfl,rfl,by decide +kernel,rfl,by decide +kernel,by decide +kernel⟩
abbrev Z1a:Stmt:=top 42
theorem Z0X:FnScope ["shape","found","part"] ["shape"] (Yh Z1a):=⟨rfl,rfl,rfl,by decide +kernel,rfl,by decide +kernel,by decide +kernel⟩
abbrev Z1u:Stmt:=top 43
theorem Z2m:FnScope ["draft","shape"] ["draft"] (Yh Z1u):=⟨rfl,rfl,rfl,by decide +kernel,rfl,by decide +kernel,by decide +kernel⟩
abbrev Z0J:Stmt:=top 44
theorem Z1J:FnScope ["draft","shape"] ["draft"] (Yh Z0J):=⟨rfl,rfl,rfl,by decide +kernel,rfl,by decide +kernel,by decide +kernel⟩
abbrev Z1v:Stmt:=top 45
theorem Z1b:FnScope ["shape","kind","shown"] ["shape"] (Yh Z1v):=⟨rfl,rfl,rfl,by decide +kernel,rfl,by decide +kernel,by decide +kernel⟩
abbrev Z26:Stmt:=top 46
theorem QO:FnScope ["shape"] ["shape"] (Yh Z26):=⟨rfl,rfl,rfl,by decide +kernel,rfl,by decide +kernel,by decide +kernel⟩
abbrev Z27:Stmt:=top 49
theorem Z1O:FnScope ["shape","names","inner"] ["shape"] (Yh Z27):=⟨rfl,rfl,rfl,by decide +kernel,rfl,by decide +kernel,by decide +kernel⟩
abbrev Z33:Stmt:=top 50
theorem Z47:FnScope ["book","name","pair"] ["book","name"] (Yh Z33):=⟨rfl,rfl,rfl,by decide +kernel,rfl,by decide +kernel,by decide +kernel⟩
abbrev Z0o:Stmt:=top 51
theorem Z0N:FnScope ["rows","row"] ["rows"] (Yh Z0o):=⟨rfl,rfl,rfl,by decide +kernel,rfl,by decide +kernel,by decide +kernel⟩
abbrev Z1w:Stmt:=top 52
theorem Z2n:FnScope ["row","parted"] ["row"] (Yh Z1w):=⟨rfl,rfl,rfl,by decide +kernel,rfl,by decide +kernel,by decide +kernel⟩
abbrev Z0a:Stmt:=top 53
theorem Z07:FnScope ["book","name","shape"] ["book"] (Yh Z0a):=⟨rfl,rfl,rfl,by decide +kernel,rfl,by decide +kernel,by decide +kernel⟩
abbrev Z0Y:Stmt:=top 54
theorem Z0e:FnScope ["book","name","shape","used"] ["book"] (Yh Z0Y):=⟨rfl,rfl,rfl,by decide +kernel,rfl,by decide +kernel,by decide +kernel⟩
abbrev Z28:Stmt:=top 55
theorem Z0w:FnScope ["book","name","reached","step","shape"] ["book","name"] (Yh Z28):=⟨rfl,rfl,rfl,by decide +kernel,rfl,by decide +kernel,by decide +kernel⟩
abbrev Z0B:Stmt:=top 56
theorem Z1p:FnScope ["book","ring"] ["book"] (Yh Z0B):=⟨rfl,rfl,rfl,by decide +kernel,rfl,by decide +kernel,by decide +kernel⟩
abbrev Z2y:Stmt:=top 57
theorem Z0C:FnScope ["text","rows","book","name","shape"] ["text"] (Yh Z2y):=⟨rfl,rfl,rfl,by decide +kernel,rfl,by decide +kernel,by decide +kernel⟩
abbrev Z2z:Stmt:=top 58
theorem Yam:FnScope ["book"] ["book"] (Yh Z2z):=⟨rfl,rfl,rfl,by decide +kernel,rfl,by decide +kernel,by decide +kernel⟩
abbrev Z1P:Stmt:=top 60
theorem Z4V:FnScope ["_law_script","_law_k"] ["_law_script","_law_k"] (Yh Z1P):=⟨rfl,rfl,rfl,by decide +kernel,rfl,by decide +kernel,by decide +kernel⟩
abbrev Z34:Stmt:=top 61
theorem Z0y:FnScope ["_law_cell","_law_size","_law_word_here","_law_number","_law_k"] ["_law_cell","_law_size"] (Yh Z34):=⟨rfl,rfl,rfl,by decide +kernel,rfl,by decide +kernel,by decide +kernel⟩
abbrev Z2A:Stmt:=top 62
theorem Z0p:FnScope ["_law_cell","_law_many","_law_base","_law_at","_law_letters","_law_here"] ["_law_cell","_law_many"] (Yh Z2A):=⟨rfl,rfl,rfl,by decide +kernel,rfl,by decide +kernel,by decide +kernel⟩
abbrev Z2B:Stmt:=top 63
theorem Z1c:FnScope ["_law_names_here","_law_one","_law_other","_law_kind","_law_here","_law_there","_law_mark"] ["_law_names_here","_law_one","_law_other","_law_kind"] (Yh Z2B):=⟨rfl,rfl,rfl,by decide +kernel,rfl,by decide +kernel,by decide +kernel⟩
abbrev Z35:Stmt:=top 64
theorem Ybe:FnScope ["_law_shape_here"] ["_law_shape_here"] (Yh Z35):=⟨rfl,rfl,rfl,by decide +kernel,rfl,by decide +kernel,by decide +kernel⟩
abbrev Z36:Stmt:=top 65
theorem Z06:FnScope ["_law_shape_here","_law_inner","_law_names_here","_law_part"] ["_law_shape_here"] (Yh Z36):=⟨rfl,rfl,rfl,by decide +kernel,rfl,by decide +kernel,by decide +kernel⟩
abbrev Z37:Stmt:=top 66
theorem Ybf:FnScope ["_law_found","_law_due"] ["_law_found","_law_due"] (Yh Z37):=⟨rfl,rfl,rfl,by decide +kernel,rfl,by decide +kernel,by decide +kernel⟩
abbrev Z1Q:Stmt:=top 67
theorem Z2Q:FnScope ["_law_book","_law_name","e"] ["_law_book","_law_name"] (Yh Z1Q):=⟨rfl,rfl,rfl,by decide +kernel,rfl,by decide +kernel,by decide +kernel⟩
abbrev QX:Stmt:=top 68
theorem XE:FnScope ["_law_script","_law_many","_law_names_here","_law_odd","_law_word_here","_law_book","_law_k","_law_cells","_law_text_here","_law_found","_law_name","_law_shape_here","_law_others"] ["_law_script"] (Yh QX):=⟨rfl,rfl,rfl,by decide +kernel,rfl,by decide +kernel,by decide +kernel⟩
abbrev Z15:Stmt:=Ws (top 18) 0
abbrev Z0O:Stmt:=Ws (top 18) 1
abbrev Z1K:Stmt:=Ws (top 18) 2
abbrev Z0H:Stmt:=Ws (top 18) 3
abbrev Z03:Stmt:=Ws (top 18) 4
theorem Zv:FnScope ["self","label","word"] ["self"] (Yh Z03):=⟨rfl,rfl,rfl,by decide +kernel,rfl,by decide +kernel,by decide +kernel⟩
abbrev ZY:Stmt:=Ws (top 18) 5
theorem Z0d:FnScope ["self","notes"] ["self"] (Yh ZY):=⟨rfl,rfl,rfl,by decide +kernel,rfl,by decide +kernel,by decide +kernel⟩
abbrev Z1q:Stmt:=Ws (top 18) 6
variable {g:Gx}
local macro_rules | `(tactic| walk_at "rd")=>`(tactic| simp (config:={ failIfUnchanged:=false,maxSteps:=10000000 }) only [L2.Wl,YfW,nox_K,List.map_cons,List.map_nil,List.length_cons,List.length_nil,List.cons_append,List.nil_append,List.replicate_succ,List.replicate_zero,Nat.zero_add,Nat.reduceAdd,Nat.reduceSub,Nat.sub_self,XR,tIfS,Yb5,tOp,tC,tVar,rI0,rI,rU,tUn,tRet,tRetN,Yep,Yeo,YfL,tCont,Q3,Ys,Xz,YQ,Yer,Q8,tCB,QU,tTry,YfY,Yc0,sFld,tFld,Yb8,Ul,Ends.gone,YdY,tB,tAnd,tOr,tNot,Yen,tOrV,tNotV,tIf,Q7,Ybo,Yes,tSl,YcB,tAug,rIxL,rIxT,rSlL,tLst,tTup,XA,tRev,tLZ,Yez,YfX,rBits,rFind,rIn,tBM,tBM0,Ybq,YdQ,rEq,rNe,Yfa,Vj,rCat,Yet,gSub,ipI,YD,List.getD_cons_zero,List.getD_cons_succ,decide_true,not_true_eq_false,not_false_eq_true,
 exists_eq_left',exists_eq_left,exists_eq',exists_eq,exists_and_left,and_assoc,Option.some.injEq,V.int.injEq,V.bl.injEq,V.ref.injEq,V.str.injEq,List.getElem?_cons_zero,List.getElem?_cons_succ,List.set_cons_zero,List.set_cons_succ,List.cons.injEq,and_true,true_and,List.append_nil,decide_eq_true_eq,Bool.not_eq_true',decide_eq_false_iff_not,Bool.not_not,Bool.not_true,Bool.not_false,Bool.true_eq_false,Bool.false_eq_true,if_true,if_false,ite_true,ite_false])
theorem cm {i j:Int} {m n:Nat} (h1:i.natAbs<2^m) (h2:j.natAbs<2^n) (h:m+n≤100000000:=by decide):QW i j:=⟨m,n,h1,h2,h⟩
theorem V8 {i j:Int} (h:0≤j∧j≤1000000∧i.natAbs<2^64:=by decide):CPow i j:=h
theorem few {n:Nat} (h:n≤100000):n≤sizeLine:=Nat.le_trans h (by decide)
theorem XZ (x:Int) {j:Int} (h:0<j):∃ r:Nat,x%j=r∧(r:Int)<j:=⟨(x%j).toNat,by have:=Int.emod_nonneg x (Int.ne_of_gt h);omega,by have:=Int.emod_lt_of_pos x h;have:=Int.emod_nonneg x (Int.ne_of_gt h);omega⟩
variable {C:Addr}
variable {src:List (Option Nat)} {te:TE} {σ:St} {H:Hp} {Q:VK}
namespace Rd
mutual
inductive Note where
 | leaf (l w:List Nat)
 | node (l w:List Nat) (ks:Notes)
inductive Notes where
 | nil
 | cons (n:Note) (r:Notes)
end
def Note.lab:Note→List Nat
 | .leaf l _=>l
 | .node l _ _=>l
def Notes.snoc:Notes→Note→Notes
 | .nil,n => .cons n .nil
 | .cons m r,n => .cons m (r.snoc n)
def Notes.len:Notes→Nat
 | .nil=>0
 | .cons _ r=>r.len+1
def head (l w:List Nat):List Nat:=if l=[] then w else l++58::w
mutual
def txt:Note→List Nat
 | .leaf l w=>head l w
 | .node l w ks=>head l w++40::(txts ks++[41])
def txts:Notes→List Nat
 | .nil=>[]
 | .cons n .nil=>txt n
 | .cons n (.cons m r)=>txt n++44::txts (.cons m r)
end
def isFig (c:Nat):Bool:=decide (48≤c)&&decide (c≤57)
def isSmall (c:Nat):Bool:=decide (97≤c)&&decide (c≤122)
def VD (c:Nat):Bool:=decide (65≤c)&&decide (c≤90)
def isLF (c:Nat):Bool:=isSmall c||VD c||isFig c
def isWS (c:Nat):Bool:=isLF c||c==45
def okL (l:List Nat):Prop:=l.length≤8∧∀ c∈l,isSmall c=true
def okW (w:List Nat):Prop:=1≤w.length∧w.length≤62∧∀ c∈w,isWS c=true
mutual
def Ok:Nat→Note→Prop
 | _,.leaf l w=>okL l∧okW w
 | 0,.node _ _ _=>False
 | d+1,.node l w ks=>okL l∧okW w∧Oks d ks
def Oks:Nat→Notes→Prop
 | _,.nil=>True
 | d,.cons n r=>Ok d n∧Oks d r
end
theorem Yan {d:Nat}:∀ {ks:Notes} {n:Note},Oks d ks→Ok d n→Oks d (ks.snoc n)
 | .nil,n,_,h=>⟨h,trivial⟩
 | .cons m r,n,h,h'=>⟨h.1,Yan h.2 h'⟩
theorem small_ws {c:Nat} (h:isSmall c=true):isWS c=true:=by simp [isWS,isLF,h]
def stepD (d:Int) (c:Nat):Int:=if c=40 then d+1 else if c=41 then d - 1 else d
def endD (d:Int) (t:List Nat):Int:=t.foldl stepD d
def okD (d:Int):List Nat→Prop
 | []=>True
 | c::r=>stepD d c≤6∧okD (stepD d c) r
theorem endD_append (d:Int) (a b:List Nat):endD d (a++b)=endD (endD d a) b:=by simp [endD]
theorem WJ:∀ (a b:List Nat) (d:Int),okD d a→okD (endD d a) b→okD d (a++b)
 | [],b,d,_,h=>h
 | c::a,b,d,h,h'=>⟨h.1,WJ a b _ h.2 h'⟩
theorem VE {c:Nat} (h:isWS c=true):c≠40∧c≠41∧c≠44∧c≠58:=by
 simp [isWS,isLF,isSmall,VD,isFig] at h
 omega
theorem Qj:∀ (t:List Nat) (d:Int),(∀ c∈t,c≠40∧c≠41)→d≤6→endD d t=d∧okD d t
 | [],d,_,_=>⟨rfl,trivial⟩
 | c::t,d,h,hd=>by
  obtain ⟨h1,h2⟩:=h c (by simp)
  have e:stepD d c=d:=by simp [stepD,h1,h2]
  obtain ⟨a,b⟩:=Qj t d (fun x hx=>h x (by simp [hx])) hd
  refine ⟨?_,?_⟩
  ·show endD (stepD d c) t=d
   rw [e];exact a
  ·show stepD d c≤6∧okD (stepD d c) t
   rw [e];exact ⟨hd,b⟩
theorem U3 {l w:List Nat} (hl:okL l) (hw:okW w):∀ c∈head l w,c≠40∧c≠41:=by
 intro c hc
 unfold head at hc
 split at hc
 ·obtain ⟨a,b,_⟩:=VE (hw.2.2 c hc);exact ⟨a,b⟩
 ·simp at hc
  rcases hc with h | h | h
  ·obtain ⟨a,b,_⟩:=VE (small_ws (hl.2 c h));exact ⟨a,b⟩
  ·subst h;decide
  ·obtain ⟨a,b,_⟩:=VE (hw.2.2 c h);exact ⟨a,b⟩
mutual
theorem txt_d:∀ (k:Nat) (n:Note) (d:Int),Ok k n→d+k≤6→endD d (txt n)=d∧okD d (txt n)
 | k,.leaf l w,d,h,hd=>Qj _ d (U3 h.1 h.2) (by omega)
 | 0,.node l w ks,d,h,hd=>h.elim
 | k+1,.node l w ks,d,h,hd=>by
  obtain ⟨hl,hw,hk⟩:=h
  obtain ⟨a,b⟩:=Qj (head l w) d (U3 hl hw) (by omega)
  obtain ⟨a',b'⟩:=Yda k ks (d+1) hk (by omega)
  have e40:stepD d 40=d+1:=by simp [stepD]
  have e41:stepD (d+1) 41=d:=by simp [stepD]
  refine ⟨?_,?_⟩
  ·show endD d (head l w++40::(txts ks++[41]))=d
   rw [endD_append,a]
   show endD (stepD d 40) (txts ks++[41])=d
   rw [e40,endD_append,a']
   exact e41
  ·show okD d (head l w++40::(txts ks++[41]))
   refine WJ _ _ _ b ?_
   rw [a]
   refine ⟨by rw [e40];omega,?_⟩
   rw [e40]
   refine WJ _ _ _ b' ?_
   rw [a']
   exact ⟨by rw [e41];omega,trivial⟩
theorem Yda:∀ (k:Nat) (ks:Notes) (d:Int),Oks k ks→d+k≤6→endD d (txts ks)=d∧okD d (txts ks)
 | k,.nil,d,_,_=>⟨rfl,trivial⟩
 | k,.cons n .nil,d,h,hd=>txt_d k n d h.1 hd
 | k,.cons n (.cons m r),d,h,hd=>by
  obtain ⟨a,b⟩:=txt_d k n d h.1 hd
  obtain ⟨a',b'⟩:=Yda k (.cons m r) d h.2 hd
  have e44:stepD d 44=d:=by simp [stepD]
  refine ⟨?_,?_⟩
  ·show endD d (txt n++44::txts (.cons m r))=d
   rw [endD_append,a]
   show endD (stepD d 44) _=d
   rw [e44];exact a'
  ·show okD d (txt n++44::txts (.cons m r))
   refine WJ _ _ _ b ?_
   rw [a]
   refine ⟨by rw [e44];omega,?_⟩
   rw [e44];exact b'
end
end Rd
namespace Rd
abbrev sFig:Stmt:=Z45
abbrev Ydb:Stmt:=Z1W
abbrev sLF:Stmt:=Z14
abbrev sWS:Stmt:=Z2P
abbrev Ydc:Stmt:=Z4C
abbrev YeE:Stmt:=Z15
abbrev YeF:Stmt:=Z0O
abbrev Ydd:Stmt:=Z1K
abbrev YeG:Stmt:=Z0H
abbrev sEnd:Stmt:=Z1q
def spSign (f:Nat→Bool):Sp:=fun vs H Q _=>∃ l:List Nat,vs=[.str (S l)]∧l.length≤1∧Q (.bl (l.any f)) H
theorem U4 {l:List Nat} (h:l.length≤1):l=[]∨∃ c,l=[c]:=by
 match l,h with
 | [],_=>exact .inl rfl
 | [c],_=>exact .inr ⟨c,rfl⟩
theorem Yde (a b:Nat):decide (([a]:List Nat)<[b])=decide (a<b):=by
 by_cases h:a<b
 ·rw [decide_eq_true h,decide_eq_true]
  exact List.Lex.rel h
 ·rw [decide_eq_false h,decide_eq_false]
  intro z
  cases z with
  | rel z=>exact h z
  | cons z=>cases z
theorem Yf2 (b:Nat):decide (([]:List Nat)<[b])=true:=decide_eq_true List.Lex.nil
theorem scFig:FnScope ["sign"] ["sign"] (Yh sFig):=⟨rfl,rfl,rfl,by decide +kernel,rfl,by decide +kernel,by decide +kernel⟩
theorem VF (a b:Nat) (sa sb:Str) (ea:sa=S [a]) (eb:sb=S [b]) (l:List Nat) (hl:l.length≤1) :
  (if (!decide ((S l).cps.toList<sa.cps.toList))=true then !decide (sb.cps.toList<(S l).cps.toList) else false)=l.any fun c=>decide (a≤c)&&decide (c≤b):=by
 subst ea eb
 rw [YV,YV,YV]
 rcases U4 hl with rfl | ⟨c,rfl⟩
 ·rw [Yf2];rfl
 ·rw [Yde,Yde]
  simp only [List.any_cons,List.any_nil,Bool.or_false]
  by_cases h1:a≤c<;>by_cases h2:c≤b<;>simp [h1,h2,Nat.not_lt]<;>omega
theorem ok_fig (R:g.Raw "is_figure" "is_figure" sFig ["sign"]):g.Fn 1 "is_figure" ["sign"] (spSign isFig):=by
 refine R.fn scFig (fun vs H Q E h=>by obtain ⟨l,rfl,_⟩:=h;rfl) fun f cdv A outer s H vs Q E hr h=>?_
 obtain ⟨l,rfl,hl,q⟩:=h
 refine ⟨_,Yd (Yj (Vt Wf Wf Yg (pv 0) Yg)),?_⟩
 have e:=VF 48 57 _ _ (show ("0":Str)=S [48] by decide +kernel) (show ("9":Str)=S [57] by decide +kernel) l hl
 refine ⟨_,rfl,_,_,rfl,rfl,_,rfl,?_⟩
 refine YG (fun c=>?_) (fun c=>?_)
 ·rw [if_pos c] at e
  exact ⟨_,_,rfl,rfl,by rw [e];exact q⟩
 ·rw [if_neg c] at e
  show Q (.bl false) H
  rw [e];exact q
theorem Yfh:FnScope ["sign"] ["sign"] (Yh Ydb):=⟨rfl,rfl,rfl,by decide +kernel,rfl,by decide +kernel,by decide +kernel⟩
theorem ok_small (R:g.Raw "is_small_letter" "is_small_letter" Ydb ["sign"]):g.Fn 1 "is_small_letter" ["sign"] (spSign isSmall):=by
 refine R.fn Yfh (fun vs H Q E h=>by obtain ⟨l,rfl,_⟩:=h;rfl) fun f cdv A outer s H vs Q E hr h=>?_
 obtain ⟨l,rfl,hl,q⟩:=h
 refine ⟨_,Yd (Yj (Vt Wf Wf Yg (pv 0) Yg)),?_⟩
 have e:=VF 97 122 _ _ (show ("a":Str)=S [97] by decide +kernel) (show ("z":Str)=S [122] by decide +kernel) l hl
 refine ⟨_,rfl,_,_,rfl,rfl,_,rfl,?_⟩
 refine YG (fun c=>?_) (fun c=>?_)
 ·rw [if_pos c] at e
  exact ⟨_,_,rfl,rfl,by rw [e];exact q⟩
 ·rw [if_neg c] at e
  show Q (.bl false) H
  rw [e];exact q
theorem Yao (l:List Nat) (p r:Nat→Bool):(l.any fun c=>p c||r c)=(l.any p||l.any r):=by
 induction l with
 | nil=>rfl
 | cons a l ih=>simp only [List.any_cons,ih];cases p a<;>cases r a<;>simp
theorem scLF:FnScope ["sign"] ["sign"] (Yh sLF):=⟨rfl,rfl,rfl,by decide +kernel,rfl,by decide +kernel,by decide +kernel⟩
theorem ok_lf (R:g.Raw "is_letter_or_figure" "is_letter_or_figure" sLF ["sign"]) (F1:g.Fn 1 "is_small_letter" ["sign"] (spSign isSmall)) (F2:g.Fn 1 "is_figure" ["sign"] (spSign isFig)) :
  g.Fn 2 "is_letter_or_figure" ["sign"] (spSign isLF):=by
 refine R.fn scLF (fun vs H Q E h=>by obtain ⟨l,rfl,_⟩:=h;rfl) fun f cdv A outer s H vs Q E hr h=>?_
 obtain ⟨l,rfl,hl,q⟩:=h
 refine ⟨_,Yd (Yj (YbY (YE F1 hr (Ya (pv 0) Yb)) (YbY (Vt Wf Wf Yg (pv 0) Yg) (X1 (YE F2 hr (Ya (pv 0) Yb)))))),?_⟩
 have e:=VF 65 90 _ _ (show ("A":Str)=S [65] by decide +kernel) (show ("Z":Str)=S [90] by decide +kernel) l hl
 have ea:l.any isLF=(l.any isSmall||(l.any VD||l.any isFig)):=by
  have:isLF=fun c=>isSmall c||(VD c||isFig c):=by funext c;simp [isLF,Bool.or_assoc]
  rw [this,Yao,Yao]
 refine ⟨_,rfl,l,rfl,hl,_,rfl,?_⟩
 refine YG (fun c=>?_) (fun c=>?_)
 ·rw [ea,c] at q;exact q
 ·refine ⟨_,rfl,_,_,rfl,rfl,_,rfl,?_⟩
  have c0:l.any isSmall=false:=Bool.eq_false_iff.mpr c
  refine YG (fun c1=>?_) (fun c1=>?_)
  ·rw [if_pos c1] at e
   refine ⟨_,_,rfl,rfl,_,rfl,?_⟩
   refine YG (fun c2=>?_) (fun c2=>?_)
   ·have eb:l.any VD=true:=e.symm.trans c2
    rw [ea,eb] at q;simpa using q
   ·have eb:l.any VD=false:=e.symm.trans (Bool.eq_false_iff.mpr c2)
    refine ⟨_,rfl,l,rfl,hl,?_⟩
    rw [ea,eb,c0] at q;simpa using q
  ·rw [if_neg c1] at e
   have eb:l.any VD=false:=e.symm
   refine ⟨_,rfl,Vw ?_⟩
   refine ⟨_,rfl,l,rfl,hl,?_⟩
   rw [ea,eb,c0] at q;simpa using q
theorem scWS:FnScope ["sign"] ["sign"] (Yh sWS):=⟨rfl,rfl,rfl,by decide +kernel,rfl,by decide +kernel,by decide +kernel⟩
theorem ok_ws (R:g.Raw "is_word_sign" "is_word_sign" sWS ["sign"]) (F1:g.Fn 2 "is_letter_or_figure" ["sign"] (spSign isLF)):g.Fn 3 "is_word_sign" ["sign"] (spSign isWS):=by
 refine R.fn scWS (fun vs H Q E h=>by obtain ⟨l,rfl,_⟩:=h;rfl) fun f cdv A outer s H vs Q E hr h=>?_
 obtain ⟨l,rfl,hl,q⟩:=h
 refine ⟨_,Yd (Yj (YbY (YE F1 hr (Ya (pv 0) Yb)) (X1 (XV YF (pv 0) Yg (Yo _))))),?_⟩
 have ea:l.any isWS=(l.any isLF||l.any (·==45)):=by
  have:isWS=fun c=>isLF c||(c==45):=by funext c;rfl
  rw [this,Yao]
 refine ⟨_,rfl,l,rfl,hl,_,rfl,?_⟩
 refine YG (fun c=>?_) (fun c=>?_)
 ·rw [ea,c] at q;exact q
 ·have c0:l.any isLF=false:=Bool.eq_false_iff.mpr c
  refine ⟨_,rfl,rfl,?_⟩
  have ed:(("-":Str))=S [45]:=by decide +kernel
  have e2:decide (V.str (S l)=V.str "-")=l.any (·==45):=by
   rw [ed]
   rcases U4 hl with rfl | ⟨b,rfl⟩
   ·rw [decide_eq_false (by intro z;injection z with z;have:=Xi z;cases this)];rfl
   ·by_cases hc:b=45
    ·subst hc;simp
    ·rw [decide_eq_false (by intro z;injection z with z;have:=Xi z;injection this with this;exact hc this)]
     simp [hc]
  rw [ea,c0] at q
  show Q (.bl (decide (V.str (S l)=V.str "-"))) H
  rw [e2];simpa using q
def spLabel:Sp:=fun vs H Q _=>∃ l:List Nat,vs=[.str (S l)]∧l.length≤100000∧∀ H',Same H H'→Q (.bl (decide (1≤l.length)&&decide (l.length≤8)&&l.all isSmall)) H'
theorem YeH {n:Nat} (h:n≤1000000):n≤sizeLine:=Nat.le_trans h (by decide)
theorem Yfi:FnScope ["text"] ["text"] (Yh Ydc):=⟨rfl,rfl,rfl,by decide +kernel,rfl,by decide +kernel,by decide +kernel⟩
theorem ok_label (R:g.Raw "is_label" "is_label" Ydc ["text"]) (F1:g.Fn 1 "is_small_letter" ["sign"] (spSign isSmall)) (c1:g.Con "LONGEST_LABEL" (.int 8)) (bl:g.mg "len"=none) (ba:g.mg "all"=none) :
  g.Fn 2 "is_label" ["text"] spLabel:=by
 refine R.fn Yfi (fun vs H Q E h=>by obtain ⟨l,rfl,_⟩:=h;rfl) fun f cdv A outer s H vs Q E hr h=>?_
 obtain ⟨l,rfl,hl,q⟩:=h
 refine ⟨_,Yd (Yj (X2 (Vt Wy Wy Yf (YL bl Xl (Ya (pv 0) Yb)) (WI c1))
  (X1 (YL ba (XX rfl) (Ya (XG (src:=[none]) (N':=["sign"]) (.own .nil) rfl (VZ (pv 0))
   (fun cl C s₀ H₀ fp pn=>Yq (i:=0) (show List.Nodup (["sign"]:List Str) by decide +kernel) rfl (.inl rfl)) (fun cl C s₀ H₀ fp pn=>Y0) (fun cl C s₀ H₀ fp pn=>YE F1 hr (Ya (pv 0) Yb)) (by intro x hx;simp at hx)) Yb))))),?_⟩
 have hlen:(S l).length=l.length:=Yw l
 refine ⟨_,rfl,_,rfl,by rw [hlen];exact YeH (by omega),_,_,rfl,rfl,_,rfl,?_⟩
 rw [hlen]
 refine YG (fun c=>?_) (fun c=>?_)
 ·have c':(1:Int)≤l.length:=of_decide_eq_true c
  refine ⟨_,_,rfl,rfl,_,rfl,?_⟩
  refine YG (fun d=>?_) (fun d=>?_)
  ·have d':(l.length:Int)≤8:=of_decide_eq_true d
   refine ⟨_,rfl,S l,rfl,fun D hD=>?_⟩
   refine US (src:=[none]) (V0 (S l) (fun _=>True)) (fun i ys σ' H'=>ys=(l.take i).map (fun c=>V.bl (isSmall c))∧σ'.length=1∧Same H H'∧H' D=some (.lst ys)) ⟨by simp,rfl,.upd_new hD _,Ye⟩ (fun i ys σ' H' p=>⟨trivial,p.2.2.2⟩) (Vz 0) ?_ ?_
   ·rintro i ys σ' H' x hx ⟨rfl,hσ,sm,hd⟩
    rw [YV,List.getElem?_map] at hx
    cases e:l[i]? with
    | none=>rw [e] at hx;simp at hx
    | some c =>
     rw [e] at hx
     have hx':V.str ⟨#[c]⟩=x:=by simpa using hx
     subst hx'
     match σ',hσ with
     | [o],_ =>
      refine ⟨_,rfl,[c],rfl,by simp,hd,?_,?_⟩
      ·simp
       have:=(List.getElem?_eq_some_iff.mp e).1
       have h6:1000<sizeLine:=by decide
       omega
      ·refine ⟨?_,rfl,.upd_over hD sm _,Ye⟩
       obtain ⟨hi,hc⟩:=List.getElem?_eq_some_iff.mp e
       rw [List.take_succ_eq_append_getElem hi,hc]
       simp
   ·rintro ys σ' H' ⟨rfl,hσ,sm,hd⟩
    refine ⟨D,l.map isSmall,rfl,SqL.of ?_,?_⟩
    ·rw [hd,YV]
     simp [List.map_map]
    ·have e:((l.map isSmall).all id)=l.all isSmall:=by simp [List.all_map]
     rw [e]
     have:=q H' sm
     rw [decide_eq_true (show 1≤l.length by omega),decide_eq_true (show l.length≤8 by omega)] at this
     simpa using this
  ·have d':¬ (l.length:Int)≤8:=of_decide_eq_false (Bool.eq_false_iff.mpr d)
   have:=q H (.refl H)
   rw [decide_eq_false (show ¬ l.length≤8 by omega)] at this
   simpa using this
 ·have c':¬ (1:Int)≤l.length:=of_decide_eq_false (Bool.eq_false_iff.mpr c)
  refine ⟨_,rfl,Vw ?_⟩
  have:=q H (.refl H)
  rw [decide_eq_false (show ¬ 1≤l.length by omega)] at this
  simpa using this
end Rd
namespace Rd
def fl (t:List Nat) (i:Nat):List (Str×V):=[("text",.str (S t)),("place",.int i)]
theorem ntp:¬ (("text":Str)="place"):=by decide +kernel
theorem Qk (t:List Nat) (i:Nat):(fl t i).lookup ("text":Str)=some (.str (S t)):=rfl
theorem Wb (t:List Nat) (i:Nat):(fl t i).lookup ("place":Str)=some (.int i):=by
 show List.lookup ("place":Str) [(("text":Str),V.str (S t)),(("place":Str),V.int i)]=_
 have h:(("place":Str)==("text":Str))=false:=by decide +kernel
 rw [List.lookup_cons,h,List.lookup_cons]
 simp
theorem Yck (t:List Nat) (i:Nat) {m:Str} (h1:(m==("text":Str))=false) (h2:(m==("place":Str))=false):(fl t i).lookup m=none:=by
 show List.lookup m [(("text":Str),V.str (S t)),(("place":Str),V.int i)]=_
 rw [List.lookup_cons,h1,List.lookup_cons,h2]
 rfl
theorem Ydf (t:List Nat) (i j:Nat):Xj "place" (.int j) (fl t i)=fl t j:=by
 show (if ("text":Str)="place" then _ else (("text":Str),V.str (S t))::(if ("place":Str)="place" then [(("place":Str),V.int j)] else _))=_
 rw [if_neg ntp,if_pos rfl]
 rfl
theorem Yf3 (t:List Nat):Xj "place" (.int 0) (Xj "text" (.str (S t)) [])=fl t 0:=by
 show (if ("text":Str)="place" then _ else (("text":Str),V.str (S t))::Xj "place" (V.int 0) [])=_
 rw [if_neg ntp]
 rfl
structure Txt (g:Gx) (C:Addr):Prop where
 cl:Cls g.K C
 nT:Xc g.K C "text"
 nP:Xc g.K C "place"
def At (C:Addr) (H:Hp) (p dx:Addr) (t:List Nat) (i:Nat):Prop:=H p=some (.ins C dx (fl t i))
abbrev mv (C:Addr) (H:Hp) (p dx:Addr) (t:List Nat) (i:Nat):Hp:=upd H p (.ins C dx (fl t i))
def spInit (C:Addr):Sp:=fun vs H Q _=>∃ (p dx:Addr) (t:List Nat),vs=[.ref p,.str (S t)]∧H p=some (.ins C dx [])∧Q .non (mv C H p dx t 0)
def Yap (C:Addr):Sp:=fun vs H Q _=>∃ (p dx:Addr) (t:List Nat) (i:Nat),vs=[.ref p]∧At C H p dx t i∧t.length≤2000∧Q (.str (S ((t.drop i).take 1))) H
def spTakes (C:Addr):Sp:=fun vs H Q _=>∃ (p dx:Addr) (t:List Nat) (i c:Nat),vs=[.ref p,.str (S [c])]∧At C H p dx t i∧t.length≤2000∧((t.drop i).head?=some c→Q (.bl true) (mv C H p dx t (i+1)))∧((t.drop i).head?≠some c→Q (.bl false) H)
def spWord (C:Addr):Sp:=fun vs H Q _=>∃ (p dx:Addr) (t:List Nat) (i:Nat) (w r:List Nat),vs=[.ref p]∧At C H p dx t i∧t.length≤2000∧t.drop i=w++r∧(∀ c∈w,isWS c=true)∧(∀ c,r.head?=some c→isWS c=false)∧Q (.str (S w)) (mv C H p dx t (i+w.length))
def spEnd (C:Addr):Sp:=fun vs H Q _=>∃ (p dx:Addr) (t:List Nat) (i:Nat),vs=[.ref p]∧At C H p dx t i∧t.length≤2000∧Q (.bl (decide (i=t.length))) H
variable {C:Addr}
theorem Yaq {n:Nat} (h:n≤2000):n≤sizeLine:=YeH (by omega)
theorem Yf4:FnScope ["self","text"] ["self","text"] (Yh YeE):=⟨rfl,rfl,rfl,by decide +kernel,rfl,by decide +kernel,by decide +kernel⟩
theorem ok_init (T:Txt g C) (R:g.RawI "NoteReader" C "NoteReader.__init__" YeE ["self","text"]):g.Ma 1 "NoteReader" C ["self","text"] (spInit C):=by
 refine R.ma Yf4 (fun vs H Q E h=>by obtain ⟨p,dx,t,rfl,_⟩:=h;rfl) fun f cdv A outer s H vs Q E hr h=>?_
 obtain ⟨p,dx,t,rfl,hp,q⟩:=h
 refine ⟨_,Yc (YcL (pv 0) (pv 1) rfl) (Yd (YcL (pv 0) Yf rfl)),?_⟩
 refine ⟨_,rfl,_,rfl,p,C,dx,[],rfl,hp,T.cl,T.nT,(by show 0<1000;decide),_,rfl,p,C,dx,_,rfl,Ye,T.cl,T.nP,(by show 1<1000;decide),?_⟩
 show Q .non (upd (upd H p _) p _)
 rw [Ybj,Yf3]
 exact q
theorem Yf5:FnScope ["self"] ["self"] (Yh YeF):=⟨rfl,rfl,rfl,by decide +kernel,rfl,by decide +kernel,by decide +kernel⟩
theorem ok_here (T:Txt g C) (R:g.RawM C "sign_here" "NoteReader.sign_here" YeF ["self"]):g.Me 1 C "sign_here" ["self"] (Yap C):=by
 refine R.me Yf5 (fun vs H Q E h=>by obtain ⟨p,dx,t,i,rfl,_⟩:=h;rfl) fun f cdv A outer s H vs Q E hr h=>?_
 obtain ⟨p,dx,t,i,rfl,hp,ht,q⟩:=h
 refine ⟨_,Yd (Yj (X9 WS (WD (pv 0) rfl) (XW (WD (pv 0) rfl)) (XW (Yl X3 (WD (pv 0) rfl) Yf)))),?_⟩
 refine ⟨_,rfl,p,C,dx,_,_,rfl,hp,T.cl,T.nT,Qk t i,_,rfl,p,C,dx,_,_,rfl,hp,T.cl,T.nP,Wb t i,_,rfl,_,rfl,p,C,dx,_,_,rfl,hp,T.cl,T.nP,Wb t i,_,_,rfl,rfl,_,rfl,_,rfl,by rw [Yw];exact Yaq ht,?_⟩
 have e:=Yae t i (i+1)
 rw [Nat.add_sub_cancel_left] at e
 show Q (.str (Wt (S t) (some (i:Int)) (some ((i:Int)+1)))) H
 rw [show ((i:Int)+1)=((i+1:Nat):Int) by omega,e]
 exact q
theorem QD (l:List Nat) (c:Nat):(l.take 1=[c])↔l.head?=some c:=by
 cases l with
 | nil=>simp
 | cons a l=>simp
theorem Yfj:FnScope ["self","sign"] ["self","sign"] (Yh Ydd):=⟨rfl,rfl,rfl,by decide +kernel,rfl,by decide +kernel,by decide +kernel⟩
theorem ok_takes (T:Txt g C) (R:g.RawM C "takes" "NoteReader.takes" Ydd ["self","sign"]) (F1:g.Me 1 C "sign_here" ["self"] (Yap C)):g.Me 2 C "takes" ["self","sign"] (spTakes C):=by
 refine R.me Yfj (fun vs H Q E h=>by obtain ⟨p,dx,t,i,c,rfl,_⟩:=h;rfl) fun f cdv A outer s H vs Q E hr h=>?_
 obtain ⟨p,dx,t,i,c,rfl,hp,ht,q1,q2⟩:=h
 refine ⟨_,Yc (Yp (Yk Uk (V3 F1 T.cl hr (pv 0)) (pv 1) (Yo _)) (Yd (Yj X6)) Yi) (Yc (Qr (pv 0) Yf YcM) (Yd (Yj X6))),?_⟩
 refine ⟨_,rfl,p,dx,_,rfl,hp,Yck t i (by decide +kernel) (by decide +kernel),p,dx,t,i,rfl,hp,ht,_,rfl,rfl,_,rfl,?_⟩
 by_cases hc:(t.drop i).head?=some c
 ·have e:(t.drop i).take 1=[c]:=(QD _ _).mpr hc
  rw [e]
  refine iteNS rfl ?_
  refine ⟨_,rfl,p,C,dx,_,_,rfl,hp,T.cl,T.nP,Wb t i,_,_,rfl,rfl,dx,_,hp,(by show 2<1000;decide),?_⟩
  show Q (.bl true) (upd H p (.ins C dx (Xj "place" (.int ((i:Int)+1)) (fl t i))))
  rw [show ((i:Int)+1)=((i+1:Nat):Int) by omega,Ydf]
  exact q1 hc
 ·have e:¬ V.str (S ((t.drop i).take 1))=V.str (S [c]):=fun z=>by
   injection z with z
   exact hc ((QD _ _).mp (Xi z))
  rw [decide_eq_false e]
  exact q2 hc
theorem drop_more {t w r:List Nat} {i:Nat} (h:t.drop i=w++r):t.drop (i+w.length)=r:=by
 rw [← List.drop_drop,h]
 simp
theorem Ydg:FnScope ["self","begin"] ["self"] (Yh YeG):=⟨rfl,rfl,rfl,by decide +kernel,rfl,by decide +kernel,by decide +kernel⟩
theorem ok_word (T:Txt g C) (R:g.RawM C "word_signs" "NoteReader.word_signs" YeG ["self"]) (F1:g.Me 1 C "sign_here" ["self"] (Yap C)) (F2:g.Fn 3 "is_word_sign" ["sign"] (spSign isWS)):g.Me 4 C "word_signs" ["self"] (spWord C):=by
 refine R.me Ydg (fun vs H Q E h=>by obtain ⟨p,dx,t,i,w,r,rfl,_⟩:=h;rfl) fun f cdv A outer s H vs Q E hr h=>?_
 obtain ⟨p,dx,t,i,w,r,rfl,hp,ht,hd,hw,hr',q⟩:=h
 refine ⟨_,Yc (Yv (i:=1) Ydg.nd rfl (.inl rfl) (WD (pv 0) rfl)) (Yc (Q4 PassesOwn.never (YU (YE F2 hr (Ya (V3 F1 T.cl hr (pv 0)) Yb))) (Yd (Qr (pv 0) Yf YcM)))
  (Yd (Yj (X9 WS (WD (pv 0) rfl) (XW (pv 1)) (XW (WD (pv 0) rfl)))))),?_⟩
 refine ⟨_,rfl,p,C,dx,_,_,rfl,hp,T.cl,T.nP,Wb t i,?_⟩
 -- the loop: k signs of w are behind
 refine ⟨fun m σ H'=>∃ k,k+m=w.length∧σ=[some (.ref p),some (.int i)]∧H'=mv C H p dx t (i+k),⟨w.length,0,by omega,rfl,?_⟩,?_⟩
 ·exact (YfV hp).symm
 rintro m σ H' ⟨k,hk,rfl,rfl⟩
 have hdk:t.drop (i+k)=w.drop k++r:=by
  rw [← List.drop_drop,hd,List.drop_append_of_le_length (by omega)]
 refine ⟨_,rfl,p,dx,_,rfl,Ye,Yck t (i+k) (by decide +kernel) (by decide +kernel),p,dx,t,i+k,rfl,Ye,ht,_,rfl,by rw [List.length_take];omega,_,rfl,?_⟩
 by_cases hm:m=0
 ·-- the end
  have hkw:w.drop k=[]:=List.drop_eq_nil_of_le (by omega)
  have e:((t.drop (i+k)).take 1).any isWS=false:=by
   rw [hdk,hkw,List.nil_append]
   cases r with
   | nil=>rfl
   | cons a r=>simp [hr' a rfl]
  rw [e]
  refine Vw ?_
  have hk':k=w.length:=by omega
  subst hk'
  refine ⟨_,rfl,p,C,dx,_,_,rfl,Ye,T.cl,T.nT,Qk t _,_,rfl,_,rfl,_,rfl,p,C,dx,_,_,rfl,Ye,T.cl,T.nP,Wb t _,_,rfl,_,rfl,by rw [Yw];exact Yaq ht,?_⟩
  have e2:=Yae t i (i+w.length)
  rw [Nat.add_sub_cancel_left,hd,List.take_left] at e2
  rw [e2]
  exact q
 ·have hlt:k<w.length:=by omega
  have e0:w.drop k=w[k]::w.drop (k+1):=List.drop_eq_getElem_cons hlt
  have e:((t.drop (i+k)).take 1).any isWS=true:=by
   rw [hdk,e0]
   show (isWS w[k]||false)=true
   rw [hw w[k] (List.getElem_mem hlt)]
   rfl
  rw [e]
  refine Wa ?_
  refine ⟨fun σ' H'=>σ'=[some (.ref p),some (.int i)]∧H'=mv C H p dx t (i+(k+1)),fun σ' H' ⟨e1,e2⟩=>⟨m - 1,by omega,k+1,by omega,e1,e2⟩,?_⟩
  refine ⟨_,rfl,p,C,dx,_,_,rfl,Ye,T.cl,T.nP,Wb t _,_,_,rfl,rfl,dx,_,Ye,(by show 2<1000;decide),rfl,?_⟩
  show upd (upd H p _) p (.ins C dx (Xj "place" (.int (((i+k:Nat):Int)+1)) (fl t (i+k))))=_
  rw [Ybj,show (((i+k:Nat):Int)+1)=((i+(k+1):Nat):Int) by omega,Ydf]
theorem scEnd:FnScope ["self"] ["self"] (Yh sEnd):=⟨rfl,rfl,rfl,by decide +kernel,rfl,by decide +kernel,by decide +kernel⟩
theorem ok_end (T:Txt g C) (R:g.RawM C "at_end" "NoteReader.at_end" sEnd ["self"]) (bl:g.mg "len"=none):g.Me 1 C "at_end" ["self"] (spEnd C):=by
 refine R.me scEnd (fun vs H Q E h=>by obtain ⟨p,dx,t,i,rfl,_⟩:=h;rfl) fun f cdv A outer s H vs Q E hr h=>?_
 obtain ⟨p,dx,t,i,rfl,hp,ht,q⟩:=h
 refine ⟨_,Yd (Yj (XV YF (WD (pv 0) rfl) (YL bl Xl (Ya (WD (pv 0) rfl) Yb)) (Yo _))),?_⟩
 refine ⟨_,rfl,p,C,dx,_,_,rfl,hp,T.cl,T.nP,Wb t i,_,rfl,p,C,dx,_,_,rfl,hp,T.cl,T.nT,Qk t i,_,rfl,by rw [Yw];exact Yaq ht,rfl,?_⟩
 have e:decide (V.int (i:Int)=V.int ((S t).length:Nat))=decide (i=t.length):=by
  rw [Yw]
  by_cases h:i=t.length
  ·subst h;simp
  ·rw [decide_eq_false h,decide_eq_false]
   intro z;injection z with z;omega
 show Q (.bl (decide (V.int (i:Int)=V.int ((S t).length:Nat)))) H
 rw [e]
 exact q
end Rd
namespace Rd
mutual
def NoteAt (H:Hp):Note→V→Prop
 | .leaf l w,v=>∃ a,v = .ref a∧H a=some (.tup [.str (S l),.str (S w),.non])
 | .node l w ks,v=>∃ a b vs,v = .ref a∧H a=some (.tup [.str (S l),.str (S w),.ref b])∧H b=some (.tup vs)∧NotesAt H ks vs
def NotesAt (H:Hp):Notes→List V→Prop
 | .nil,vs=>vs=[]
 | .cons n r,vs=>∃ v us,vs=v::us∧NoteAt H n v∧NotesAt H r us
end
def Tups (H H':Hp):Prop:=∀ b xs,H b=some (.tup xs)→H' b=some (.tup xs)
theorem Same.tups {H H':Hp} (h:Same H H'):Tups H H':=fun b xs e=>h b _ e
mutual
theorem NoteAt.keep {H H':Hp} (h:Tups H H'):∀ {n:Note} {v:V},NoteAt H n v→NoteAt H' n v
 | .leaf l w,v,⟨a,e,q⟩=>⟨a,e,h a _ q⟩
 | .node l w ks,v,⟨a,b,vs,e,q,q',r⟩=>⟨a,b,vs,e,h a _ q,h b _ q',NotesAt.keep h r⟩
theorem NotesAt.keep {H H':Hp} (h:Tups H H'):∀ {ns:Notes} {vs:List V},NotesAt H ns vs→NotesAt H' ns vs
 | .nil,vs,e=>e
 | .cons n r,vs,⟨v,us,e,q,q'⟩=>⟨v,us,e,NoteAt.keep h q,NotesAt.keep h q'⟩
end
theorem NotesAt.snoc {H:Hp}:∀ {ns:Notes} {vs:List V} {n:Note} {v:V},NotesAt H ns vs→NoteAt H n v→NotesAt H (ns.snoc n) (vs++[v])
 | .nil,vs,n,v,e,h=>by subst e;exact ⟨v,[],rfl,h,rfl⟩
 | .cons m r,vs,n,v,⟨u,us,e,q,q'⟩,h=>by subst e;exact ⟨u,us++[v],rfl,q,q'.snoc h⟩
theorem NotesAt.length {H:Hp}:∀ {ns:Notes} {vs:List V},NotesAt H ns vs→vs.length=ns.len
 | .nil,vs,e=>by subst e;rfl
 | .cons m r,vs,⟨u,us,e,q,q'⟩=>by subst e;exact congrArg (·+1) q'.length
theorem mvk {C:Addr} {H:Hp} {p dx:Addr} {t:List Nat} {i:Nat} {b:Addr} {o:HO} (h:b≠p) (e:H b=some o):mv C H p dx t i b=some o:=by
 show upd H p _ b=some o
 rw [Yt h];exact e
def But (p:Addr) (H H':Hp):Prop:=∀ b o,b≠p→H b=some o→H' b=some o
theorem But.refl (p:Addr) (H:Hp):But p H H:=fun _ _ _ e=>e
theorem But.trans {p:Addr} {H H1 H2:Hp} (a:But p H H1) (b:But p H1 H2):But p H H2:=fun c o n e=>b c o n (a c o n e)
theorem But.mv {p:Addr} {H H1:Hp} (a:But p H H1) (o:HO):But p H (upd H1 p o):=fun c u n e=>by rw [Yt n];exact a c u n e
theorem But.new {p q:Addr} {H H1:Hp} (a:But p H H1) (o:HO) (h:H1 q=none):But p H (upd H1 q o):=fun c u n e=>by
 have e1:=a c u n e
 rw [Yt (YB e1 h)]
 exact e1
theorem But.tups {C dx:Addr} {p:Addr} {H H':Hp} {t:List Nat} {i:Nat} (a:But p H H') (hp:At C H p dx t i):Tups H H':=fun b xs e=>a b _ (Wk e hp (by intro z;cases z)) e
theorem But.free {p:Addr} {H H':Hp} {q:Addr} (a:But p H H') (n:q≠p) (h:H' q=none):H q=none:=by
 cases e:H q with
 | none=>rfl
 | some o=>rw [a q o n e] at h;cases h
end Rd
namespace Rd
def wordOk (w:List Nat):Bool:=decide (1≤w.length)&&decide (w.length≤62)
def labOk (l:List Nat):Bool:=decide (1≤l.length)&&decide (l.length≤8)&&l.all isSmall
def mkN (l w:List Nat):Option Notes→Note
 | none => .leaf l w
 | some ks => .node l w ks
abbrev PL:=List Nat→Option (Note×List Nat)
abbrev PB:=List Nat→Option (Option Notes×List Nat)
def pMore (pl:PL):Nat→Notes→List Nat→Option (Notes×List Nat)
 | 0,_,_=>none
 | f+1,acc,r=>if r.head?=some 44 then (match pl (r.drop 1) with
   | some (n,r')=>pMore pl f (acc.snoc n) r'
   | none=>none) else some (acc,r)
def pClose:Option (Notes×List Nat)→Option (Option Notes×List Nat)
 | none=>none
 | some (ks,r)=>if r.head?=some 41 then some (some ks,r.drop 1) else none
def pIn (pl:PL) (r:List Nat):Option (Option Notes×List Nat):=match pl r with
 | none=>none
 | some (n,r1)=>pClose (pMore pl (r1.length+1) (.cons n .nil) r1)
def pB (pl:PL):PB:=fun r=>if r.head?=some 40 then (if (r.drop 1).head?=some 41 then some (some .nil,r.drop 2) else pIn pl (r.drop 1)) else some (none,r)
def pPut (l w:List Nat):Option (Option Notes×List Nat)→Option (Note×List Nat)
 | none=>none
 | some (b,r)=>some (mkN l w b,r)
def pW (pb:PB) (l w r:List Nat):Option (Note×List Nat):=if wordOk w=true then pPut l w (pb r) else none
def pL (pb:PB):PL:=fun r=>if (r.dropWhile isWS).head?=some 58 then (if labOk (r.takeWhile isWS)=true then pW pb (r.takeWhile isWS) (((r.dropWhile isWS).drop 1).takeWhile isWS) (((r.dropWhile isWS).drop 1).dropWhile isWS) else none) else pW pb [] (r.takeWhile isWS) (r.dropWhile isWS)
def pbn:Nat→PB
 | 0=>pB (fun _=>none)
 | d+1=>pB (pL (pbn d))
def pln (d:Nat):PL:=pL (pbn d)
def Bal (c:List Nat):Prop:=∀ D,endD D c=D
theorem Bal.nil:Bal []:=fun _=>rfl
theorem Bal.app {a b:List Nat} (h:Bal a) (h':Bal b):Bal (a++b):=fun D=>by rw [endD_append,h,h']
theorem Bal.one {c:Nat} (h1:c≠40) (h2:c≠41):Bal [c]:=fun D=>by
 show stepD D c=D
 simp [stepD,h1,h2]
theorem Bal.ws:∀ {w:List Nat},(∀ c∈w,isWS c=true)→Bal w
 | [],_=>Bal.nil
 | c::w,h=>by
  obtain ⟨a,b,_⟩:=VE (h c (by simp))
  exact Bal.app (a:=[c]) (Bal.one a b) (Bal.ws fun x hx=>h x (by simp [hx]))
theorem Bal.br {c:List Nat} (h:Bal c):Bal (40::(c++[41])):=fun D=>by
 show endD (stepD D 40) (c++[41])=D
 rw [endD_append,h]
 show stepD (stepD D 40) 41=D
 simp [stepD]
def Sx (r0 r:List Nat):Prop:=∃ c,r0=c++r∧Bal c
theorem Sx.refl (r:List Nat):Sx r r:=⟨[],rfl,Bal.nil⟩
theorem Sx.trans {a b c:List Nat} (h:Sx a b) (h':Sx b c):Sx a c:=by
 obtain ⟨x,rfl,hx⟩:=h
 obtain ⟨y,rfl,hy⟩:=h'
 exact ⟨x++y,by simp,hx.app hy⟩
theorem Sx.len {a b:List Nat} (h:Sx a b):b.length≤a.length:=by
 obtain ⟨x,rfl,_⟩:=h
 simp
theorem QE:∀ {a b:List Nat} {d:Int},okD d (a++b)→okD (endD d a) b
 | [],b,d,h=>h
 | c::a,b,d,h=>QE (a:=a) h.2
theorem Sx.ok {a b:List Nat} {d:Int} (h:Sx a b) (o:okD d a):okD d b:=by
 obtain ⟨x,rfl,hx⟩:=h
 have:=QE o
 rwa [hx] at this
theorem hd_eq {r:List Nat} {c:Nat} (h:r.head?=some c):r=c::r.drop 1:=by
 cases r with
 | nil=>cases h
 | cons a r=>cases h;rfl
theorem Sx.drop {r:List Nat} {c:Nat} (h:r.head?=some c) (h1:c≠40) (h2:c≠41):Sx r (r.drop 1):=⟨[c],hd_eq h,Bal.one h1 h2⟩
theorem Sx.ws (r:List Nat):Sx r (r.dropWhile isWS):=⟨r.takeWhile isWS,by simp,Bal.ws fun c hc=>by
 have:=List.all_takeWhile (l:=r) (p:=isWS)
 exact List.all_eq_true.mp this c hc⟩
def Ycl (pl:PL):Prop:=∀ r n r',pl r=some (n,r')→Sx r r'
theorem Yar {pl:PL} (g:Ycl pl):∀ {f:Nat} {acc ks:Notes} {r r':List Nat},pMore pl f acc r=some (ks,r')→Sx r r'
 | 0,_,_,_,_,h=>by cases h
 | f+1,acc,ks,r,r',h=>by
  rw [pMore] at h
  by_cases c:r.head?=some 44
  ·rw [if_pos c] at h
   cases e:pl (r.drop 1) with
   | none=>rw [e] at h;cases h
   | some z =>
    obtain ⟨n,r1⟩:=z
    rw [e] at h
    exact ((Sx.drop c (by decide) (by decide)).trans (g _ _ _ e)).trans (Yar g h)
  ·rw [if_neg c] at h
   cases h
   exact Sx.refl _
theorem YeI {pl:PL} (g:Ycl pl) {r r':List Nat} {b:Option Notes} (h:pB pl r=some (b,r')):Sx r r':=by
 unfold pB at h
 by_cases c:r.head?=some 40
 ·rw [if_pos c] at h
  have e:=hd_eq c
  by_cases c1:(r.drop 1).head?=some 41
  ·rw [if_pos c1] at h
   cases h
   have e1:=hd_eq c1
   rw [List.drop_drop] at e1
   exact ⟨40::([]++[41]),by rw [e,e1];rfl,Bal.br Bal.nil⟩
  ·rw [if_neg c1] at h
   unfold pIn at h
   cases e2:pl (r.drop 1) with
   | none=>rw [e2] at h;cases h
   | some z =>
    obtain ⟨n,r1⟩:=z
    rw [e2] at h
    dsimp only at h
    cases e3:pMore pl (r1.length+1) (.cons n .nil) r1 with
    | none=>rw [e3] at h;cases h
    | some y =>
     obtain ⟨ks,r2⟩:=y
     rw [e3] at h
     unfold pClose at h
     dsimp only at h
     by_cases c3:r2.head?=some 41
     ·rw [if_pos c3] at h
      cases h
      obtain ⟨x,e4,hx⟩:=(g _ _ _ e2).trans (Yar g e3)
      refine ⟨40::(x++[41]),?_,hx.br⟩
      rw [e,e4,hd_eq c3]
      simp
     ·rw [if_neg c3] at h;cases h
 ·rw [if_neg c] at h
  cases h
  exact Sx.refl _
theorem YeJ {pb:PB} (g:∀ r b r',pb r=some (b,r')→Sx r r'):Ycl (pL pb):=by
 intro r n r' h
 have w:∀ {l w x:List Nat},pW pb l w x=some (n,r')→Sx x r':=fun {l w x} h=>by
  unfold pW at h
  by_cases c:wordOk w=true
  ·rw [if_pos c] at h
   cases e:pb x with
   | none=>rw [e] at h;cases h
   | some z =>
    obtain ⟨b,r1⟩:=z
    rw [e] at h
    cases h
    exact g _ _ _ e
  ·rw [if_neg c] at h;cases h
 unfold pL at h
 by_cases c:(r.dropWhile isWS).head?=some 58
 ·rw [if_pos c] at h
  by_cases c1:labOk (r.takeWhile isWS)=true
  ·rw [if_pos c1] at h
   exact (((Sx.ws r).trans (Sx.drop c (by decide) (by decide))).trans (Sx.ws _)).trans (w h)
  ·rw [if_neg c1] at h;cases h
 ·rw [if_neg c] at h
  exact (Sx.ws r).trans (w h)
theorem Ydh:∀ (d:Nat) r b r',pbn d r=some (b,r')→Sx r r'
 | 0,r,b,r',h=>YeI (pl:=fun _=>none) (fun _ _ _ h=>by cases h) h
 | d+1,r,b,r',h=>YeI (YeJ (Ydh d)) h
theorem pln_sx (d:Nat):Ycl (pln d):=YeJ (Ydh d)
def pAll:Option (Note×List Nat)→Option Note
 | some (n,[])=>some n
 | _=>none
def parse (t:List Nat):Option Note:=pAll (pln 6 t)
def spLNx (C CN:Addr) (m:Nat):Sp:=fun vs H Q E=>∃ (p dx:Addr) (t:List Nat) (i d:Nat),vs=[.ref p]∧m=d+1∧d≤6∧At C H p dx t i∧i≤t.length∧t.length≤2000∧okD (6 - (d:Int)) (t.drop i) ∧
 (∀ n r v H',pln d (t.drop i)=some (n,r)→NoteAt H' n v→At C H' p dx t (t.length - r.length)→But p H H'→Q v H')∧(pln d (t.drop i)=none→∀ H',But p H H'→E (.ref CN) none H')
def spBNx (C CN:Addr) (m:Nat):Sp:=fun vs H Q E=>∃ (p dx:Addr) (t:List Nat) (i:Nat),vs=[.ref p]∧m≤6∧At C H p dx t i∧i≤t.length∧t.length≤2000∧okD (6 - (m:Int)) (t.drop i) ∧
 (∀ r H',pbn m (t.drop i)=some (none,r)→At C H' p dx t (t.length - r.length)→But p H H'→Q .non H') ∧
 (∀ ks r b vs H',pbn m (t.drop i)=some (some ks,r)→H' b=some (.tup vs)→NotesAt H' ks vs→At C H' p dx t (t.length - r.length)→But p H H'→Q (.ref b) H')∧(pbn m (t.drop i)=none→∀ H',But p H H'→E (.ref CN) none H')
theorem no_ln {C CN:Addr} {vs:List V} {H:Hp} {Q:VK} {E:XK} (h:spLNx C CN 0 vs H Q E):False:=by
 obtain ⟨p,dx,t,i,d,_,h,_⟩:=h
 omega
theorem noat (m:Str) (t:List Nat) (i:Nat) (h1:(m==("text":Str))=false:=by decide +kernel) (h2:(m==("place":Str))=false:=by decide +kernel):(fl t i).lookup m=none:=Yck t i h1 h2
theorem ws_parts:∀ r:List Nat,r=r.takeWhile isWS++r.dropWhile isWS∧(∀ c∈r.takeWhile isWS,isWS c=true)∧∀ c,(r.dropWhile isWS).head?=some c→isWS c=false:=fun r=>by
 refine ⟨List.takeWhile_append_dropWhile.symm,fun c hc=>List.all_eq_true.mp (List.all_takeWhile (l:=r) (p:=isWS)) c hc,?_⟩
 induction r with
 | nil=>intro c h;cases h
 | cons x r ih =>
  intro c h
  by_cases hx:isWS x=true
  ·rw [List.dropWhile_cons_of_pos hx] at h
   exact ih c h
  ·rw [List.dropWhile_cons_of_neg hx] at h
   cases h
   simpa using hx
theorem drop_at {t r:List Nat} {i:Nat} (hi:i≤t.length) (s:Sx (t.drop i) r):t.drop (t.length - r.length)=r:=by
 obtain ⟨c,e,_⟩:=s
 have h1:=congrArg List.length e
 rw [List.length_drop,List.length_append] at h1
 have h2:t.drop (i+c.length)=r:=by
  rw [← List.drop_drop,e,List.drop_left]
 rw [← h2]
 congr 1
 rw [h2]
 omega
end Rd
theorem Zl {k:Nat} {Z1 Z2 Z3 Z6 Z4 Z5 Z0:Addr} (R:g.RawM Z0 "labelled_note" "NoteReader.labelled_note" Z03 ["self"]) (Z1d:g.Fn k "is_label" ["text"] (Rd.spLabel)) (ZP:g.Me k Z0 "takes" ["self","sign"] (Rd.spTakes Z0)) (Z0I:g.Me k Z0 "word_signs" ["self"] (Rd.spWord Z0)) (Z1x:g.MeX k Z0 "bracketed_notes" ["self"] (Rd.spBNx Z0 Z2 m)) (b_len:g.mg "len"=none) (ZR:g.Con "LONGEST_WORD" (.int 62)) (Z9:Cls g.K Z0) (Zc:Xc g.K Z0 "text") (Zb:Xc g.K Z0 "place") (x_NoNote:g.mg "NoNote"=some (.ref Z2)) (r_NoNote:PySem.W.excIn g.K Z2 YY "ValueError.__new__"=true):g.MeX (k+1) Z0 "labelled_note" ["self"] (Rd.spLNx Z0 Z2 (m+1)):=by
 refine R.meX Zv (fun vs H Q E h=>by obtain ⟨p,dx,t,i,d,rfl,hm,hd,hat,hi,hl,hok,q,qe⟩:=h;rfl) fun f_ cdv A outer s H vs Q E hr h=>?_
 obtain ⟨p,dx,t,i,d,rfl,hm,hd,hat,hi,hl,hok,q,qe⟩:=h
 refine ⟨_,(@Yc _ _ _ _ _ (PS.nox (@Yv _ _ (1) _ _ _ _ Zv.nd rfl (.inl rfl) Yg (by rfl) (by first | exact .inl rfl | exact .inr rfl | assumption))) (@Yc _ _ _ _ _ (PS.nox (@Yv _ _ (2) _ _ _ _ Zv.nd rfl (.inl rfl) (@V3 _ _ _ _ _ _ _ _ _ _ _ _ _ Z0I Z9 hr (pv 0) (by omega) (by rfl) (by rfl)) (by rfl) (by first | exact .inl rfl | exact .inr rfl | assumption))) (@Yc _ _ _ _ _ (@Yp _ _ _ _ _ _ _ _ (@YU _ _ _ (@UT _ _ _ _ _ _ _ _ _ _ _ _ _ _ _ _ ZP Z9 hr (pv 0) (@Ya _ _ _ _ _ Yg Yb (by rfl)) (by omega) (by rfl) (by rfl) (by rfl) (by rfl)) (by intro _;rfl)) (@Yc _ _ _ _ _ (PS.nox (@Yv _ _ (1) _ _ _ _ Zv.nd rfl (.inl rfl) (pv 2) (by rfl) (by first | exact .inl rfl | exact .inr rfl | assumption))) (@Yc _ _ _ _ _ (@Yp _ _ _ _ _ _ _ _ (@Y7 _ _ _ _ (@YU _ _ _ (@YE _ _ _ _ _ _ _ _ _ _ _ _ Z1d hr (@Ya _ _ _ _ _ (pv 1) Yb (by rfl)) (by omega) (by rfl) (by rfl) (by decide) (by rfl) (by rfl)) (by intro _;rfl))) (@Yd _ _ _ (@YN _ _ _ _ _ _ _ _ _ _ _ ⟨x_NoNote,r_NoNote⟩ YX (@Ya _ _ _ _ _ Yg Yb (by rfl)) (by rfl) (by rfl) (by rfl) (by decide) (by rfl) (by rfl))) Yi) (@Yd _ _ _ (PS.nox (@Yv _ _ (2) _ _ _ _ Zv.nd rfl (.inl rfl) (@V3 _ _ _ _ _ _ _ _ _ _ _ _ _ Z0I Z9 hr (pv 0) (by omega) (by rfl) (by rfl)) (by rfl) (by first | exact .inl rfl | exact .inr rfl | assumption)))))) Yi) (@Yc _ _ _ _ _ (@Yp _ _ _ _ _ _ _ _ (@Y7 _ _ _ _ (@Vu _ _ _ _ _ _ _ _ _ _ _ _ Wy Wy Yf (@YL _ _ _ _ _ _ _ _ _ _ b_len Xl (@Ya _ _ _ _ _ (pv 2) Yb (by rfl)) (by decide +kernel) (by rfl) (by rfl) (by decide) (by decide) (by rfl) (by rfl)) (@WI _ _ _ _ _ ZR (by rfl) (by rfl) (by decide)) (by with_unfolding_all rfl))) (@Yd _ _ _ (@YN _ _ _ _ _ _ _ _ _ _ _ ⟨x_NoNote,r_NoNote⟩ YX (@Ya _ _ _ _ _ Yg Yb (by rfl)) (by rfl) (by rfl) (by rfl) (by decide) (by rfl) (by rfl))) Yi) (@Yd _ _ _ (@Yj _ _ _ _ (@Yx _ _ _ _ _ (@Ya _ _ _ _ _ (pv 1) (@Ya _ _ _ _ _ (pv 2) (@Ya _ _ _ _ _ (@Um _ _ _ _ _ _ _ _ _ _ _ _ _ _ Z1x Z9 hr YS (pv 0) (by omega) (by rfl) (by rfl)) Yb (by rfl)) (by rfl)) (by rfl))))))))),?_⟩
 obtain rfl:d=m:=by omega
 have s58:Str.ofString ":"=S [58]:=by decide +kernel
 have e0:Str.ofString ""=S []:=by decide +kernel
 refine cut3 (fun σ H1=>∃ (l w:List Nat) (i1:Nat),σ=[some (.ref p),some (.str (S l)),some (.str (S w))]∧Rd.At Z0 H1 p dx t i1∧Rd.But p H H1∧i1≤t.length∧w.length≤2000∧Rd.pln d (t.drop i)=Rd.pW (Rd.pbn d) l w (t.drop i1)∧Rd.Sx (t.drop i) (t.drop i1)) ?_ ?_
 rotate_left
 ·intro N hN
  obtain ⟨x1,x2,x3⟩:=Rd.ws_parts (t.drop i)
  have hp:Rd.pln d (t.drop i)=Rd.pL (Rd.pbn d) (t.drop i):=rfl
  unfold Rd.pL at hp
  have sx:=Rd.Sx.ws (t.drop i)
  generalize hw:(t.drop i).takeWhile Rd.isWS=w at *
  generalize hr1:(t.drop i).dropWhile Rd.isWS=r1 at *
  have hdr:t.drop (i+w.length)=r1:=Rd.drop_more x1
  have hlen:=congrArg List.length x1
  rw [List.length_drop,List.length_append] at hlen
  walk_at "rd"
  refine ⟨dx,_,hat,Rd.noat _ _ _,p,dx,t,i,w,r1,rfl,hat,hl,x1,x2,x3,?_⟩
  have hat1:Rd.At Z0 (Rd.mv Z0 H p dx t (i+w.length)) p dx t (i+w.length):=Ye
  have hb1:Rd.But p H (Rd.mv Z0 H p dx t (i+w.length)):=(Rd.But.refl p H).mv _
  refine ⟨dx,_,hat1,Rd.noat _ _ _,p,dx,t,_,58,by rw [s58],hat1,hl,fun c=>?_,fun c=>?_⟩
  ·rw [hdr] at c
   rw [if_pos c] at hp
   refine ⟨_,rfl,Wa ⟨w,rfl,by omega,fun H2 s2=>⟨_,rfl,?_⟩⟩⟩
   have hat2:=s2 _ _ (show Rd.At Z0 (Rd.mv Z0 (Rd.mv Z0 H p dx t (i+w.length)) p dx t (i+w.length+1)) p dx t (i+w.length+1) from Ye)
   have hb2:Rd.But p H H2:=(hb1.mv _).trans fun b o _ e=>s2 b o e
   refine YG (fun cf=>⟨few (by decide),qe ?_ _ hb2⟩) fun cf=>?_
   ·rw [hp,if_neg]
    intro z
    have z':Rd.labOk w=false:=cf
    rw [z'] at z
    cases z
   ·have hlab:Rd.labOk w=true:=by
     cases z:Rd.labOk w with
     | true=>rfl
     | false=>exact (cf z).elim
    rw [if_pos hlab] at hp
    have hr2:t.drop (i+w.length+1)=r1.drop 1:=by rw [← List.drop_drop,hdr]
    obtain ⟨y1,y2,y3⟩:=Rd.ws_parts (r1.drop 1)
    have sx2:=(sx.trans (Rd.Sx.drop c (by decide) (by decide))).trans (Rd.Sx.ws (r1.drop 1))
    generalize hw2:(r1.drop 1).takeWhile Rd.isWS=w2 at *
    generalize hr3:(r1.drop 1).dropWhile Rd.isWS=r3 at *
    have y1':t.drop (i+w.length+1)=w2++r3:=by rw [hr2,y1]
    have hdr3:t.drop (i+w.length+1+w2.length)=r3:=Rd.drop_more y1'
    have hlen2:=congrArg List.length y1
    have h58:=congrArg List.length (Rd.hd_eq c)
    rw [List.length_cons] at h58
    rw [List.length_append] at hlen2
    refine ⟨dx,_,hat2,Rd.noat _ _ _,p,dx,t,_,w2,r3,rfl,hat2,hl,y1',y2,y3,hN _ _ ⟨w,w2,i+w.length+1+w2.length,rfl,Ye,hb2.mv _,by omega,by omega,?_,?_⟩⟩
    ·rw [hp,hdr3]
    ·rw [hdr3];exact sx2
  ·rw [hdr] at c
   rw [if_neg c] at hp
   refine ⟨_,rfl,Vw (hN _ _ ⟨[],w,i+w.length,by rw [e0],hat1,hb1,by omega,by omega,?_,?_⟩)⟩
   ·rw [hp,hdr]
   ·rw [hdr];exact sx
 rintro σ H1 ⟨l,w,i1,rfl,hat1,hb1,hi1,hwl,hpl,sx⟩
 have hw1:(S w).length=w.length:=Yw w
 walk_at "rd"
 have bad:¬ (1≤w.length∧w.length≤62)→Rd.pln d (t.drop i)=none:=fun c=>by
  rw [hpl]
  unfold Rd.pW
  rw [if_neg]
  intro z
  exact c (by simpa [Rd.wordOk] using z)
 refine ⟨few (by omega),YG (fun c1=>YG (fun c2=>⟨few (by decide),qe (bad (by omega)) _ hb1⟩) fun c2=>?_) fun c1=>⟨few (by decide),qe (bad (by omega)) _ hb1⟩⟩
 have hpl2:Rd.pln d (t.drop i)=Rd.pPut l w (Rd.pbn d (t.drop i1)):=by
  rw [hpl]
  unfold Rd.pW
  rw [if_pos]
  have:1≤w.length∧w.length≤62:=by omega
  simpa [Rd.wordOk] using this
 refine ⟨dx,_,hat1,Rd.noat _ _ _,p,dx,t,i1,rfl,hd,hat1,hi1,hl,sx.ok hok,fun r H2 e ha hb=>⟨few (by decide),fun p1 hp1=>?_⟩,fun ks r b vs H2 e hbb hns ha hb=>⟨few (by decide),fun p1 hp1=>?_⟩,fun e H2 hb=>qe ?_ _ (hb1.trans hb)⟩
 ·exact q (.leaf l w) r _ _ (by rw [hpl2,e];rfl) ⟨p1,rfl,Ye⟩ ((Same.upd_new hp1 _) _ _ ha) ((hb1.trans hb).new _ hp1)
 ·exact q (.node l w ks) r _ _ (by rw [hpl2,e];rfl) ⟨p1,b,vs,rfl,Ye,(Same.upd_new hp1 _) _ _ hbb,hns.keep (Rd.Same.tups (.upd_new hp1 _))⟩ ((Same.upd_new hp1 _) _ _ ha) ((hb1.trans hb).new _ hp1)
 ·rw [hpl2,e];rfl
theorem Zj {k:Nat} {Z1 Z2 Z3 Z6 Z4 Z5 Z0:Addr} (R:g.RawM Z0 "bracketed_notes" "NoteReader.bracketed_notes" ZY ["self"]) (ZP:g.Me k Z0 "takes" ["self","sign"] (Rd.spTakes Z0)) (ZL:g.MeX k Z0 "labelled_note" ["self"] (Rd.spLNx Z0 Z2 m)) (Za:g.mg "tuple"=none) (Z9:Cls g.K Z0) (Zc:Xc g.K Z0 "text") (Zb:Xc g.K Z0 "place") (x_NoNote:g.mg "NoNote"=some (.ref Z2)) (r_NoNote:PySem.W.excIn g.K Z2 YY "ValueError.__new__"=true):g.MeX (k+1) Z0 "bracketed_notes" ["self"] (Rd.spBNx Z0 Z2 m):=by
 refine R.meX Z0d (fun vs H Q E h=>by obtain ⟨p,dx,t,i,rfl,hm,hat,hi,hl,hok,q1,q2,qe⟩:=h;rfl) fun f_ cdv A outer s H vs Q E hr h=>?_
 obtain ⟨p,dx,t,i,rfl,hm,hat,hi,hl,hok,q1,q2,qe⟩:=h
 refine ⟨_,(@Yc _ _ _ _ _ (PS.nox (@Yp _ _ _ _ _ _ _ _ (@Y7 _ _ _ _ (@YU _ _ _ (@UT _ _ _ _ _ _ _ _ _ _ _ _ _ _ _ _ ZP Z9 hr (pv 0) (@Ya _ _ _ _ _ Yg Yb (by rfl)) (by omega) (by rfl) (by rfl) (by rfl) (by rfl)) (by intro _;rfl))) (@Yd _ _ _ (@Yj _ _ _ _ VU)) Yi)) (@Yc _ _ _ _ _ (PS.nox (@Yp _ _ _ _ _ _ _ _ (@YU _ _ _ (@UT _ _ _ _ _ _ _ _ _ _ _ _ _ _ _ _ ZP Z9 hr (pv 0) (@Ya _ _ _ _ _ Yg Yb (by rfl)) (by omega) (by rfl) (by rfl) (by rfl) (by rfl)) (by intro _;rfl)) (@Yd _ _ _ (@Yj _ _ _ _ (@Yx _ _ _ _ _ Yb))) Yi)) (@Yc _ _ _ _ _ (@Yv _ _ (1) _ _ _ _ Z0d.nd rfl (.inl rfl) (@Xk _ _ _ _ (@Ya _ _ _ _ _ (@Um _ _ _ _ _ _ _ _ _ _ _ _ _ _ ZL Z9 hr YS (pv 0) (by omega) (by rfl) (by rfl)) Yb (by rfl))) (by rfl) (by first | exact .inl rfl | exact .inr rfl | assumption)) (@Yc _ _ _ _ _ (@Q4 _ _ _ _ _ _ PassesOwn.leaving (@YU _ _ _ (@UT _ _ _ _ _ _ _ _ _ _ _ _ _ _ _ _ ZP Z9 hr (pv 0) (@Ya _ _ _ _ _ Yg Yb (by rfl)) (by omega) (by rfl) (by rfl) (by rfl) (by rfl)) (by intro _;rfl)) (@Yd _ _ _ (@YZ _ _ _ _ (@Xx _ _ _ _ _ _ _ _ _ _ _ _ PySem.F.plainAttrs_list PySem.F.slot_list_append PySem.F.type_list_append Xs (pv 1) (@Ya _ _ _ _ _ (@Um _ _ _ _ _ _ _ _ _ _ _ _ _ _ ZL Z9 hr YS (pv 0) (by omega) (by rfl) (by rfl)) Yb (by rfl)) (by rfl) (by rfl) (by rfl) (by rfl) (by rfl)) (by rfl)))) (@Yc _ _ _ _ _ (@Yp _ _ _ _ _ _ _ _ (@Y7 _ _ _ _ (@YU _ _ _ (@UT _ _ _ _ _ _ _ _ _ _ _ _ _ _ _ _ ZP Z9 hr (pv 0) (@Ya _ _ _ _ _ Yg Yb (by rfl)) (by omega) (by rfl) (by rfl) (by rfl) (by rfl)) (by intro _;rfl))) (@Yd _ _ _ (@YN _ _ _ _ _ _ _ _ _ _ _ ⟨x_NoNote,r_NoNote⟩ YX (@Ya _ _ _ _ _ Yg Yb (by rfl)) (by rfl) (by rfl) (by rfl) (by decide) (by rfl) (by rfl))) Yi) (@Yd _ _ _ (PS.nox (@Yj _ _ _ _ (@Xy _ _ _ _ _ _ _ _ _ _ Za WF (@Ya _ _ _ _ _ (pv 1) Yb (by rfl)) (by decide +kernel) (by rfl) (by rfl) (by decide) (by decide) (by rfl) (by rfl)))))))))),?_⟩
 have s40:Str.ofString "("=S [40]:=by decide +kernel
 have s41:Str.ofString ")"=S [41]:=by decide +kernel
 have s44:Str.ofString ","=S [44]:=by decide +kernel
 have eB:∃ pl,Rd.pbn m=Rd.pB pl:=by cases m<;>exact ⟨_,rfl⟩
 have tl:t.length - (t.drop i).length=i:=by rw [List.length_drop];omega
 walk_at "rd"
 refine ⟨dx,_,hat,Rd.noat _ _ _,p,dx,t,i,40,by rw [s40],hat,hl,fun c=>?_,fun c=>?_⟩
 rotate_left
 ·refine ⟨_,rfl,Xb rfl (q1 (t.drop i) H ?_ (by rw [tl];exact hat) (Rd.But.refl p H))⟩
  obtain ⟨pl,e⟩:=eB
  rw [e]
  unfold Rd.pB
  rw [if_neg c]
 have ecx:=Rd.hd_eq c
 rw [ecx] at hok
 have hm1:1≤m:=by
  have h1:=hok.1
  rw [show Rd.stepD (6 - (m:Int)) 40=6 - (m:Int)+1 by simp [Rd.stepD]] at h1
  omega
 obtain ⟨d,rfl⟩:∃ d,m=d+1:=⟨m - 1,by omega⟩
 have hok1:Rd.okD (6 - (d:Int)) (t.drop (i+1)):=by
  have h2:=hok.2
  rw [show Rd.stepD (6 - ((d+1:Nat):Int)) 40=6 - (d:Int) by simp [Rd.stepD];omega,List.drop_drop] at h2
  exact h2
 have hi1:i+1≤t.length:=by
  have:=congrArg List.length ecx
  rw [List.length_cons,List.length_drop] at this
  omega
 have hp:Rd.pbn (d+1) (t.drop i)=if (t.drop (i+1)).head?=some 41 then some (some .nil,(t.drop (i+1)).drop 1) else Rd.pIn (Rd.pln d) (t.drop (i+1)):=by
  show Rd.pB (Rd.pln d) (t.drop i)=_
  unfold Rd.pB
  rw [if_pos c]
  simp only [List.drop_drop]
 have hat1:Rd.At Z0 (Rd.mv Z0 H p dx t (i+1)) p dx t (i+1):=Ye
 have hb1:Rd.But p H (Rd.mv Z0 H p dx t (i+1)):=(Rd.But.refl p H).mv _
 refine ⟨_,rfl,YH (by decide) ⟨dx,_,hat1,Rd.noat _ _ _,p,dx,t,i+1,41,by rw [s41],hat1,hl,fun c1=>⟨_,rfl,Wa ⟨few (by decide),fun b hb=>?_⟩⟩,fun c1=>⟨_,rfl,Vw ?_⟩⟩⟩
 ·rw [if_pos c1] at hp
  have hc1:=congrArg List.length (Rd.hd_eq c1)
  rw [List.length_cons,List.length_drop] at hc1
  refine q2 .nil _ b [] _ hp Ye rfl ((Same.upd_new hb _) _ _ ?_) ((hb1.mv _).new _ hb)
  rw [show t.length - ((t.drop (i+1)).drop 1).length=i+1+1 by simp only [List.length_drop] at hc1 ⊢;omega]
  exact Ye
 rw [if_neg c1] at hp
 refine ⟨dx,_,hat1,Rd.noat _ _ _,p,dx,t,i+1,d,rfl,rfl,by omega,hat1,hi1,hl,hok1,fun n r1 v1 H2 e1 hv1 hat2 hb2=>⟨few (by decide),fun L hL=>?_⟩,fun e1 H2 hb2=>qe ?_ _ (hb1.trans hb2)⟩
 rotate_left
 ·rw [hp]
  unfold Rd.pIn
  rw [e1]
 have sx1:Rd.Sx (t.drop (i+1)) r1:=Rd.pln_sx d _ _ _ e1
 have hr1:t.drop (t.length - r1.length)=r1:=Rd.drop_at hi1 sx1
 have hl1:r1.length≤t.length - (i+1):=by have:=sx1.len;rw [List.length_drop] at this;omega
 have nLp:L≠p:=(YB hat2 hL).symm
 have hp2:Rd.pbn (d+1) (t.drop i)=Rd.pClose (Rd.pMore (Rd.pln d) (r1.length+1) (.cons n .nil) r1):=by
  rw [hp]
  unfold Rd.pIn
  rw [e1]
 generalize hT:Rd.pMore (Rd.pln d) (r1.length+1) (.cons n .nil) r1=TOT at hp2
 have hbA:Rd.But p H H2:=hb1.trans hb2
 have nL0:H L=none:=hbA.free nLp hL
 refine ⟨fun fm σ H'=>∃ (acc:Rd.Notes) (us:List V) (r:List Nat) (f:Nat),fm=r.length∧σ=[some (.ref p),some (.ref L)]∧H' L=some (.lst us)∧Rd.NotesAt H' acc us∧Rd.At Z0 H' p dx t (t.length - r.length)∧t.drop (t.length - r.length)=r∧Rd.But p H H'∧r.length<f∧Rd.pMore (Rd.pln d) f acc r=TOT∧Rd.Sx (t.drop (i+1)) r∧us.length+r.length≤t.length,⟨r1.length,.cons n .nil,[v1],r1,r1.length+1,rfl,rfl,Ye,⟨v1,[],rfl,hv1.keep (Rd.Same.tups (.upd_new hL _)),rfl⟩,(Same.upd_new hL _) _ _ hat2,hr1,hbA.new _ hL,by omega,hT,sx1,by simp;omega⟩,?_⟩
 rintro fm σ H' ⟨acc,us,r,f,rfl,rfl,hL',hacc,hat',hdr,hb',hf,hM,sx,hus⟩
 have hcnt:us.length≤2000:=by omega
 obtain ⟨f,rfl⟩:∃ f',f=f'+1:=⟨f - 1,by omega⟩
 rw [Rd.pMore] at hM
 walk_at "rd"
 refine ⟨dx,_,hat',Rd.noat _ _ _,p,dx,t,_,44,by rw [s44],hat',hl,fun c=>⟨_,rfl,Wa ?_⟩,fun c=>⟨_,rfl,Vw ?_⟩⟩
 ·rw [hdr] at c
  rw [if_pos c] at hM
  have hcl:=congrArg List.length (Rd.hd_eq c)
  rw [List.length_cons] at hcl
  have hdr1:t.drop (t.length - r.length+1)=r.drop 1:=by rw [← List.drop_drop,hdr]
  have sxd:=sx.trans (Rd.Sx.drop c (by decide) (by decide))
  refine ⟨_,fun σ' H3 h=>h,.inl ⟨rfl,_,SqL.of (Rd.mvk nLp hL')⟩,dx,_,Ye,Rd.noat _ _ _,p,dx,t,t.length - r.length+1,d,rfl,rfl,by omega,Ye,by omega,hl,by rw [hdr1];exact sxd.ok hok1,fun n2 r2 v2 H3 e2 hv2 hat3 hb3=>?_,fun e2 H3 hb3=>qe ?_ _ ((hb'.mv _).trans hb3)⟩
  ·rw [hdr1] at e2
   rw [e2] at hM
   dsimp only at hM
   have hL3:H3 L=some (.lst us):=hb3 L _ nLp (Rd.mvk nLp hL')
   have sx2:=sxd.trans (Rd.pln_sx d _ _ _ e2)
   have hl2:r2.length<r.length:=by have:=(Rd.pln_sx d _ _ _ e2).len;omega
   have tp3:Rd.Tups H3 (upd H3 L (.lst (us++[v2]))):=fun c xs e=>by rw [Yt (Wk e hL3 (by intro z;cases z))];exact e
   have tp4:Rd.Tups H' H3:=fun c xs e=>hb3 c _ (Wk e hat' (by intro z;cases z)) (Rd.mvk (Wk e hat' (by intro z;cases z)) e)
   refine ⟨us,hL3,Nat.lt_of_le_of_lt hcnt (by decide),r2.length,hl2,acc.snoc n2,us++[v2],r2,rfl,rfl,Ye,((hacc.keep tp4).keep tp3).snoc (hv2.keep tp3),?_,Rd.drop_at hi1 sx2,fun b o hb e=>?_,f,by omega,hM,sx2,by rw [List.length_append,List.length_singleton];omega⟩
   ·show upd H3 L _ p=_
    rw [Yt nLp.symm];exact hat3
   ·rw [Yt (YB e nL0)]
    exact hb3 b o hb (Rd.mvk hb (hb' b o hb e))
  ·rw [hdr1] at e2
   rw [e2] at hM
   rw [hp2,← hM]
   rfl
 ·rw [hdr] at c
  rw [if_neg c] at hM
  refine ⟨dx,_,hat',Rd.noat _ _ _,p,dx,t,_,41,by rw [s41],hat',hl,fun c1=>⟨_,rfl,YH (by decide) ⟨us,.inl ⟨SqL.of (Rd.mvk nLp hL'),fun b hb=>?_⟩⟩⟩,fun c1=>⟨_,rfl,Xb rfl ⟨few (by decide),qe ?_ _ hb'⟩⟩⟩
  ·rw [hdr] at c1
   have hcl:=congrArg List.length (Rd.hd_eq c1)
   rw [List.length_cons] at hcl
   have tp2:Rd.Tups H' (upd (Rd.mv Z0 H' p dx t (t.length - r.length+1)) b (.tup us)):=fun c xs e=>(Same.upd_new hb _) _ _ (Rd.mvk (Wk e hat' (by intro z;cases z)) e)
   refine q2 acc (r.drop 1) b us _ ?_ Ye (hacc.keep tp2) ((Same.upd_new hb _) _ _ ?_) ((hb'.mv _).new _ hb)
   ·rw [hp2,← hM]
    unfold Rd.pClose
    dsimp only
    rw [if_pos c1]
   ·rw [show t.length - (r.drop 1).length=t.length - r.length+1 by omega]
    exact Ye
  ·rw [hdr] at c1
   rw [hp2,← hM]
   unfold Rd.pClose
   dsimp only
   rw [if_neg c1]
theorem str1 (c d:Nat) (s:Str) (e:s=S [d]):decide (V.str ⟨#[c]⟩=V.str s)=decide (c=d):=by
 subst e
 by_cases h:c=d
 ·subst h;rw [decide_eq_true rfl];exact decide_eq_true rfl
 ·rw [decide_eq_false h,decide_eq_false]
  intro z;injection z with z
  have:=Xi (a:=[c]) (b:=[d]) z
  injection this with this
  exact h this
def Z0f (CC:Addr):Sp:=fun vs H Q E=>∃ t:List Nat,vs=[.str (S t)]∧t.length≤100000∧(t.length≤2000→Rd.okD 0 t→Q .non H)∧(¬ (t.length≤2000∧Rd.okD 0 t)→E (.ref CC) none H)
theorem Z3J {Z1 Z2 Z3 Z6 Z4 Z5 Z0:Addr} (R:g.Raw "refuse_crowded" "refuse_crowded" Z0S ["text"]) (b_len:g.mg "len"=none) (Z2u:g.Con "MOST_BRACKETS" (.int 6)) (Z3y:g.Con "MOST_SIGNS" (.int 2000)) (x_Crowded:g.mg "Crowded"=some (.ref Z3)) (r_Crowded:PySem.W.excIn g.K Z3 YY "ValueError.__new__"=true):g.FnX (1) "refuse_crowded" ["text"] (Z0f Z3):=by
 refine R.fnX Z04 (fun vs H Q E h=>by obtain ⟨t,rfl,hl,q,qe⟩:=h;rfl) fun f_ cdv A outer s H vs Q E hr h=>?_
 obtain ⟨t,rfl,hl,q,qe⟩:=h
 refine ⟨_,(@Yc _ _ _ _ _ (@Yp _ _ _ _ _ _ _ _ (@Yk _ _ _ _ _ _ _ _ UJ (@YL _ _ _ _ _ _ _ _ _ _ b_len Xl (@Ya _ _ _ _ _ (pv 0) Yb (by rfl)) (by decide +kernel) (by rfl) (by rfl) (by decide) (by decide) (by rfl) (by rfl)) (@WI _ _ _ _ _ Z3y (by rfl) (by rfl) (by decide)) (Yo _)) (@Yd _ _ _ (@YN _ _ _ _ _ _ _ _ _ _ _ ⟨x_Crowded,r_Crowded⟩ YX (@Ya _ _ _ _ _ Yg Yb (by rfl)) (by rfl) (by rfl) (by rfl) (by decide) (by rfl) (by rfl))) Yi) (@Yc _ _ _ _ _ (PS.nox (@Yv _ _ (1) _ _ _ _ Z04.nd rfl (.inl rfl) Yf (by rfl) (by first | exact .inl rfl | exact .inr rfl | assumption))) (@Yd _ _ _ (@Xg _ _ _ _ _ _ _ _ PassesOwn.leaving rfl (@VZ _ _ _ _ (pv 0)) (@Yq _ _ (2) _ Z04.nd rfl (.inl rfl) (by first | exact .inl rfl | exact .inr rfl | assumption)) (@Yc _ _ _ _ _ (PS.nox (@Yp _ _ _ _ _ _ _ _ (@Yk _ _ _ _ _ _ _ _ YF (pv 2) Yg (Yo _)) (@Yd _ _ _ (@YcC _ _ (1) _ _ _ _ _ _ Z04.nd rfl (.inl rfl) Yf YfO (by first | exact .inl rfl | exact .inr rfl | assumption))) (@Yd _ _ _ (@Yp _ _ _ _ _ _ _ _ (@Yk _ _ _ _ _ _ _ _ YF (pv 2) Yg (Yo _)) (@Yd _ _ _ (@YcC _ _ (1) _ _ _ _ _ _ Z04.nd rfl (.inl rfl) Yf YfP (by first | exact .inl rfl | exact .inr rfl | assumption))) Yi)))) (@Yd _ _ _ (@Yp _ _ _ _ _ _ _ _ (@Yk _ _ _ _ _ _ _ _ UJ (pv 1) (@WI _ _ _ _ _ Z2u (by rfl) (by rfl) (by decide)) (Yo _)) (@Yd _ _ _ (@YN _ _ _ _ _ _ _ _ _ _ _ ⟨x_Crowded,r_Crowded⟩ YX (@Ya _ _ _ _ _ Yg Yb (by rfl)) (by rfl) (by rfl) (by rfl) (by decide) (by rfl) (by rfl))) Yi))) (by intro _;rfl))))),?_⟩
 have hsl:=Yw t
 walk_at "rd"
 refine ⟨few (by omega),YG (fun c=>⟨few (by decide),qe (by omega)⟩) fun c=>?_⟩
 refine ⟨_,rfl,S t,rfl,Ye7 (fun i σ H'=>H'=H∧∃ o,σ=[some (.str (S t)),some (.int (Rd.endD 0 (t.take i))),o]∧(Rd.okD 0 t↔Rd.okD (Rd.endD 0 (t.take i)) (t.drop i))) ⟨rfl,none,rfl,Iff.rfl⟩ ?_ ?_⟩
 ·rintro i c σ H' hc ⟨rfl,o,rfl,hk⟩
  rw [YV] at hc
  obtain ⟨hi,hc⟩:=List.getElem?_eq_some_iff.mp hc
  have e1:t.drop i=c::t.drop (i+1):=by rw [List.drop_eq_getElem_cons hi,hc]
  rw [e1] at hk
  have e2:Rd.endD 0 (t.take (i+1))=Rd.stepD (Rd.endD 0 (t.take i)) c:=by
   rw [List.take_succ_eq_append_getElem hi,hc,Rd.endD_append];rfl
  have d1:(({ cps:=#[c] }:Str)=Str.ofString "(")↔c=40:=by
   have:=str1 c 40 "(" (by decide +kernel)
   rw [decide_eq_decide] at this
   exact ⟨fun z=>this.mp (by rw [z]),fun z=>by have:=this.mpr z;injection this⟩
  have d2:(({ cps:=#[c] }:Str)=Str.ofString ")")↔c=41:=by
   have:=str1 c 41 ")" (by decide +kernel)
   rw [decide_eq_decide] at this
   exact ⟨fun z=>this.mp (by rw [z]),fun z=>by have:=this.mpr z;injection this⟩
  have key:∀ e:Int,e=Rd.stepD (Rd.endD 0 (t.take i)) c→(if 6<e then 1≤sizeLine∧E (Value.ref Z3) none H' else e=Rd.endD 0 (List.take (i+1) t)∧(Rd.okD 0 t↔Rd.okD (Rd.endD 0 (List.take (i+1) t)) (List.drop (i+1) t))):=by
   intro e he
   refine YG (fun c6=>⟨few (by decide),qe fun z=>?_⟩) fun c6=>⟨by rw [e2,he],hk.trans ⟨fun z=>by rw [e2];exact z.2,fun z=>⟨by rw [he] at c6;omega,by rw [e2] at z;exact z⟩⟩⟩
   have:=(hk.mp z.2).1
   rw [he] at c6
   omega
  walk_at "rd"
  refine YG (fun c1=>key _ ?_) fun c1=>YG (fun c2=>key _ ?_) fun c2=>key _ ?_
  ·unfold Rd.stepD
   rw [if_pos (d1.mp c1)]
  ·unfold Rd.stepD
   rw [if_neg (fun z=>c1 (d1.mpr z)),if_pos (d2.mp c2)]
  ·unfold Rd.stepD
   rw [if_neg (fun z=>c1 (d1.mpr z)),if_neg (fun z=>c2 (d2.mpr z))]
 ·rintro σ H' ⟨rfl,o,rfl,hk⟩
  rw [List.drop_of_length_le (by rw [YV];exact Nat.le_refl _)] at hk
  exact q (by omega) (hk.mpr trivial)
def Yas (K:PySem.W.Frag) (H:Hp) (x:V):Prop:=∃ ty,TyOf K H x ty∧W.kitOne K ty (.type "str")=some false
def Z3t (K:PySem.W.Frag) (CN CC:Addr):Sp:=fun vs H Q E=>∃ x:V,vs=[x]∧((Yas K H x∧E (.ref CN) none H)∨∃ t:List Nat,x = .str (S t)∧t.length≤100000∧(¬ (t.length≤2000∧Rd.okD 0 t)→E (.ref CC) none H)∧(t.length≤2000→Rd.okD 0 t→Rd.parse t=none→∀ H',Same H H'→E (.ref CN) none H')∧(∀ n v H',t.length≤2000→Rd.okD 0 t→Rd.parse t=some n→Rd.NoteAt H' n v→Same H H'→Q v H'))
theorem Yat {k:Nat} {Z1 Z2 Z3 Z6 Z4 Z5 Z0:Addr} (R:g.Raw "read_note" "read_note" Z2v ["text"]) (Z0Z:g.FnX k "refuse_crowded" ["text"] (Z0f Z3)) {j_NoteReader___init__:Nat} (Z2R:g.Ma j_NoteReader___init__ "NoteReader" Z0 ["self","text"] (Rd.spInit Z0)) (h_NoteReader___init__:j_NoteReader___init__+1≤k) (ZL:g.MeX k Z0 "labelled_note" ["self"] (Rd.spLNx Z0 Z2 7)) (Z3q:g.Me k Z0 "at_end" ["self"] (Rd.spEnd Z0)) (Z8:g.mg "isinstance"=none) (b_str:g.mg "str"=none) (Z9:Cls g.K Z0) (Zc:Xc g.K Z0 "text") (Zb:Xc g.K Z0 "place") (x_NoNote:g.mg "NoNote"=some (.ref Z2)) (r_NoNote:PySem.W.excIn g.K Z2 YY "ValueError.__new__"=true):g.FnX (k+1) "read_note" ["text"] (Z3t g.K Z2 Z3):=by
 refine R.fnX Z23 (fun vs H Q E h=>by obtain ⟨x,rfl,hx⟩:=h;rfl) fun f_ cdv A outer s H vs Q E hr h=>?_
 obtain ⟨x,rfl,hx⟩:=h
 refine ⟨_,(@Yc _ _ _ _ _ (@Yp _ _ _ _ _ _ _ _ (@Y7 _ _ _ _ (@YU _ _ _ (@YL _ _ _ _ _ _ _ _ _ _ Z8 Y2 (@Ya _ _ _ _ _ (pv 0) (@Ya _ _ _ _ _ (@Xt _ _ _ _ ("str") b_str (by decide +kernel) (by rfl) (by rfl) (by decide) (by decide)) Yb (by rfl)) (by rfl)) (by decide +kernel) (by rfl) (by rfl) (by decide) (by decide) (by rfl) (by rfl)) (by intro _;rfl))) (@Yd _ _ _ (@YN _ _ _ _ _ _ _ _ _ _ _ ⟨x_NoNote,r_NoNote⟩ YX (@Ya _ _ _ _ _ Yg Yb (by rfl)) (by rfl) (by rfl) (by rfl) (by decide) (by rfl) (by rfl))) Yi) (@Yc _ _ _ _ _ (@YZ _ _ _ _ (@YI _ _ _ _ _ _ _ _ _ _ _ _ _ Z0Z hr YS (@Ya _ _ _ _ _ (pv 0) Yb (by rfl)) (by omega) (by rfl) (by rfl) (by decide) (by rfl) (by rfl)) (by rfl)) (@Yc _ _ _ _ _ (PS.nox (@Yv _ _ (1) _ _ _ _ Z23.nd rfl (.inl rfl) (@pe_ma _ _ _ _ _ _ _ _ _ _ _ _ _ Z2R hr (@Ya _ _ _ _ _ (pv 0) Yb (by rfl)) (by omega) (by rfl) (by rfl) (by decide) (by rfl) (by rfl)) (by rfl) (by first | exact .inl rfl | exact .inr rfl | assumption))) (@Yc _ _ _ _ _ (@Yv _ _ (2) _ _ _ _ Z23.nd rfl (.inl rfl) (@Um _ _ _ _ _ _ _ _ _ _ _ _ _ _ ZL Z9 hr YS (pv 1) (by omega) (by rfl) (by rfl)) (by rfl) (by first | exact .inl rfl | exact .inr rfl | assumption)) (@Yc _ _ _ _ _ (@Yp _ _ _ _ _ _ _ _ (@Y7 _ _ _ _ (@YU _ _ _ (@V3 _ _ _ _ _ _ _ _ _ _ _ _ _ Z3q Z9 hr (pv 1) (by omega) (by rfl) (by rfl)) (by intro _;rfl))) (@Yd _ _ _ (@YN _ _ _ _ _ _ _ _ _ _ _ ⟨x_NoNote,r_NoNote⟩ YX (@Ya _ _ _ _ _ Yg Yb (by rfl)) (by rfl) (by rfl) (by rfl) (by decide) (by rfl) (by rfl))) Yi) (@Yd _ _ _ (PS.nox (@Yj _ _ _ _ (pv 2))))))))),?_⟩
 walk_at "rd"
 rcases hx with ⟨⟨ty,h1,h2⟩,qe⟩ | ⟨t,rfl,hl,qc,qn,q⟩
 ·exact ⟨_,rfl,_,h1,false,h2,Xb rfl ⟨few (by decide),qe⟩⟩
 refine ⟨_,rfl,_,.str _,true,rfl,YH (by decide) ⟨t,rfl,hl,fun h1 h2=>?_,fun h=>qc h⟩⟩
 intro x dx hx hdx hne
 have back:∀ H2,Rd.But x (Rd.mv Z0 (upd (upd H dx (HO.own x)) x (HO.ins Z0 dx [])) x dx t 0) H2→Same H H2:=fun H2 hb b o e=>by
  refine hb b o (YB e hx) ?_
  show upd (upd (upd H dx _) x _) x _ b=_
  rw [Yt (YB e hx),Yt (YB e hx),Yt (YB e hdx)]
  exact e
 refine ⟨x,dx,t,rfl,Ye,rfl,dx,_,Ye,Rd.noat _ _ _,x,dx,t,0,6,rfl,rfl,by omega,Ye,Nat.zero_le _,h1,by simpa using h2,fun n r v H2 e hv ha hb=>⟨dx,_,ha,Rd.noat _ _ _,x,dx,t,_,rfl,ha,h1,_,rfl,?_⟩,fun e H2 hb=>qn h1 h2 ?_ H2 (back H2 hb)⟩
 ·rw [List.drop_zero] at e
  have hrl:=(Rd.pln_sx 6 _ _ _ e).len
  refine YG (fun c=>⟨few (by decide),qn h1 h2 ?_ H2 (back H2 hb)⟩) fun c=>q n v H2 h1 h2 ?_ hv (back H2 hb)
  ·unfold Rd.parse
   rw [e]
   cases r with
   | nil=>exact absurd c (by simp)
   | cons a r=>rfl
  ·unfold Rd.parse
   rw [e]
   cases r with
   | nil=>rfl
   | cons a r =>
    refine (c (decide_eq_false ?_)).elim
    rw [List.length_cons] at hrl ⊢
    omega
 ·rw [List.drop_zero] at e
  unfold Rd.parse
  rw [e]
  rfl
namespace Rd
theorem Yau {pl:PL} {d:Nat} (g:∀ r n r',pl r=some (n,r')→Ok d n):∀ {f:Nat} {acc ks:Notes} {r r':List Nat},Oks d acc→pMore pl f acc r=some (ks,r')→Oks d ks
 | 0,_,_,_,_,_,h=>by cases h
 | f+1,acc,ks,r,r',ha,h=>by
  rw [pMore] at h
  by_cases c:r.head?=some 44
  ·rw [if_pos c] at h
   cases e:pl (r.drop 1) with
   | none=>rw [e] at h;cases h
   | some z =>
    obtain ⟨n,r1⟩:=z
    rw [e] at h
    exact Yau g (Yan ha (g _ _ _ e)) h
  ·rw [if_neg c] at h
   cases h
   exact ha
theorem YeK {pl:PL} {d:Nat} (g:∀ r n r',pl r=some (n,r')→Ok d n) {r r':List Nat} {ks:Notes} (h:pB pl r=some (some ks,r')):Oks d ks:=by
 unfold pB at h
 by_cases c:r.head?=some 40
 ·rw [if_pos c] at h
  by_cases c1:(r.drop 1).head?=some 41
  ·rw [if_pos c1] at h
   cases h
   cases d<;>exact trivial
  ·rw [if_neg c1] at h
   unfold pIn at h
   cases e2:pl (r.drop 1) with
   | none=>rw [e2] at h;cases h
   | some z =>
    obtain ⟨n,r1⟩:=z
    rw [e2] at h
    dsimp only at h
    cases e3:pMore pl (r1.length+1) (.cons n .nil) r1 with
    | none=>rw [e3] at h;cases h
    | some y =>
     obtain ⟨ks',r2⟩:=y
     rw [e3] at h
     unfold pClose at h
     dsimp only at h
     by_cases c3:r2.head?=some 41
     ·rw [if_pos c3] at h
      cases h
      refine Yau g ?_ e3
      have:=g _ _ _ e2
      cases d<;>exact ⟨this,trivial⟩
     ·rw [if_neg c3] at h;cases h
 ·rw [if_neg c] at h
  cases h
theorem YeL {pb:PB} {d:Nat} (g:∀ r ks r',pb r=some (some ks,r')→Oks d ks):∀ r n r',pL pb r=some (n,r')→Ok (d+1) n:=by
 intro r n r' h
 have w:∀ {l w x:List Nat},okL l→(∀ c∈w,isWS c=true)→pW pb l w x=some (n,r')→Ok (d+1) n:=fun {l w x} hl hw h=>by
  unfold pW at h
  by_cases c:wordOk w=true
  ·rw [if_pos c] at h
   have hW:okW w:=by
    unfold wordOk at c
    rw [Bool.and_eq_true] at c
    exact ⟨of_decide_eq_true c.1,of_decide_eq_true c.2,hw⟩
   cases e:pb x with
   | none=>rw [e] at h;cases h
   | some z =>
    obtain ⟨b,r1⟩:=z
    rw [e] at h
    cases h
    cases b with
    | none=>exact ⟨hl,hW⟩
    | some ks=>exact ⟨hl,hW,g _ _ _ e⟩
  ·rw [if_neg c] at h;cases h
 have tw:∀ (x:List Nat),∀ c∈x.takeWhile isWS,isWS c=true:=fun x c hc=>List.all_eq_true.mp (List.all_takeWhile (l:=x) (p:=isWS)) c hc
 unfold pL at h
 by_cases c:(r.dropWhile isWS).head?=some 58
 ·rw [if_pos c] at h
  by_cases c1:labOk (r.takeWhile isWS)=true
  ·rw [if_pos c1] at h
   unfold labOk at c1
   rw [Bool.and_eq_true,Bool.and_eq_true] at c1
   exact w ⟨of_decide_eq_true c1.1.2,List.all_eq_true.mp c1.2⟩ (tw _) h
  ·rw [if_neg c1] at h;cases h
 ·rw [if_neg c] at h
  exact w ⟨Nat.zero_le _,by simp⟩ (tw _) h
theorem Ydi:∀ (d:Nat) r ks r',pbn d r=some (some ks,r')→Oks d ks
 | 0,r,ks,r',h=>YeK (pl:=fun _=>none) (fun _ _ _ h=>by cases h) h
 | d+1,r,ks,r',h=>YeK (YeL (Ydi d)) h
theorem parse_ok {t:List Nat} {n:Note} (h:parse t=some n):Ok 7 n:=by
 unfold parse at h
 cases e:pln 6 t with
 | none=>rw [e] at h;cases h
 | some z =>
  obtain ⟨m,r⟩:=z
  rw [e] at h
  cases r with
  | nil=>cases h;exact YeL (Ydi 6) _ _ _ e
  | cons a r=>cases h
end Rd
namespace Rd
def Stp (r:List Nat):Prop:=r=[]∨∃ c r',r=c::r'∧(c=41∨c=44)
theorem Stp.ws {r:List Nat} (h:Stp r):(∀ c,r.head?=some c→isWS c=false)∧r.head?≠some 58∧r.head?≠some 40:=by
 rcases h with rfl | ⟨c,r',rfl,rfl | rfl⟩
 ·exact ⟨(fun c h=>by cases h),by simp,by simp⟩
 ·exact ⟨(fun c h=>by cases h;decide),by simp,by simp⟩
 ·exact ⟨(fun c h=>by cases h;decide),by simp,by simp⟩
theorem Ydj {a r:List Nat} (h:∀ c∈a,isWS c=true) (hr:∀ c,r.head?=some c→isWS c=false):(a++r).takeWhile isWS=a∧(a++r).dropWhile isWS=r:=by
 have e:r.takeWhile isWS=[]∧r.dropWhile isWS=r:=by
  cases r with
  | nil=>exact ⟨rfl,rfl⟩
  | cons c r =>
   have:=hr c rfl
   exact ⟨List.takeWhile_cons_of_neg (by simp [this]),List.dropWhile_cons_of_neg (by simp [this])⟩
 rw [List.takeWhile_append_of_pos h,List.dropWhile_append_of_pos h,e.1,e.2]
 simp
theorem QF {w:List Nat} (h:okW w):wordOk w=true:=by
 unfold wordOk
 rw [decide_eq_true h.1,decide_eq_true h.2.1]
 rfl
theorem Ql {pb:PB} {l w r:List Nat} (hl:okL l) (hw:okW w) (hr:∀ c,r.head?=some c→isWS c=false) (h58:r.head?≠some 58):pL pb (head l w++r)=pPut l w (pb r):=by
 obtain ⟨e1,e2⟩:=Ydj hw.2.2 hr
 unfold pL head
 by_cases c:l=[]
 ·rw [if_pos c,e1,e2,if_neg h58]
  unfold pW
  rw [if_pos (QF hw),c]
 ·rw [if_neg c]
  have h1:∀ c,(58::(w++r)).head?=some c→isWS c=false:=fun c h=>by cases h;decide
  obtain ⟨e3,e4⟩:=Ydj (fun x hx=>small_ws (hl.2 x hx)) h1
  rw [List.append_assoc,List.cons_append,e3,e4,if_pos (show (58::(w++r)).head?=some 58 from rfl),if_pos,List.drop_succ_cons,List.drop_zero,e1,e2]
  ·unfold pW
   rw [if_pos (QF hw)]
  ·have h2:1≤l.length:=by
    cases l with
    | nil=>exact (c rfl).elim
    | cons x l=>simp
   unfold labOk
   rw [decide_eq_true h2,decide_eq_true hl.1,List.all_eq_true.mpr hl.2]
   rfl
def Notes.app:Notes→Notes→Notes
 | .nil,b=>b
 | .cons n r,b => .cons n (r.app b)
theorem Yav:∀ (a b:Notes) (n:Note),(a.snoc n).app b=a.app (.cons n b)
 | .nil,_,_=>rfl
 | .cons m r,b,n=>congrArg (Notes.cons m) (Yav r b n)
theorem YbE:∀ a:Notes,a.app .nil=a
 | .nil=>rfl
 | .cons m r=>congrArg (Notes.cons m) (YbE r)
theorem Yf6 {d:Nat} {n:Note} (h:Ok d n):∃ c r,txt n=c::r∧isWS c=true:=by
 have key:∀ {l w:List Nat},okL l→okW w→∃ c r,head l w=c::r∧isWS c=true:=fun {l w} hl hw=>by
  unfold head
  by_cases c:l=[]
  ·rw [if_pos c]
   match w,hw with
   | x::w,hw=>exact ⟨x,w,rfl,hw.2.2 x (by simp)⟩
  ·rw [if_neg c]
   match l,c,hl with
   | x::l,_,hl=>exact ⟨x,_,rfl,small_ws (hl.2 x (by simp))⟩
 cases n with
 | leaf l w =>
  have h':okL l∧okW w:=by cases d<;>exact h
  exact key h'.1 h'.2
 | node l w ks =>
  match d,h with
  | d+1,h =>
   obtain ⟨c,r,e,hc⟩:=key h.1 h.2.1
   exact ⟨c,r++40::(txts ks++[41]),by show head l w++_=_;rw [e];rfl,hc⟩
def tl:Notes→List Nat
 | .nil=>[]
 | .cons n r=>44::(txt n++tl r)
theorem YbF:∀ (n:Note) (ks:Notes),txts (.cons n ks)=txt n++tl ks
 | n,.nil=>by simp [txts,tl]
 | n,.cons m ks=>by
  show txt n++44::txts (.cons m ks)=txt n++44::(txt m++tl ks)
  rw [YbF m ks]
theorem Ydk {r:List Nat} (h:∃ r',r=41::r'):∀ ks:Notes,Stp (tl ks++r)
 | .nil=>by obtain ⟨r',rfl⟩:=h;exact .inr ⟨41,r',rfl,.inl rfl⟩
 | .cons n ks => .inr ⟨44,_,rfl,.inr rfl⟩
mutual
theorem Qm:∀ (d:Nat) (n:Note) (r:List Nat),Ok d n→Stp r→pln d (txt n++r)=some (n,r)
 | d,.leaf l w,r,h,hs=>by
  have h':okL l∧okW w:=by cases d<;>exact h
  obtain ⟨s1,s2,s3⟩:=hs.ws
  show pL (pbn d) (head l w++r)=_
  rw [Ql h'.1 h'.2 s1 s2]
  have:pbn d r=some (none,r):=by
   cases d<;>(show pB _ r=_;unfold pB;rw [if_neg s3])
  rw [this]
  rfl
 | 0,.node l w ks,r,h,hs=>h.elim
 | d+1,.node l w .nil,r,h,hs=>by
  obtain ⟨hl,hw,hk⟩:=h
  show pL (pbn (d+1)) ((head l w++40::(txts .nil++[41]))++r)=_
  rw [List.append_assoc,Ql hl hw (fun c h=>by cases h;decide) (by simp)]
  rfl
 | d+1,.node l w (.cons n ks),r,h,hs=>by
  obtain ⟨hl,hw,hk⟩:=h
  show pL (pbn (d+1)) ((head l w++40::(txts (.cons n ks)++[41]))++r)=_
  rw [List.append_assoc,Ql hl hw (fun c h=>by cases h;decide) (by simp),YbF]
  have e0:(40::(txt n++tl ks++[41]))++r=40::(txt n++(tl ks++41::r)):=by simp
  obtain ⟨c,x,ec,hc⟩:=Yf6 hk.1
  have e1:=Qm d n (tl ks++41::r) hk.1 (Ydk ⟨r,rfl⟩ ks)
  have e2:=Yaw d ks (41::r) hk.2 ⟨r,rfl⟩ (.cons n .nil) ((tl ks++41::r).length+1) (by omega)
  have e:pbn (d+1) (40::(txt n++(tl ks++41::r)))=some (some (.cons n ks),r):=by
   show pB (pln d) _=_
   unfold pB
   rw [if_pos (show (40::(txt n++(tl ks++41::r))).head?=some 40 from rfl),if_neg]
   ·show pIn (pln d) (txt n++(tl ks++41::r))=_
    unfold pIn
    rw [e1]
    dsimp only
    rw [e2]
    rfl
   ·show ¬ (txt n++(tl ks++41::r)).head?=some 41
    rw [ec]
    intro z
    have:c=41:=by simpa using z
    rw [this] at hc
    exact absurd hc (by decide)
  rw [e0,e]
  rfl
theorem Yaw:∀ (d:Nat) (ks:Notes) (r:List Nat),Oks d ks→(∃ r',r=41::r')→∀ (acc:Notes) (f:Nat),(tl ks++r).length<f→pMore (pln d) f acc (tl ks++r)=some (acc.app ks,r)
 | d,.nil,r,_,⟨r',hr⟩,acc,f,hf=>by
  match f,hf with
  | f+1,_ =>
   subst hr
   show pMore (pln d) (f+1) acc (41::r')=_
   rw [pMore,if_neg (by simp),YbE]
 | d,.cons n ks,r,h,hr,acc,f,hf=>by
  match f,hf with
  | f+1,hf =>
   have e0:tl (.cons n ks)++r=44::(txt n++(tl ks++r)):=by simp [tl]
   have e1:=Qm d n (tl ks++r) h.1 (Ydk hr ks)
   rw [e0] at hf ⊢
   rw [pMore,if_pos (show (44::(txt n++(tl ks++r))).head?=some 44 from rfl)]
   show (match pln d (txt n++(tl ks++r)) with
    | some (n,r')=>pMore (pln d) f (acc.snoc n) r'
    | none=>none)=_
   rw [e1]
   dsimp only
   rw [Yaw d ks r h.2 hr (acc.snoc n) f (by simp only [List.length_cons,List.length_append] at hf ⊢;omega),Yav]
end
theorem parse_txt {n:Note} (h:Ok 6 n):parse (txt n)=some n:=by
 have:=Qm 6 n [] h (.inl rfl)
 rw [List.append_nil] at this
 unfold parse
 rw [this]
 rfl
end Rd
inductive Mk
 | use | whole | text | row | many | rising | unlike | alike | pick
 deriving DecidableEq
def Mk.s:Mk→String
 | .use=>"use" | .whole=>"whole" | .text=>"text" | .row=>"row" | .many=>"many" | .rising=>"rising" | .unlike=>"unlike" | .alike=>"alike" | .pick=>"pick"
def ms (m:Mk):Str:=Str.ofString m.s
theorem Xu (m m':Mk):(ms m=ms m')=(m=m'):=by
 cases m<;>cases m'<;>simp only [eq_iff_iff,reduceCtorEq,iff_false,iff_true]<;>decide +kernel
theorem Ycm:Str.ofString "use"=ms .use:=rfl
theorem YbG:Str.ofString "whole"=ms .whole:=rfl
theorem Ydl:Str.ofString "text"=ms .text:=rfl
theorem YeM:Str.ofString "row"=ms .row:=rfl
theorem Ydm:Str.ofString "many"=ms .many:=rfl
theorem Yax:Str.ofString "rising"=ms .rising:=rfl
theorem Yay:Str.ofString "unlike"=ms .unlike:=rfl
theorem YbH:Str.ofString "alike"=ms .alike:=rfl
theorem Yaz:Str.ofString "pick"=ms .pick:=rfl
def mc (m:Mk):List Nat:=(ms m).cps.toList
theorem Xo (m:Mk):ms m=S (mc m):=by unfold mc S;simp
theorem Ydn {m m':Mk} (h:mc m=mc m'):m=m':=by
 have:ms m=ms m':=by rw [Xo,Xo,h]
 rwa [Xu] at this
theorem Xv (m:Mk):3≤(mc m).length∧(mc m).length≤6:=by cases m<;>decide +kernel
theorem Yf7 (x:V):inV x []=false:=rfl
theorem Yfk (a b:Mk) (l:List V):inV (.str (ms a)) (.str (ms b)::l)=(decide (b=a)||inV (.str (ms a)) l):=by
 have:eqV (.str (ms b)) (.str (ms a))=decide (b=a):=by
  have h:=Xu b a
  simp only [eqV]
  by_cases e:b=a
  ·subst e;simp
  ·have e':ms b≠ms a:=fun z=>e (h▸z)
   simp [e,e']
 rw [inV,List.any_cons,this]
 rfl
mutual
inductive Sh where
 | use (w:List Nat)
 | whole (i j:Int)
 | text (w:List Nat)
 | row (ks:Kids)
 | pick (ks:Kids)
 | one (m:Mk) (s:Sh)
 | alike (s:Sh) (t:Nat)
inductive Kids where
 | nil
 | cons (l:List Nat) (s:Sh) (r:Kids)
end
def Kids.list:Kids→List (List Nat×Sh)
 | .nil=>[]
 | .cons l s r=>(l,s)::r.list
def is1 (m:Mk):Prop:=m = .many∨m = .rising∨m = .unlike
instance (m:Mk):Decidable (is1 m):=by unfold is1;infer_instance
mutual
def dp:Sh→Nat
 | .use _=>0
 | .whole _ _=>0
 | .text _=>0
 | .row ks=>dps ks+1
 | .pick ks=>dps ks+1
 | .one _ s=>dp s+1
 | .alike s _=>dp s+1
def dps:Kids→Nat
 | .nil=>0
 | .cons _ s r=>max (dp s) (dps r)
end
mutual
def nt (l:List Nat):Sh→Rd.Note
 | .use w => .leaf l w
 | .whole i j => .node l (mc .whole) (.cons (.leaf [] (dg i)) (.cons (.leaf [] (dg j)) .nil))
 | .text w => .node l (mc .text) (.cons (.leaf [] w) .nil)
 | .row ks => .node l (mc .row) (nts ks)
 | .pick ks => .node l (mc .pick) (nts ks)
 | .one m s => .node l (mc m) (.cons (nt [] s) .nil)
 | .alike s t => .node l (mc .alike) (.cons (nt [] s) (.cons (.leaf [] (dg (t:Int))) .nil))
def nts:Kids→Rd.Notes
 | .nil => .nil
 | .cons l s r => .cons (nt l s) (nts r)
end
abbrev tt (s:Sh):List Nat:=Rd.txt (nt [] s)
mutual
def Gd:Sh→Prop
 | .use w=>Rd.labOk w=true
 | .whole i j=>i.natAbs<10^60∧j.natAbs<10^60
 | .text w=>1≤w.length∧w.length≤62∧w.all Rd.isLF=true
 | .row ks=>ks.list.length≤8∧GdR ks
 | .pick ks=>1≤ks.list.length∧ks.list.length≤10∧GdP ks
 | .one m s=>is1 m∧Gd s
 | .alike s t=>1≤t∧t≤6∧Gd s
def GdR:Kids→Prop
 | .nil=>True
 | .cons l s r=>l=[]∧Gd s∧GdR r
def GdP:Kids→Prop
 | .nil=>True
 | .cons l s r=>Rd.labOk l=true∧Gd s∧GdP r
end
mutual
def SA (H:Hp):Sh→V→Prop
 | .use w,v=>∃ a,v = .ref a∧H a=some (.tup [.str (ms .use),.str (S w)])
 | .whole i j,v=>∃ a,v = .ref a∧H a=some (.tup [.str (ms .whole),.int i,.int j])
 | .text w,v=>∃ a,v = .ref a∧H a=some (.tup [.str (ms .text),.str (S w)])
 | .row ks,v=>∃ a b vs,v = .ref a∧H a=some (.tup [.str (ms .row),.ref b])∧H b=some (.tup vs)∧KA H ks vs
 | .pick ks,v=>∃ a b vs,v = .ref a∧H a=some (.tup [.str (ms .pick),.ref b])∧H b=some (.tup vs)∧KB H ks vs
 | .one m s,v=>∃ a w,v = .ref a∧H a=some (.tup [.str (ms m),w])∧SA H s w
 | .alike s t,v=>∃ a w,v = .ref a∧H a=some (.tup [.str (ms .alike),w,.int (t:Nat)])∧SA H s w
def KA (H:Hp):Kids→List V→Prop
 | .nil,vs=>vs=[]
 | .cons _ s r,vs=>∃ v us,vs=v::us∧SA H s v∧KA H r us
def KB (H:Hp):Kids→List V→Prop
 | .nil,vs=>vs=[]
 | .cons l s r,vs=>∃ b w us,vs = .ref b::us∧H b=some (.tup [.str (S l),w])∧SA H s w∧KB H r us
end
def Tk (H H':Hp):Prop:=∀ (a:Addr) (ys:List V),H a=some (.tup ys)→H' a=some (.tup ys)
theorem Tk.trans {H H' H'':Hp} (a:Tk H H') (b:Tk H' H''):Tk H H'':=fun _ _ h=>b _ _ (a _ _ h)
theorem Tk.of {H H':Hp} (s:Same H H'):Tk H H':=fun _ _ h=>s _ _ h
mutual
theorem SA.keep {H H':Hp} (t:Tk H H'):∀ {s:Sh} {v:V},SA H s v→SA H' s v
 | .use _,_,⟨a,e,h⟩=>⟨a,e,t _ _ h⟩
 | .whole _ _,_,⟨a,e,h⟩=>⟨a,e,t _ _ h⟩
 | .text _,_,⟨a,e,h⟩=>⟨a,e,t _ _ h⟩
 | .row _,_,⟨a,b,vs,e,h1,h2,h3⟩=>⟨a,b,vs,e,t _ _ h1,t _ _ h2,KA.keep t h3⟩
 | .pick _,_,⟨a,b,vs,e,h1,h2,h3⟩=>⟨a,b,vs,e,t _ _ h1,t _ _ h2,KB.keep t h3⟩
 | .one _ _,_,⟨a,w,e,h1,h3⟩=>⟨a,w,e,t _ _ h1,SA.keep t h3⟩
 | .alike _ _,_,⟨a,w,e,h1,h3⟩=>⟨a,w,e,t _ _ h1,SA.keep t h3⟩
theorem KA.keep {H H':Hp} (t:Tk H H'):∀ {ks:Kids} {vs:List V},KA H ks vs→KA H' ks vs
 | .nil,_,e=>e
 | .cons _ _ _,_,⟨v,us,e,h1,h2⟩=>⟨v,us,e,SA.keep t h1,KA.keep t h2⟩
theorem KB.keep {H H':Hp} (t:Tk H H'):∀ {ks:Kids} {vs:List V},KB H ks vs→KB H' ks vs
 | .nil,_,e=>e
 | .cons _ _ _,_,⟨b,w,us,e,h0,h1,h2⟩=>⟨b,w,us,e,t _ _ h0,SA.keep t h1,KB.keep t h2⟩
end
theorem KA.iff {H:Hp}:∀ {ks:Kids} {vs:List V},KA H ks vs↔vs.length=ks.list.length∧∀ (i:Nat) v p,vs[i]?=some v→ks.list[i]?=some p→SA H p.2 v
 | .nil,vs=>by
  simp only [KA,Kids.list]
  constructor
  ·rintro rfl
   exact ⟨rfl,fun i v p h=>by simp at h⟩
  ·rintro ⟨h,_⟩
   exact List.length_eq_zero_iff.mp h
 | .cons l s r,vs=>by
  simp only [KA,Kids.list]
  constructor
  ·rintro ⟨v,us,rfl,h1,h2⟩
   obtain ⟨h3,h4⟩:=KA.iff.mp h2
   refine ⟨by simp [h3],fun i x p hx hp=>?_⟩
   match i with
   | 0=>cases hx;cases hp;exact h1
   | i+1=>exact h4 i x p (by simpa using hx) (by simpa using hp)
  ·rintro ⟨h1,h2⟩
   match vs,h1 with
   | v::us,h1=>exact ⟨v,us,rfl,h2 0 v _ rfl rfl,KA.iff.mpr ⟨by simpa using h1,fun i x p hx hp=>h2 (i+1) x p (by simpa using hx) (by simpa using hp)⟩⟩
theorem KB.iff {H:Hp}:∀ {ks:Kids} {vs:List V},KB H ks vs↔vs.length=ks.list.length∧∀ (i:Nat) v p,vs[i]?=some v→ks.list[i]?=some p→∃ b w,v = .ref b∧H b=some (.tup [.str (S p.1),w])∧SA H p.2 w
 | .nil,vs=>by
  simp only [KB,Kids.list]
  constructor
  ·rintro rfl
   exact ⟨rfl,fun i v p h=>by simp at h⟩
  ·rintro ⟨h,_⟩
   exact List.length_eq_zero_iff.mp h
 | .cons l s r,vs=>by
  simp only [KB,Kids.list]
  constructor
  ·rintro ⟨b,w,us,rfl,h0,h1,h2⟩
   obtain ⟨h3,h4⟩:=KB.iff.mp h2
   refine ⟨by simp [h3],fun i x p hx hp=>?_⟩
   match i with
   | 0=>cases hx;cases hp;exact ⟨b,w,rfl,h0,h1⟩
   | i+1=>exact h4 i x p (by simpa using hx) (by simpa using hp)
  ·rintro ⟨h1,h2⟩
   match vs,h1 with
   | v::us,h1 =>
    obtain ⟨b,w,rfl,h3,h4⟩:=h2 0 v _ rfl rfl
    exact ⟨b,w,us,rfl,h3,h4,KB.iff.mpr ⟨by simpa using h1,fun i x p hx hp=>h2 (i+1) x p (by simpa using hx) (by simpa using hp)⟩⟩
theorem U5 {ks:Kids} {p:List Nat×Sh}:p∈ks.list→dp p.2≤dps ks:=by
 induction ks using Kids.rec (motive_1:=fun _=>True) with
 | nil=>intro h;simp [Kids.list] at h
 | cons l s r _ ih =>
  intro h
  rcases List.mem_cons.mp h with rfl | h
  ·simp only [dps];omega
  ·have:=ih h
   simp only [dps];omega
 | _=>trivial
theorem GdR.mem {ks:Kids} {p:List Nat×Sh}:GdR ks→p∈ks.list→p.1=[]∧Gd p.2:=by
 induction ks using Kids.rec (motive_1:=fun _=>True) with
 | nil=>intro _ h;simp [Kids.list] at h
 | cons l s r _ ih =>
  rintro ⟨h1,h2,h3⟩ h
  rcases List.mem_cons.mp h with rfl | h
  ·exact ⟨h1,h2⟩
  ·exact ih h3 h
 | _=>trivial
theorem GdP.mem {ks:Kids} {p:List Nat×Sh}:GdP ks→p∈ks.list→Rd.labOk p.1=true∧Gd p.2:=by
 induction ks using Kids.rec (motive_1:=fun _=>True) with
 | nil=>intro _ h;simp [Kids.list] at h
 | cons l s r _ ih =>
  rintro ⟨h1,h2,h3⟩ h
  rcases List.mem_cons.mp h with rfl | h
  ·exact ⟨h1,h2⟩
  ·exact ih h3 h
 | _=>trivial
namespace Rd
end Rd
def Wc (w:List Nat):Bool:=w==[48]||(decide (1≤(if w.head?=some 45 then w.drop 1 else w).length)&&decide ((if w.head?=some 45 then w.drop 1 else w).length≤60) && !((if w.head?=some 45 then w.drop 1 else w).head?==some 48)&&(if w.head?=some 45 then w.drop 1 else w).all Rd.isFig)
theorem V9:∀ (k:Nat) (f:List Nat),f.length=k→1≤k→(∀ c∈f,48≤c∧c≤57)→(f.head?≠some 48∨k=1)→∃ n:Nat,dg (n:Int)=f∧n<10^k
 | 0,_,_,h,_,_=>by omega
 | 1,f,hl,_,hd,_=>by
  match f,hl with
  | [c],_ =>
   obtain ⟨h1,h2⟩:=hd c (by simp)
   have key:∀ d:Nat,d<10→dg (d:Int)=[48+d]:=by
    intro d hd
    rw [Wn,Nat.toDigits_of_lt_base hd]
    have:∀ d:Nat,d<10→(Nat.digitChar d).toNat=48+d:=by decide
    rw [List.map_cons,List.map_nil,this d hd]
   refine ⟨c - 48,?_,by omega⟩
   rw [key (c - 48) (by omega)]
   congr 1
   omega
 | k+2,f,hl,_,hd,hh=>by
  have hne:f≠[]:=by intro z;rw [z] at hl;simp at hl
  obtain ⟨g,c,rfl⟩:∃ g c,f=g++[c]:=⟨f.dropLast,f.getLast hne,(List.dropLast_concat_getLast hne).symm⟩
  rw [List.length_append,List.length_singleton] at hl
  have hg:g.head?≠some 48:=by
   rcases hh with hh | hh
   ·cases g with
    | nil=>simp
    | cons x g=>exact hh
   ·omega
  obtain ⟨n,e,hn⟩:=V9 (k+1) g (by omega) (by omega) (fun x hx=>hd x (by simp [hx])) (.inl hg)
  obtain ⟨h1,h2⟩:=hd c (by simp)
  have hn0:0<n:=by
   rcases Nat.eq_zero_or_pos n with z | z
   ·subst z
    have e0:dg ((0:Nat):Int)=[48]:=by decide +kernel
    rw [e0] at e
    rw [← e] at hg
    exact (hg rfl).elim
   ·exact z
  refine ⟨10*n+(c - 48),?_,?_⟩
  ·rw [Wn,← Nat.toDigits_append_toDigits (by decide) hn0 (by omega),List.map_append,← Wn,e,Nat.toDigits_of_lt_base (by omega)]
   have:∀ d:Nat,d<10→(Nat.digitChar d).toNat=48+d:=by decide
   rw [List.map_cons,List.map_nil,this _ (by omega)]
   congr 2
   omega
  ·rw [Nat.pow_succ]
   omega
theorem figs {f:List Nat} (h:f.all Rd.isFig=true):∀ c∈f,48≤c∧c≤57:=fun c hc=>by
 have:=List.all_eq_true.mp h c hc
 simpa [Rd.isFig] using this
theorem YbI {w:List Nat} (h:Wc w=true):∃ i:Int,w=dg i∧i.natAbs<10^60:=by
 unfold Wc at h
 rcases (Bool.or_eq_true _ _).mp h with h | h
 ·have e:w=[48]:=by simpa using h
  refine ⟨0,?_,by decide⟩
  rw [e]
  decide +kernel
 ·simp only [Bool.and_eq_true,decide_eq_true_eq,Bool.not_eq_true',beq_eq_false_iff_ne] at h
  obtain ⟨⟨⟨h1,h2⟩,h3⟩,h4⟩:=h
  by_cases c:w.head?=some 45
  ·rw [if_pos c] at h1 h2 h3 h4
   obtain ⟨n,e,hn⟩:=V9 _ _ rfl h1 (figs h4) (.inl h3)
   have hn0:0<n:=by
    rcases Nat.eq_zero_or_pos n with z | z
    ·subst z
     have e0:dg ((0:Nat):Int)=[48]:=by decide +kernel
     rw [e0] at e
     rw [← e] at h3
     exact (h3 rfl).elim
    ·exact z
   refine ⟨-(n:Int),?_,?_⟩
   ·rw [V5 hn0,e]
    exact Rd.hd_eq c
   ·rw [Int.natAbs_neg,Int.natAbs_natCast]
    exact Nat.lt_of_lt_of_le hn (Nat.pow_le_pow_right (by decide) h2)
  ·rw [if_neg c] at h1 h2 h3 h4
   obtain ⟨n,e,hn⟩:=V9 _ _ rfl h1 (figs h4) (.inl h3)
   refine ⟨(n:Int),e.symm,?_⟩
   rw [Int.natAbs_natCast]
   exact Nat.lt_of_lt_of_le hn (Nat.pow_le_pow_right (by decide) h2)
def Z20 (K:PySem.W.Frag):Sp:=fun vs H Q _=>∃ w:List Nat,vs=[.str (S w)]∧w.length≤1000∧∀ H',Same H H'→Q (.bl (Wc w)) H'
theorem sw45 (w:List Nat):Txt.startswith (S w) (S [45])=decide (w.head?=some 45):=by
 cases w with
 | nil=>decide +kernel
 | cons a l =>
  have:Txt.startswith (S (a::l)) (S [45])=decide (a=45):=by
   simp [Txt.startswith,Builtin.Str.subAt,S,Str.length]
   rfl
  rw [this]
  simp
theorem Z3K {k:Nat} {Z1 Z2 Z3 Z6 Z4 Z5 Z0:Addr} (R:g.Raw "is_number_word" "is_number_word" Z0T ["word"]) (F_is_figure:g.Fn k "is_figure" ["sign"] (Rd.spSign Rd.isFig)) (b_all:g.mg "all"=none) (b_len:g.mg "len"=none) (Z30:g.Con "MOST_FIGURES" (.int 60)):g.Fn (k+1) "is_number_word" ["word"] (Z20 g.K):=by
 refine R.fn Z1X (fun vs H Q E h=>by obtain ⟨w,rfl,hl,q⟩:=h;rfl) fun f_ cdv A outer s H vs Q E hr h=>?_
 obtain ⟨w,rfl,hl,q⟩:=h
 refine ⟨_,(@Yc _ _ _ _ _ (@Yp _ _ _ _ _ _ _ _ (@Yk _ _ _ _ _ _ _ _ YF (pv 0) Yg (Yo _)) (@Yd _ _ _ (@Yj _ _ _ _ X6)) Yi) (@Yc _ _ _ _ _ (@Yv _ _ (1) _ _ _ _ Z1X.nd rfl (.inl rfl) (@YdH _ _ _ _ _ _ _ _ (@YU _ _ _ (@Xx _ _ _ _ _ _ _ _ _ _ _ _ PySem.F.plainAttrs_str PySem.F.slot_str_startswith PySem.F.type_str_startswith Yc4 (pv 0) (@Ya _ _ _ _ _ Yg Yb (by rfl)) (by rfl) (by rfl) (by rfl) (by rfl) (by rfl)) (by intro _;rfl)) (@X9 _ _ _ _ _ _ _ _ _ _ WS (pv 0) (@XW _ _ _ Yf) Vf) (pv 0)) (by rfl) (by first | exact .inl rfl | exact .inr rfl | assumption)) (@Yc _ _ _ _ _ (@Yp _ _ _ _ _ _ _ _ (@Y7 _ _ _ _ (@Vu _ _ _ _ _ _ _ _ _ _ _ _ Wy Wy Yf (@YL _ _ _ _ _ _ _ _ _ _ b_len Xl (@Ya _ _ _ _ _ (pv 1) Yb (by rfl)) (by decide +kernel) (by rfl) (by rfl) (by decide) (by decide) (by rfl) (by rfl)) (@WI _ _ _ _ _ Z30 (by rfl) (by rfl) (by decide)) (by with_unfolding_all rfl))) (@Yd _ _ _ (@Yj _ _ _ _ X6)) Yi) (@Yd _ _ _ (@Yj _ _ _ _ (@X2 _ _ _ _ _ _ _ (@XV _ _ _ _ _ _ _ _ Uk (@Ym _ _ _ _ _ _ _ UN (pv 1) Yf (fun _ _=>rfl)) Yg (Yo _)) (@X1 _ _ _ _ _ (@YL _ _ _ _ _ _ _ _ _ _ b_all (XX rfl) (@Ya _ _ _ _ _ (@XG _ _ _ _ _ _ _ ([none]) ((["sign"]:List Str)) _ (Ys 0) _ _ (.own .nil) rfl (@VZ _ _ _ _ (pv 1)) (fun cl C s₀ H₀ fp pn=>(@Yq _ _ (0) _ (show List.Nodup (["sign"]:List Str) by decide +kernel) rfl (.inl rfl) (.inr rfl))) (fun cl C s₀ H₀ fp pn=>Y0) (fun cl C s₀ H₀ fp pn=>(@YE _ _ _ _ _ _ _ _ _ _ _ _ F_is_figure hr (@Ya _ _ _ _ _ (pv 0) Yb (by rfl)) (by omega) (by rfl) (by rfl) (by decide) (by rfl) (by rfl))) (by intro x hx;simp at hx) (by rfl) (by decide) (by decide +kernel) (by intro _;rfl)) Yb (by rfl)) (by decide +kernel) (by rfl) (by rfl) (by decide) (by decide) (by rfl) (by rfl))))))))),?_⟩
 have e0:Str.ofString "0"=S [48]:=by decide +kernel
 have em:Str.ofString "-"=S [45]:=by decide +kernel
 have hsw:=Yw w
 by_cases hz:w=[48]
 ·subst hz
  have hq:=q H (.refl _)
  rw [show Wc [48]=true by decide] at hq
  walk_at "rd"
  exact Xb e0.symm hq
 have hnz:Wc w=(decide (1≤(if w.head?=some 45 then w.drop 1 else w).length)&&decide ((if w.head?=some 45 then w.drop 1 else w).length≤60) && !((if w.head?=some 45 then w.drop 1 else w).head?==some 48)&&(if w.head?=some 45 then w.drop 1 else w).all Rd.isFig):=by
  unfold Wc
  rw [show (w==[48])=false by simpa using hz,Bool.false_or]
 refine UA (fun σ H'=>σ=[some (.str (S w)),some (.str (S (if w.head?=some 45 then w.drop 1 else w)))]∧H'=H) ?_ ?_
 ·rintro σ H' ⟨rfl,rfl⟩
  have hfl:(if w.head?=some 45 then w.drop 1 else w).length≤1000:=by
   split
   ·rw [List.length_drop];omega
   ·exact hl
  generalize (if w.head?=some 45 then w.drop 1 else w)=f at hnz hfl
  have hsf:=Yw f
  walk_at "rd"
  refine ⟨few (by omega),YG (fun c1=>YG (fun c2=>?_) fun c2=>?_) fun c1=>?_⟩
  ·have hq:=q H' (.refl _)
   rw [hnz,show decide (f.length≤60)=false from decide_eq_false (by omega)] at hq
   simpa using hq
  ·match f,hsf,c1,c2,hnz,hfl with
   | c::r,hsf,c1,c2,hnz,hfl =>
    refine ⟨_,0,c,rfl,rfl,few (by omega),?_,rfl,YG (fun cz=>?_) fun cz=>?_⟩
    ·rw [YV]
     exact YC (xs:=c::r) (j:=0) rfl
    ·have hc:c≠48:=fun z=>cz (by rw [z,e0];rfl)
     refine Ybw (l:=c::r) (((c::r).map Rd.isFig).map V.bl) (fun R r=>by walk_at "rd";exact r) (by simp) (by simp at hfl ⊢;omega) ?_ ?_
     ·intro j d y H1 hd hy sm R rr
      rw [List.getElem?_map,List.getElem?_map,hd] at hy
      have:V.bl (Rd.isFig d)=y:=Option.some.inj hy
      subst this
      walk_at "rd"
      refine ⟨[d],rfl,by simp,?_⟩
      rw [show ([d]:List Nat).any Rd.isFig=Rd.isFig d by simp]
      exact rr H1 (.refl _)
     ·intro D H1 hD sm hd
      refine ⟨D,rfl,_,SqL.of hd,?_⟩
      have hq:=q H1 sm
      rw [hnz,show decide (1≤(c::r).length)=true from decide_eq_true (by omega),show decide ((c::r).length≤60)=true from decide_eq_true (by omega),show ((c::r).head?==some 48)=false by simpa using hc] at hq
      rw [show ((c::r).map Rd.isFig).all id=(c::r).all Rd.isFig by rw [List.all_map];rfl]
      simpa using hq
    ·have hc:c=48:=by
      have cz':V.str ⟨#[c]⟩=V.str (Str.ofString "0"):=Classical.not_not.mp cz
      rw [e0] at cz'
      injection cz' with cz'
      have:=Xi (a:=[c]) (b:=[48]) cz'
      simpa using this
     have hq:=q H' (.refl _)
     rw [hnz,show ((c::r).head?==some 48)=true by simpa using hc] at hq
     simpa using hq
  ·have hq:=q H' (.refl _)
   rw [hnz,show decide (1≤f.length)=false from decide_eq_false (by omega)] at hq
   simpa using hq
 ·intro N hN
  walk_at "rd"
  refine YH (fun z=>hz ?_) ⟨rfl,_,_,rfl,rfl,?_⟩
  ·rw [e0] at z
   exact Xi z
  ·rw [em,sw45]
   refine ⟨_,rfl,?_⟩
   by_cases c:w.head?=some 45
   ·rw [decide_eq_true c]
    rw [if_pos c] at hN
    refine Xb rfl ⟨_,rfl,few (by omega),?_⟩
    have:=Ybt w 1
    rw [show ((1:Nat):Int)=1 from rfl] at this
    rw [this]
    exact hN _ _ ⟨rfl,rfl⟩
   ·rw [decide_eq_false c]
    rw [if_neg c] at hN
    exact YH (by decide) (hN _ _ ⟨rfl,rfl⟩)
namespace Rd
def Notes.list:Notes→List Note
 | .nil=>[]
 | .cons n r=>n::r.list
theorem Notes.len_list:∀ ks:Notes,ks.list.length=ks.len
 | .nil=>rfl
 | .cons _ r=>congrArg (·+1) r.len_list
theorem NotesAt.iff {H:Hp}:∀ {ks:Notes} {vs:List V},NotesAt H ks vs↔vs.length=ks.len∧∀ (i:Nat) v n,vs[i]?=some v→ks.list[i]?=some n→NoteAt H n v
 | .nil,vs=>by
  simp only [NotesAt,Notes.list,Notes.len]
  constructor
  ·rintro rfl
   exact ⟨rfl,fun i v p h=>by simp at h⟩
  ·rintro ⟨h,_⟩
   exact List.length_eq_zero_iff.mp h
 | .cons n r,vs=>by
  simp only [NotesAt,Notes.list,Notes.len]
  constructor
  ·rintro ⟨v,us,rfl,h1,h2⟩
   obtain ⟨h3,h4⟩:=NotesAt.iff.mp h2
   refine ⟨by simp [h3],fun i x p hx hp=>?_⟩
   match i with
   | 0=>cases hx;cases hp;exact h1
   | i+1=>exact h4 i x p (by simpa using hx) (by simpa using hp)
  ·rintro ⟨h1,h2⟩
   match vs,h1 with
   | v::us,h1=>exact ⟨v,us,rfl,h2 0 v _ rfl rfl,NotesAt.iff.mpr ⟨by simpa using h1,fun i x p hx hp=>h2 (i+1) x p (by simpa using hx) (by simpa using hp)⟩⟩
theorem Oks.mem {d:Nat}:∀ {ks:Notes} {n:Note},Oks d ks→n∈ks.list→Ok d n
 | .cons m r,n,h,hn=>by
  rcases List.mem_cons.mp hn with rfl | hn
  ·exact h.1
  ·exact Oks.mem h.2 hn
 | .nil,n,_,hn=>by cases hn
theorem NoteAt.same {H H':Hp} (s:Same H H') {n:Note} {v:V} (h:NoteAt H n v):NoteAt H' n v:=h.keep fun b xs e=>s b _ e
theorem NotesAt.same {H H':Hp} (s:Same H H') {n:Notes} {v:List V} (h:NotesAt H n v):NotesAt H' n v:=h.keep fun b xs e=>s b _ e
def Note.un:Note→Note
 | .leaf _ w => .leaf [] w
 | .node _ w ks => .node [] w ks
theorem Ok.un {d:Nat} {n:Note} (h:Ok d n):Ok d n.un:=by
 cases n with
 | leaf l w =>
  have h':okL l∧okW w:=by cases d<;>exact h
  cases d<;>exact ⟨⟨Nat.zero_le _,fun c h=>by cases h⟩,h'.2⟩
 | node l w ks =>
  match d,h with
  | d+1,h=>exact ⟨⟨Nat.zero_le _,fun c h=>by cases h⟩,h.2⟩
theorem Ok.wd {d:Nat} {l w:List Nat} (h:Ok d (.leaf l w)):w.length≤62∧l.length≤8:=by
 have h':okL l∧okW w:=by cases d<;>exact h
 exact ⟨h'.2.2.1,h'.1.1⟩
end Rd
def Wo:Rd.Note→Option Int
 | .leaf [] w=>if Wc w=true then intText? (S w) else none
 | _=>none
theorem Ua {n:Rd.Note} {i:Int} (h:Wo n=some i):∃ w,n = .leaf [] w∧w=dg i∧i.natAbs<10^60∧Wc w=true:=by
 match n,h with
 | .leaf [] w,h =>
  rw [Wo] at h
  by_cases c:Wc w=true
  ·rw [if_pos c] at h
   obtain ⟨j,e,hj⟩:=YbI c
   rw [e,Yah (Nat.lt_trans hj (by decide +kernel))] at h
   cases h
   exact ⟨w,rfl,e,hj,c⟩
  ·rw [if_neg c] at h;cases h
theorem YaA {w:List Nat} {i:Int} (h:Wc w=true) (e:w=dg i) (hi:i.natAbs<10^60):Wo (.leaf [] w)=some i:=by
 rw [Wo,if_pos h,e]
 exact Yah (Nat.lt_trans hi (by decide +kernel))
def dWh:Rd.Notes→Option Sh
 | .cons a (.cons b .nil)=>match Wo a,Wo b with
  | some i,some j=>some (.whole i j)
  | _,_=>none
 | _=>none
def dTx:Rd.Notes→Option Sh
 | .cons (.leaf [] w) .nil=>if w.all Rd.isLF=true then some (.text w) else none
 | _=>none
def YaB:Rd.Notes→Option Int
 | .cons _ (.cons b _)=>Wo b
 | _=>none
def dAl (k:Nat):Option Int→Option Sh→Option Sh
 | some t,some s=>if k=2∧1≤t∧t≤6 then some (.alike s t.toNat) else none
 | _,_=>none
def put (l:List Nat):Option Sh→Option Kids→Option Kids
 | some s,some r=>some (.cons l s r)
 | _,_=>none
mutual
def dn:Rd.Note→Option Sh
 | .leaf _ w=>if Rd.labOk w=true then some (.use w) else none
 | .node _ w ks =>
  if w=mc .whole then dWh ks
  else if w=mc .text then dTx ks
  else if w=mc .row then (if ks.len≤8 then (dks ks).map .row else none)
  else if w=mc .many then (if ks.len=1 then (dhd ks).map (.one .many) else none)
  else if w=mc .rising then (if ks.len=1 then (dhd ks).map (.one .rising) else none)
  else if w=mc .unlike then (if ks.len=1 then (dhd ks).map (.one .unlike) else none)
  else if w=mc .alike then dAl ks.len (YaB ks) (dhd ks)
  else if w=mc .pick then (if 1≤ks.len∧ks.len≤10 then (dbs ks).map .pick else none)
  else none
def dhd:Rd.Notes→Option Sh
 | .nil=>none
 | .cons n _=>if n.lab=[] then dn n else none
def dks:Rd.Notes→Option Kids
 | .nil=>some .nil
 | .cons n r=>put [] (if n.lab=[] then dn n else none) (dks r)
def dbs:Rd.Notes→Option Kids
 | .nil=>some .nil
 | .cons n r=>put n.lab (if n.lab=[] then none else dn n) (dbs r)
end
def dl (n:Rd.Note):Option Sh:=if n.lab=[] then dn n else none
def db (n:Rd.Note):Option Sh:=if n.lab=[] then none else dn n
theorem YeN (n:Rd.Note):dl n.un=dn n:=by
 cases n<;>simp [dl,Rd.Note.un,Rd.Note.lab,dn]
theorem YaC {n:Rd.Note}:∀ {ks:Rd.Notes},n∈ks.list→dl n=none→dks ks=none
 | .cons m r,h,e=>by
  rw [dks]
  rcases List.mem_cons.mp h with rfl | h
  ·rw [show (if n.lab=[] then dn n else none)=none from e];rfl
  ·rw [YaC h e]
   cases (if m.lab=[] then dn m else none)<;>rfl
 | .nil,h,_=>by cases h
theorem YaD {n:Rd.Note}:∀ {ks:Rd.Notes},n∈ks.list→db n=none→dbs ks=none
 | .cons m r,h,e=>by
  rw [dbs]
  rcases List.mem_cons.mp h with rfl | h
  ·rw [show (if n.lab=[] then none else dn n)=none from e];rfl
  ·rw [YaD h e]
   cases (if m.lab=[] then none else dn m)<;>rfl
 | .nil,h,_=>by cases h
theorem YaE {H:Hp}:∀ {ks:Rd.Notes} {ys:List V},ys.length=ks.len→(∀ (i:Nat) y n,ys[i]?=some y→ks.list[i]?=some n→∃ s,dl n=some s∧SA H s y)→∃ k,dks ks=some k∧KA H k ys
 | .nil,ys,h,_=>⟨.nil,rfl,List.length_eq_zero_iff.mp h⟩
 | .cons n r,ys,h,hs=>by
  match ys,h with
  | y::ys,h =>
   obtain ⟨s,e1,h1⟩:=hs 0 y n rfl rfl
   obtain ⟨k,e2,h2⟩:=YaE (ks:=r) (ys:=ys) (by simpa [Rd.Notes.len] using h) fun i y n a b=>hs (i+1) y n (by simpa using a) (by simpa [Rd.Notes.list] using b)
   refine ⟨.cons [] s k,?_,y,ys,rfl,h1,h2⟩
   rw [dks,show (if n.lab=[] then dn n else none)=some s from e1,e2]
   rfl
theorem YaF {H:Hp}:∀ {ks:Rd.Notes} {ys:List V},ys.length=ks.len→(∀ (i:Nat) y n,ys[i]?=some y→ks.list[i]?=some n→∃ s b w,db n=some s∧y = .ref b∧H b=some (.tup [.str (S n.lab),w])∧SA H s w)→∃ k,dbs ks=some k∧KB H k ys
 | .nil,ys,h,_=>⟨.nil,rfl,List.length_eq_zero_iff.mp h⟩
 | .cons n r,ys,h,hs=>by
  match ys,h with
  | y::ys,h =>
   obtain ⟨s,b,w,e1,rfl,h0,h1⟩:=hs 0 y n rfl rfl
   obtain ⟨k,e2,h2⟩:=YaF (ks:=r) (ys:=ys) (by simpa [Rd.Notes.len] using h) fun i y n a b=>hs (i+1) y n (by simpa using a) (by simpa [Rd.Notes.list] using b)
   refine ⟨.cons n.lab s k,?_,b,w,ys,rfl,h0,h1,h2⟩
   rw [dbs,show (if n.lab=[] then none else dn n)=some s from e1,e2]
   rfl
def Z29 (CN:Addr):Sp:=fun vs H Q E=>∃ (n:Rd.Note) (v:V),vs=[v]∧Rd.NoteAt H n v∧(∀ w,n = .leaf [] w→Q (.str (S w)) H)∧((∀ w,n ≠ .leaf [] w)→E (.ref CN) none H)
theorem YaG {Z1 Z2 Z3 Z6 Z4 Z5 Z0:Addr} (R:g.Raw "lone_word" "lone_word" Z2w ["note"]) (x_NoNote:g.mg "NoNote"=some (.ref Z2)) (r_NoNote:PySem.W.excIn g.K Z2 YY "ValueError.__new__"=true):g.FnX (1) "lone_word" ["note"] (Z29 Z2):=by
 refine R.fnX Yal (fun vs H Q E h=>by obtain ⟨n,v,rfl,hv,q,qe⟩:=h;rfl) fun f_ cdv A outer s H vs Q E hr h=>?_
 obtain ⟨n,v,rfl,hv,q,qe⟩:=h
 refine ⟨_,(@Yc _ _ _ _ _ (@Yp _ _ _ _ _ _ _ _ (@Uj _ _ _ _ _ _ _ (@Yk _ _ _ _ _ _ _ _ Uk (@Ym _ _ _ _ _ _ _ Yn (pv 0) Yf (fun _ _=>rfl)) Yg (Yo _)) (@Vc _ _ _ _ (@Yk _ _ _ _ _ _ _ _ YeT (@Ym _ _ _ _ _ _ _ Yn (pv 0) Yf (fun _ _=>rfl)) VU (Yo _)))).pt (@Yd _ _ _ (@YN _ _ _ _ _ _ _ _ _ _ _ ⟨x_NoNote,r_NoNote⟩ YX (@Ya _ _ _ _ _ Yg Yb (by rfl)) (by rfl) (by rfl) (by rfl) (by decide) (by rfl) (by rfl))) Yi) (@Yd _ _ _ (PS.nox (@Yj _ _ _ _ (@Ym _ _ _ _ _ _ _ Yn (pv 0) Yf (fun _ _=>rfl)))))),?_⟩
 have e0:Str.ofString ""=S []:=by decide +kernel
 cases n with
 | leaf l w =>
  obtain ⟨a,rfl,ha⟩:=hv
  walk_at "rd"
  refine ⟨_,SqT.of ha,_,rfl,rfl,YG (fun c=>⟨few (by decide),qe fun w' z=>?_⟩) fun c=>⟨_,SqT.of ha,_,rfl,YH (by simp) ⟨_,SqT.of ha,_,rfl,q w ?_⟩⟩⟩
  ·cases z
   exact c (by rw [e0])
  ·have:S l=S []:=by rw [← e0];exact Classical.byContradiction fun z=>c fun y=>z (V.str.inj y)
   rw [Xi this]
 | node l w ks =>
  obtain ⟨a,b,us,rfl,ha,hb,hn⟩:=hv
  walk_at "rd"
  refine ⟨_,SqT.of ha,_,rfl,rfl,YG (fun c=>⟨few (by decide),qe fun w' z=>?_⟩) fun c=>⟨_,SqT.of ha,_,rfl,Xb (by simp) ⟨few (by decide),qe fun w' z=>?_⟩⟩⟩
  ·cases z
  ·cases z
def Zq (CN:Addr):Sp:=fun vs H Q E=>∃ (b:Addr) (us:List V) (lo hi:Int),vs=[.ref b,.int lo,.int hi]∧H b=some (.tup us)∧(lo≤us.length∧(us.length:Int)≤hi→Q .non H)∧(¬ (lo≤us.length∧(us.length:Int)≤hi)→E (.ref CN) none H)
theorem Z2C {Z1 Z2 Z3 Z6 Z4 Z5 Z0:Addr} (R:g.Raw "refuse_other_length" "refuse_other_length" Z0n ["notes","least","most"]) (b_len:g.mg "len"=none) (x_NoNote:g.mg "NoNote"=some (.ref Z2)) (r_NoNote:PySem.W.excIn g.K Z2 YY "ValueError.__new__"=true):g.FnX (1) "refuse_other_length" ["notes","least","most"] (Zq Z2):=by
 refine R.fnX Z2x (fun vs H Q E h=>by obtain ⟨b,us,lo,hi,rfl,hb,q,qe⟩:=h;rfl) fun f_ cdv A outer s H vs Q E hr h=>?_
 obtain ⟨b,us,lo,hi,rfl,hb,q,qe⟩:=h
 refine ⟨_,(@Yd _ _ _ (@Yp _ _ _ _ _ _ _ _ (@Y7 _ _ _ _ (@Vu _ _ _ _ _ _ _ _ _ _ _ _ Wy Wy (pv 1) (@YL _ _ _ _ _ _ _ _ _ _ b_len YW (@Ya _ _ _ _ _ (pv 0) Yb (by rfl)) (by decide +kernel) (by rfl) (by rfl) (by decide) (by decide) (by rfl) (by rfl)) (pv 2) (by with_unfolding_all rfl))) (@Yd _ _ _ (@YN _ _ _ _ _ _ _ _ _ _ _ ⟨x_NoNote,r_NoNote⟩ YX (@Ya _ _ _ _ _ Yg Yb (by rfl)) (by rfl) (by rfl) (by rfl) (by decide) (by rfl) (by rfl))) Yi)),?_⟩
 walk_at "rd"
 exact ⟨_,.inr (SqT.of hb),YG (fun c1=>YG (fun c2=>⟨few (by decide),qe (by omega)⟩) fun c2=>q (by omega)) fun c1=>⟨few (by decide),qe (by omega)⟩⟩
def Z0K (K:PySem.W.Frag) (CN:Addr):Sp:=fun vs H Q E=>∃ (n:Rd.Note) (v:V) (d:Nat),vs=[v]∧Rd.NoteAt H n v∧Rd.Ok d n∧(∀ i H',Same H H'→Wo n=some i→Q (.int i) H')∧(Wo n=none→∀ H',Same H H'→E (.ref CN) none H')
theorem Z3L {k:Nat} {Z1 Z2 Z3 Z6 Z4 Z5 Z0:Addr} (R:g.Raw "number_drafted" "number_drafted" Z0U ["note"]) (Z4f:g.Fn k "is_number_word" ["word"] (Z20 g.K)) (Z2D:g.FnX k "lone_word" ["note"] (Z29 Z2)) (b_int:g.mg "int"=none) (x_NoNote:g.mg "NoNote"=some (.ref Z2)) (r_NoNote:PySem.W.excIn g.K Z2 YY "ValueError.__new__"=true):g.FnX (k+1) "number_drafted" ["note"] (Z0K g.K Z2):=by
 refine R.fnX Z1Y (fun vs H Q E h=>by obtain ⟨n,v,d,rfl,hv,hok,q,qe⟩:=h;rfl) fun f_ cdv A outer s H vs Q E hr h=>?_
 obtain ⟨n,v,d,rfl,hv,hok,q,qe⟩:=h
 refine ⟨_,(@Yc _ _ _ _ _ (@Yv _ _ (1) _ _ _ _ Z1Y.nd rfl (.inl rfl) (@YI _ _ _ _ _ _ _ _ _ _ _ _ _ Z2D hr YS (@Ya _ _ _ _ _ (pv 0) Yb (by rfl)) (by omega) (by rfl) (by rfl) (by decide) (by rfl) (by rfl)) (by rfl) (by first | exact .inl rfl | exact .inr rfl | assumption)) (@Yc _ _ _ _ _ (@Yp _ _ _ _ _ _ _ _ (@Y7 _ _ _ _ (@YU _ _ _ (@YE _ _ _ _ _ _ _ _ _ _ _ _ Z4f hr (@Ya _ _ _ _ _ (pv 1) Yb (by rfl)) (by omega) (by rfl) (by rfl) (by decide) (by rfl) (by rfl)) (by intro _;rfl))) (@Yd _ _ _ (@YN _ _ _ _ _ _ _ _ _ _ _ ⟨x_NoNote,r_NoNote⟩ YX (@Ya _ _ _ _ _ Yg Yb (by rfl)) (by rfl) (by rfl) (by rfl) (by decide) (by rfl) (by rfl))) Yi) (@Yd _ _ _ (PS.nox (@Yj _ _ _ _ (@Xy _ _ _ _ _ _ _ _ _ _ b_int QL (@Ya _ _ _ _ _ (pv 1) Yb (by rfl)) (by decide +kernel) (by rfl) (by rfl) (by decide) (by decide) (by rfl) (by rfl))))))),?_⟩
 walk_at "rd"
 refine ⟨n,v,rfl,hv,fun w e=>?_,fun e=>qe ?_ H (.refl _)⟩
 ·subst e
  have hwl:=hok.wd.1
  refine ⟨w,rfl,by omega,fun H1 s1=>⟨_,rfl,?_⟩⟩
  refine YG (fun c=>⟨few (by decide),qe ?_ H1 s1⟩) fun c=>?_
  ·rw [Wo,if_neg (by rw [c];decide)]
  ·have hb:Wc w=true:=by
    cases z:Wc w with
    | true=>rfl
    | false=>exact (c z).elim
   obtain ⟨i,e,hi⟩:=YbI hb
   exact ⟨_,rfl,i,by rw [e];exact Yah (Nat.lt_trans hi (by decide +kernel)),by rw [Yw];omega,q i H1 s1 (YaA hb e hi)⟩
 ·cases z:Wo n with
  | none=>rfl
  | some i =>
   obtain ⟨w,e1,_⟩:=Ua z
   exact (e w e1).elim
def Z2S (CN:Addr):Sp:=fun vs H Q E=>∃ w:List Nat,vs=[.str (S w)]∧w.length≤1000∧(∀ v H',Rd.labOk w=true→Same H H'→SA H' (.use w) v→Q v H')∧(Rd.labOk w=false→∀ H',Same H H'→E (.ref CN) none H')
theorem Z4W {k:Nat} {Z1 Z2 Z3 Z6 Z4 Z5 Z0:Addr} (R:g.Raw "use_drafted" "use_drafted" Z1N ["name"]) (Z1d:g.Fn k "is_label" ["text"] (Rd.spLabel)) (x_NoNote:g.mg "NoNote"=some (.ref Z2)) (r_NoNote:PySem.W.excIn g.K Z2 YY "ValueError.__new__"=true):g.FnX (k+1) "use_drafted" ["name"] (Z2S Z2):=by
 refine R.fnX Z4U (fun vs H Q E h=>by obtain ⟨w,rfl,hl,q,qe⟩:=h;rfl) fun f_ cdv A outer s H vs Q E hr h=>?_
 obtain ⟨w,rfl,hl,q,qe⟩:=h
 refine ⟨_,(@Yc _ _ _ _ _ (@Yp _ _ _ _ _ _ _ _ (@Y7 _ _ _ _ (@YU _ _ _ (@YE _ _ _ _ _ _ _ _ _ _ _ _ Z1d hr (@Ya _ _ _ _ _ (pv 0) Yb (by rfl)) (by omega) (by rfl) (by rfl) (by decide) (by rfl) (by rfl)) (by intro _;rfl))) (@Yd _ _ _ (@YN _ _ _ _ _ _ _ _ _ _ _ ⟨x_NoNote,r_NoNote⟩ YX (@Ya _ _ _ _ _ Yg Yb (by rfl)) (by rfl) (by rfl) (by rfl) (by decide) (by rfl) (by rfl))) Yi) (@Yd _ _ _ (PS.nox (@Yj _ _ _ _ (@Yx _ _ _ _ _ (@Ya _ _ _ _ _ Yg (@Ya _ _ _ _ _ (pv 0) Yb (by rfl)) (by rfl))))))),?_⟩
 walk_at "rd"
 refine ⟨w,rfl,by omega,fun H1 s1=>⟨_,rfl,YG (fun c=>⟨few (by decide),qe c H1 s1⟩) fun c=>⟨few (by decide),fun p hp=>?_⟩⟩⟩
 have hw:Rd.labOk w=true:=by
  cases z:Rd.labOk w with
  | true=>rfl
  | false=>exact (c z).elim
 exact q _ _ hw (s1.trans (.upd_new hp _)) ⟨p,rfl,Ye⟩
def UC (CN:Addr) (f:Rd.Notes→Option Sh) (d:Nat) (ks:Rd.Notes) (b:Addr) (H:Hp) (Q:VK) (E:XK):Prop:=(∃ us,H b=some (.tup us)∧Rd.NotesAt H ks us)∧Rd.Oks d ks∧(∀ s v H',f ks=some s→Same H H'→SA H' s v→Q v H')∧(f ks=none→∀ H',Same H H'→E (.ref CN) none H')
def Z2a (CN:Addr):Sp:=fun vs H Q E=>∃ (b:Addr) (ks:Rd.Notes) (d:Nat),vs=[.ref b]∧UC CN dWh d ks b H Q E
theorem Z4g {k:Nat} {Z1 Z2 Z3 Z6 Z4 Z5 Z0:Addr} (R:g.Raw "whole_drafted" "whole_drafted" Z17 ["notes"]) (Z0u:g.FnX k "number_drafted" ["note"] (Z0K g.K Z2)) (Zi:g.FnX k "refuse_other_length" ["notes","least","most"] (Zq Z2)):g.FnX (k+1) "whole_drafted" ["notes"] (Z2a Z2):=by
 refine R.fnX Z4e (fun vs H Q E h=>by obtain ⟨b,ks,d,rfl,⟨us,hb,hn⟩,hok,q,qe⟩:=h;rfl) fun f_ cdv A outer s H vs Q E hr h=>?_
 obtain ⟨b,ks,d,rfl,⟨us,hb,hn⟩,hok,q,qe⟩:=h
 refine ⟨_,(@Yc _ _ _ _ _ (@YZ _ _ _ _ (@YI _ _ _ _ _ _ _ _ _ _ _ _ _ Zi hr YS (@Ya _ _ _ _ _ (pv 0) (@Ya _ _ _ _ _ Yf (@Ya _ _ _ _ _ Yf Yb (by rfl)) (by rfl)) (by rfl)) (by omega) (by rfl) (by rfl) (by decide) (by rfl) (by rfl)) (by rfl)) (@Yd _ _ _ (@Yj _ _ _ _ (@Yx _ _ _ _ _ (@Ya _ _ _ _ _ Yg (@Ya _ _ _ _ _ (@YI _ _ _ _ _ _ _ _ _ _ _ _ _ Z0u hr YS (@Ya _ _ _ _ _ (@Ym _ _ _ _ _ _ _ Yn (pv 0) Yf (fun _ _=>rfl)) Yb (by rfl)) (by omega) (by rfl) (by rfl) (by decide) (by rfl) (by rfl)) (@Ya _ _ _ _ _ (@YI _ _ _ _ _ _ _ _ _ _ _ _ _ Z0u hr YS (@Ya _ _ _ _ _ (@Ym _ _ _ _ _ _ _ Yn (pv 0) Yf (fun _ _=>rfl)) Yb (by rfl)) (by omega) (by rfl) (by rfl) (by decide) (by rfl) (by rfl)) Yb (by rfl)) (by rfl)) (by rfl)))))),?_⟩
 have hln:=hn.length
 walk_at "rd"
 refine ⟨b,us,2,2,rfl,hb,fun hl=>?_,fun hl=>qe ?_ H (.refl _)⟩
 ·match ks,us,hn,hok,q,qe,hb,hln with
  | .cons x (.cons y .nil),us,⟨u1,us1,e1,h1,u2,us2,e2,h2,e3⟩,hok,q,qe,hb,hln =>
   subst e3 e2 e1
   refine ⟨_,SqT.of hb,_,rfl,x,u1,d,rfl,h1,hok.1,fun i H1 s1 e1=>?_,fun e1 H1 s1=>qe (by simp only [dWh,e1]) H1 s1⟩
   refine ⟨_,SqT.of (s1 _ _ hb),_,rfl,y,u2,d,rfl,h2.same s1,hok.2.1,fun j H2 s2 e2=>⟨few (by decide),fun p hp=>?_⟩,fun e2 H2 s2=>qe (by simp only [dWh,e1,e2]) H2 (s1.trans s2)⟩
   exact q (.whole i j) _ _ (by simp only [dWh,e1,e2]) ((s1.trans s2).trans (.upd_new hp _)) ⟨p,rfl,Ye⟩
  | .nil,us,_,_,_,_,_,hln=>rw [hln] at hl;exact absurd hl.1 (by decide)
  | .cons x .nil,us,_,_,_,_,_,hln=>rw [hln] at hl;exact absurd hl.1 (by simp [Rd.Notes.len])
  | .cons x (.cons y (.cons z r)),us,_,_,_,_,_,hln=>rw [hln] at hl;simp [Rd.Notes.len] at hl;omega
 ·match ks,hln with
  | .nil,_=>rfl
  | .cons x .nil,_=>rfl
  | .cons x (.cons y .nil),hln=>rw [hln] at hl;exact absurd hl (by simp [Rd.Notes.len])
  | .cons x (.cons y (.cons z r)),_=>rfl
def Z2o (CN:Addr):Sp:=fun vs H Q E=>∃ (b:Addr) (ks:Rd.Notes) (d:Nat),vs=[.ref b]∧UC CN dTx d ks b H Q E
theorem Z4E {k:Nat} {Z1 Z2 Z3 Z6 Z4 Z5 Z0:Addr} (R:g.Raw "text_drafted" "text_drafted" Z1s ["notes"]) (Z2T:g.Fn k "is_letter_or_figure" ["sign"] (Rd.spSign Rd.isLF)) (Z2D:g.FnX k "lone_word" ["note"] (Z29 Z2)) (Zi:g.FnX k "refuse_other_length" ["notes","least","most"] (Zq Z2)) (b_all:g.mg "all"=none) (x_NoNote:g.mg "NoNote"=some (.ref Z2)) (r_NoNote:PySem.W.excIn g.K Z2 YY "ValueError.__new__"=true):g.FnX (k+1) "text_drafted" ["notes"] (Z2o Z2):=by
 refine R.fnX Z2l (fun vs H Q E h=>by obtain ⟨b,ks,d,rfl,⟨us,hb,hn⟩,hok,q,qe⟩:=h;rfl) fun f_ cdv A outer s H vs Q E hr h=>?_
 obtain ⟨b,ks,d,rfl,⟨us,hb,hn⟩,hok,q,qe⟩:=h
 refine ⟨_,(@Yc _ _ _ _ _ (@YZ _ _ _ _ (@YI _ _ _ _ _ _ _ _ _ _ _ _ _ Zi hr YS (@Ya _ _ _ _ _ (pv 0) (@Ya _ _ _ _ _ Yf (@Ya _ _ _ _ _ Yf Yb (by rfl)) (by rfl)) (by rfl)) (by omega) (by rfl) (by rfl) (by decide) (by rfl) (by rfl)) (by rfl)) (@Yc _ _ _ _ _ (@Yv _ _ (1) _ _ _ _ Z2l.nd rfl (.inl rfl) (@YI _ _ _ _ _ _ _ _ _ _ _ _ _ Z2D hr YS (@Ya _ _ _ _ _ (@Ym _ _ _ _ _ _ _ Yn (pv 0) Yf (fun _ _=>rfl)) Yb (by rfl)) (by omega) (by rfl) (by rfl) (by decide) (by rfl) (by rfl)) (by rfl) (by first | exact .inl rfl | exact .inr rfl | assumption)) (@Yc _ _ _ _ _ (@Yp _ _ _ _ _ _ _ _ (@Y7 _ _ _ _ (@YU _ _ _ (@YL _ _ _ _ _ _ _ _ _ _ b_all (XX rfl) (@Ya _ _ _ _ _ (@XG _ _ _ _ _ _ _ ([none]) ((["sign"]:List Str)) _ (Ys 0) _ _ (.own .nil) rfl (@VZ _ _ _ _ (pv 1)) (fun cl C s₀ H₀ fp pn=>(@Yq _ _ (0) _ (show List.Nodup (["sign"]:List Str) by decide +kernel) rfl (.inl rfl) (.inr rfl))) (fun cl C s₀ H₀ fp pn=>Y0) (fun cl C s₀ H₀ fp pn=>(@YE _ _ _ _ _ _ _ _ _ _ _ _ Z2T hr (@Ya _ _ _ _ _ (pv 0) Yb (by rfl)) (by omega) (by rfl) (by rfl) (by decide) (by rfl) (by rfl))) (by intro x hx;simp at hx) (by rfl) (by decide) (by decide +kernel) (by intro _;rfl)) Yb (by rfl)) (by decide +kernel) (by rfl) (by rfl) (by decide) (by decide) (by rfl) (by rfl)) (by intro _;rfl))) (@Yd _ _ _ (@YN _ _ _ _ _ _ _ _ _ _ _ ⟨x_NoNote,r_NoNote⟩ YX (@Ya _ _ _ _ _ Yg Yb (by rfl)) (by rfl) (by rfl) (by rfl) (by decide) (by rfl) (by rfl))) Yi) (@Yd _ _ _ (PS.nox (@Yj _ _ _ _ (@Yx _ _ _ _ _ (@Ya _ _ _ _ _ Yg (@Ya _ _ _ _ _ (pv 1) Yb (by rfl)) (by rfl))))))))),?_⟩
 have hln:=hn.length
 walk_at "rd"
 refine ⟨b,us,1,1,rfl,hb,fun hl=>?_,fun hl=>qe ?_ H (.refl _)⟩
 ·match ks,us,hn,hok,q,qe,hb,hln with
  | .cons x .nil,us,⟨u1,us1,e1,h1,e3⟩,hok,q,qe,hb,hln =>
   subst e3 e1
   refine ⟨_,SqT.of hb,_,rfl,x,u1,rfl,h1,fun w e=>?_,fun e=>qe ?_ H (.refl _)⟩
   ·subst e
    have hwl:=hok.1.wd.1
    refine Ybw (l:=w) ((w.map Rd.isLF).map V.bl) (fun R r=>by walk_at "rd";exact r) (by simp) (by omega) ?_ ?_
    ·intro j d y H1 hd hy sm R rr
     rw [List.getElem?_map,List.getElem?_map,hd] at hy
     have:V.bl (Rd.isLF d)=y:=Option.some.inj hy
     subst this
     walk_at "rd"
     refine ⟨[d],rfl,by simp,?_⟩
     rw [show ([d]:List Nat).any Rd.isLF=Rd.isLF d by simp]
     exact rr H1 (.refl _)
    ·intro D H1 hD sm hd
     refine ⟨D,rfl,_,SqL.of hd,?_⟩
     rw [show (w.map Rd.isLF).all id=w.all Rd.isLF by rw [List.all_map];rfl]
     refine YG (fun c=>⟨few (by decide),qe (by rw [dTx,if_neg (by rw [c];decide)]) H1 sm⟩) fun c=>⟨few (by decide),fun p hp=>?_⟩
     have hw:w.all Rd.isLF=true:=by
      cases z:w.all Rd.isLF with
      | true=>rfl
      | false=>exact (c z).elim
     exact q (.text w) _ _ (by rw [dTx,if_pos hw]) (sm.trans (.upd_new hp _)) ⟨p,rfl,Ye⟩
   ·unfold dTx
    split
    ·rename_i w hw;cases hw;exact (e _ rfl).elim
    ·rfl
  | .nil,us,_,_,_,_,_,hln=>rw [hln] at hl;exact absurd hl.1 (by decide)
  | .cons x (.cons y r),us,_,_,_,_,_,hln=>rw [hln] at hl;simp [Rd.Notes.len] at hl;omega
 ·match ks,hln with
  | .nil,_=>rfl
  | .cons x .nil,hln=>rw [hln] at hl;exact absurd hl (by simp [Rd.Notes.len])
  | .cons x (.cons y r),_=>unfold dTx;split<;>first | rfl | (rename_i h;cases h)
def VG (CN:Addr) (m:Nat):Sp:=fun vs H Q E=>∃ (n:Rd.Note) (v:V) (d:Nat),vs=[v]∧m=d+1∧Rd.NoteAt H n v∧Rd.Ok d n∧(∀ s v' H',dl n=some s→Same H H'→SA H' s v'→Q v' H')∧(dl n=none→∀ H',Same H H'→E (.ref CN) none H')
theorem QY {CN:Addr} {vs:List V} {H:Hp} {Q:VK} {E:XK} (h:VG CN 0 vs H Q E):False:=by
 obtain ⟨_,_,d,_,h,_⟩:=h
 omega
def Ycn (ks:Rd.Notes):Option Sh:=if ks.len≤8 then (dks ks).map .row else none
def Z2U (CN:Addr) (m:Nat):Sp:=fun vs H Q E=>∃ (b:Addr) (ks:Rd.Notes) (d:Nat),vs=[.ref b]∧(m=d+1∨ks = .nil)∧UC CN Ycn d ks b H Q E
theorem ZQ {k:Nat} {Z1 Z2 Z3 Z6 Z4 Z5 Z0:Addr} (R:g.Raw "row_drafted" "row_drafted" Z1M ["notes"]) (Zi:g.FnX k "refuse_other_length" ["notes","least","most"] (Zq Z2)) (ZB:g.FnX k "shape_drafted" ["note"] (VG Z2 m)) (Za:g.mg "tuple"=none) (ZU:g.Con "MOST_PARTS" (.int 8)):g.FnX (k+1) "row_drafted" ["notes"] (Z2U Z2 m):=by
 refine R.fnX Z4T (fun vs H Q E h=>by obtain ⟨b,ks,d,rfl,hm,⟨us,hb,hn⟩,hok,q,qe⟩:=h;rfl) fun f_ cdv A outer s H vs Q E hr h=>?_
 obtain ⟨b,ks,d,rfl,hm,⟨us,hb,hn⟩,hok,q,qe⟩:=h
 refine ⟨_,(@Yc _ _ _ _ _ (@YZ _ _ _ _ (@YI _ _ _ _ _ _ _ _ _ _ _ _ _ Zi hr YS (@Ya _ _ _ _ _ (pv 0) (@Ya _ _ _ _ _ Yf (@Ya _ _ _ _ _ (@WI _ _ _ _ _ ZU (by rfl) (by rfl) (by decide)) Yb (by rfl)) (by rfl)) (by rfl)) (by omega) (by rfl) (by rfl) (by decide) (by rfl) (by rfl)) (by rfl)) (@Yd _ _ _ (@Yj _ _ _ _ (@Yx _ _ _ _ _ (@Ya _ _ _ _ _ Yg (@Ya _ _ _ _ _ (@Xy _ _ _ _ _ _ _ _ _ _ Za WF (@Ya _ _ _ _ _ (@Yc8 _ _ _ _ _ _ _ ([none]) ((["note"]:List Str)) _ (Ys 0) _ _ _ Qi (.own .nil) rfl (@WA _ _ _ _ (pv 0)) (fun cl C s₀ H₀ fp pn=>(@Yq _ _ (0) _ (show List.Nodup (["note"]:List Str) by decide +kernel) rfl (.inl rfl) (.inr rfl))) (fun cl C s₀ H₀ fp pn=>Y0) (fun cl C s₀ H₀ fp pn=>(@YI _ _ _ _ _ _ _ _ _ _ _ _ _ ZB hr Ycj (@Ya _ _ _ _ _ (pv 0) Yb (by rfl)) (by omega) (by rfl) (by rfl) (by decide) (by rfl) (by rfl))) (by intro x hx;simp at hx) (by rfl) (by decide) (by decide +kernel) (by intro _;rfl)) Yb (by rfl)) (by decide +kernel) (by rfl) (by rfl) (by decide) (by decide) (by rfl) (by rfl)) Yb (by rfl)) (by rfl)))))),?_⟩
 have hln:=hn.length
 walk_at "rd"
 refine ⟨b,us,0,8,rfl,hb,fun hl=>?_,fun hl=>qe ?_ H (.refl _)⟩
 ·have hl8:ks.len≤8:=by omega
  obtain ⟨hn1,hn2⟩:=Rd.NotesAt.iff.mp hn
  refine QB (K:=g.K) (b:=b) (xs:=us) (fun D i y H'=>∀ n,ks.list[i]?=some n→∃ s,dl n=some s∧SA H' s y) (fun D i y H' H'' h s n hi=>by obtain ⟨z,e1,e2⟩:=h n hi;exact ⟨z,e1,e2.keep (.of s)⟩) (fun D i y H' zs zs' h hD n hi=>by obtain ⟨z,e1,e2⟩:=h n hi;exact ⟨z,e1,e2.keep (Tps.upd_lst hD)⟩) (fun R r=>by walk_at "rd";exact r) (SqT.of hb) (by omega) ?_ ?_
  ·intro D i x H' zs hx sm hD R r
   have hi:=(List.getElem?_eq_some_iff.mp hx).1
   have hni:ks.list[i]?=some (ks.list[i]'(by rw [Rd.Notes.len_list];omega)):=List.getElem?_eq_getElem _
   have hmem:=List.mem_of_getElem? hni
   generalize (ks.list[i]'(by rw [Rd.Notes.len_list];omega))=n at hni hmem
   have hm':m=d+1:=by
    rcases hm with hm | rfl
    ·exact hm
    ·cases hmem
   walk_at "rd"
   refine ⟨n,x,d,rfl,hm',(hn2 i x n hx hni).same sm,hok.mem hmem,fun s v' H'' e s' h'=>r v' H'' s' fun n' hn'=>?_,fun e H'' s'=>qe ?_ H'' (sm.trans s')⟩
   ·rw [hni] at hn'
    cases hn'
    exact ⟨s,e,h'⟩
   ·rw [Ycn,YaC hmem e]
    split<;>rfl
  ·intro D ys H' hD sm hd hyl hys
   obtain ⟨k,e1,h1⟩:=YaE (H:=H') (ks:=ks) (ys:=ys) (by omega) fun i y n a b=>hys i y a n b
   refine ⟨_,rfl,_,.inl ⟨SqL.of hd,fun p hp=>⟨few (by decide),fun p1 hp1=>?_⟩⟩⟩
   have u1:=Same.upd_new hp (.tup ys)
   have u2:=Same.upd_new hp1 (.tup [.str (ms .row),.ref p])
   exact q (.row k) _ _ (by rw [Ycn,if_pos hl8,e1];rfl) (sm.trans (u1.trans u2)) ⟨p1,p,ys,rfl,Ye,u2 _ _ Ye,h1.keep (.of (u1.trans u2))⟩
 ·rw [Ycn,if_neg (by omega)]
def Yco (k:Mk) (ks:Rd.Notes):Option Sh:=if ks.len=1 then (dhd ks).map (.one k) else none
def Z1r (CN:Addr) (m:Nat):Sp:=fun vs H Q E=>∃ (b:Addr) (k:Mk) (ks:Rd.Notes) (d:Nat),vs=[.str (ms k),.ref b]∧(m=d+1∨ks = .nil)∧UC CN (Yco k) d ks b H Q E
theorem Zs {k:Nat} {Z1 Z2 Z3 Z6 Z4 Z5 Z0:Addr} (R:g.Raw "one_part_drafted" "one_part_drafted" Z0A ["kind","notes"]) (Zi:g.FnX k "refuse_other_length" ["notes","least","most"] (Zq Z2)) (ZB:g.FnX k "shape_drafted" ["note"] (VG Z2 m)):g.FnX (k+1) "one_part_drafted" ["kind","notes"] (Z1r Z2 m):=by
 refine R.fnX Z3p (fun vs H Q E h=>by obtain ⟨b,k,ks,d,rfl,hm,⟨us,hb,hn⟩,hok,q,qe⟩:=h;rfl) fun f_ cdv A outer s H vs Q E hr h=>?_
 obtain ⟨b,k,ks,d,rfl,hm,⟨us,hb,hn⟩,hok,q,qe⟩:=h
 refine ⟨_,(@Yc _ _ _ _ _ (@YZ _ _ _ _ (@YI _ _ _ _ _ _ _ _ _ _ _ _ _ Zi hr YS (@Ya _ _ _ _ _ (pv 1) (@Ya _ _ _ _ _ Yf (@Ya _ _ _ _ _ Yf Yb (by rfl)) (by rfl)) (by rfl)) (by omega) (by rfl) (by rfl) (by decide) (by rfl) (by rfl)) (by rfl)) (@Yd _ _ _ (@Yj _ _ _ _ (@Yx _ _ _ _ _ (@Ya _ _ _ _ _ (pv 0) (@Ya _ _ _ _ _ (@YI _ _ _ _ _ _ _ _ _ _ _ _ _ ZB hr YS (@Ya _ _ _ _ _ (@Ym _ _ _ _ _ _ _ Yn (pv 1) Yf (fun _ _=>rfl)) Yb (by rfl)) (by omega) (by rfl) (by rfl) (by decide) (by rfl) (by rfl)) Yb (by rfl)) (by rfl)))))),?_⟩
 have hln:=hn.length
 walk_at "rd"
 refine ⟨b,us,1,1,rfl,hb,fun hl=>?_,fun hl=>qe (by rw [Yco,if_neg (by omega)]) H (.refl _)⟩
 match ks,us,hn,hok,q,qe,hb,hln,hm with
 | .cons x r,us,⟨u1,us1,e1,h1,h2⟩,hok,q,qe,hb,hln,hm =>
  have hm':m=d+1:=hm.resolve_right (by simp)
  have hl1:(Rd.Notes.cons x r).len=1:=by omega
  subst e1
  refine ⟨_,SqT.of hb,u1,YC (j:=0) rfl,x,u1,d,rfl,hm',h1,hok.1,fun s v H1 e s1 h=>⟨few (by decide),fun p hp=>?_⟩,fun e H1 s1=>qe ?_ H1 s1⟩
  ·exact q (.one k s) _ _ (by rw [Yco,if_pos hl1,dhd,show (if x.lab=[] then dn x else none)=some s from e];rfl) (s1.trans (.upd_new hp _)) ⟨p,v,rfl,Ye,h.keep (.of (.upd_new hp _))⟩
  ·rw [Yco,if_pos hl1,dhd,show (if x.lab=[] then dn x else none)=none from e];rfl
 | .nil,us,_,_,_,_,_,hln,_=>rw [hln] at hl;exact absurd hl.1 (by decide)
def Yf8 (ks:Rd.Notes):Option Sh:=dAl ks.len (YaB ks) (dhd ks)
theorem WU (k:Nat) (t:Option Int) (s:Option Sh) (h:k≠2∨t=none∨s=none∨∃ i,t=some i∧¬ (1≤i∧i≤6)):dAl k t s=none:=by
 match t,s with
 | some t,some s =>
  rw [dAl,if_neg]
  rintro ⟨h1,h2⟩
  rcases h with h | h | h | ⟨i,e,h⟩
  ·exact h h1
  ·cases h
  ·cases h
  ·cases e;exact h h2
 | none,_=>cases s<;>rfl
 | some _,none=>rfl
def Z2b (CN:Addr) (m:Nat):Sp:=fun vs H Q E=>∃ (b:Addr) (ks:Rd.Notes) (d:Nat),vs=[.ref b]∧(m=d+1∨ks = .nil)∧UC CN Yf8 d ks b H Q E
theorem ZF {k:Nat} {Z1 Z2 Z3 Z6 Z4 Z5 Z0:Addr} (R:g.Raw "alike_drafted" "alike_drafted" Z18 ["notes"]) (Z0u:g.FnX k "number_drafted" ["note"] (Z0K g.K Z2)) (Zi:g.FnX k "refuse_other_length" ["notes","least","most"] (Zq Z2)) (ZB:g.FnX k "shape_drafted" ["note"] (VG Z2 m)) (ZV:g.Con "MOST_TIMES" (.int 6)) (x_NoNote:g.mg "NoNote"=some (.ref Z2)) (r_NoNote:PySem.W.excIn g.K Z2 YY "ValueError.__new__"=true):g.FnX (k+1) "alike_drafted" ["notes"] (Z2b Z2 m):=by
 refine R.fnX Z24 (fun vs H Q E h=>by obtain ⟨b,ks,d,rfl,hm,⟨us,hb,hn⟩,hok,q,qe⟩:=h;rfl) fun f_ cdv A outer s H vs Q E hr h=>?_
 obtain ⟨b,ks,d,rfl,hm,⟨us,hb,hn⟩,hok,q,qe⟩:=h
 refine ⟨_,(@Yc _ _ _ _ _ (@YZ _ _ _ _ (@YI _ _ _ _ _ _ _ _ _ _ _ _ _ Zi hr YS (@Ya _ _ _ _ _ (pv 0) (@Ya _ _ _ _ _ Yf (@Ya _ _ _ _ _ Yf Yb (by rfl)) (by rfl)) (by rfl)) (by omega) (by rfl) (by rfl) (by decide) (by rfl) (by rfl)) (by rfl)) (@Yc _ _ _ _ _ (@Yv _ _ (1) _ _ _ _ Z24.nd rfl (.inl rfl) (@YI _ _ _ _ _ _ _ _ _ _ _ _ _ Z0u hr YS (@Ya _ _ _ _ _ (@Ym _ _ _ _ _ _ _ Yn (pv 0) Yf (fun _ _=>rfl)) Yb (by rfl)) (by omega) (by rfl) (by rfl) (by decide) (by rfl) (by rfl)) (by rfl) (by first | exact .inl rfl | exact .inr rfl | assumption)) (@Yc _ _ _ _ _ (@Yp _ _ _ _ _ _ _ _ (@Y7 _ _ _ _ (@Vu _ _ _ _ _ _ _ _ _ _ _ _ Wy Wy Yf (pv 1) (@WI _ _ _ _ _ ZV (by rfl) (by rfl) (by decide)) (by with_unfolding_all rfl))) (@Yd _ _ _ (@YN _ _ _ _ _ _ _ _ _ _ _ ⟨x_NoNote,r_NoNote⟩ YX (@Ya _ _ _ _ _ Yg Yb (by rfl)) (by rfl) (by rfl) (by rfl) (by decide) (by rfl) (by rfl))) Yi) (@Yd _ _ _ (@Yj _ _ _ _ (@Yx _ _ _ _ _ (@Ya _ _ _ _ _ Yg (@Ya _ _ _ _ _ (@YI _ _ _ _ _ _ _ _ _ _ _ _ _ ZB hr YS (@Ya _ _ _ _ _ (@Ym _ _ _ _ _ _ _ Yn (pv 0) Yf (fun _ _=>rfl)) Yb (by rfl)) (by omega) (by rfl) (by rfl) (by decide) (by rfl) (by rfl)) (@Ya _ _ _ _ _ (pv 1) Yb (by rfl)) (by rfl)) (by rfl)))))))),?_⟩
 have hln:=hn.length
 walk_at "rd"
 refine ⟨b,us,2,2,rfl,hb,fun hl=>?_,fun hl=>qe (WU _ _ _ (.inl (by omega))) H (.refl _)⟩
 match ks,us,hn,hok,q,qe,hb,hln,hm with
 | .cons x (.cons y r),us,⟨u1,us1,e1,h1,u2,us2,e2,h2,h3⟩,hok,q,qe,hb,hln,hm =>
  have hm':m=d+1:=hm.resolve_right (by simp)
  have hl2:(Rd.Notes.cons x (.cons y r)).len=2:=by omega
  subst e2 e1
  refine ⟨_,SqT.of hb,u2,YC (j:=1) rfl,y,u2,d,rfl,h2,hok.2.1,fun t H1 s1 et=>?_,fun et H1 s1=>qe (WU _ _ _ (.inr (.inl et))) H1 s1⟩
  refine ⟨_,rfl,YG (fun c1=>⟨_,rfl,YG (fun c2=>⟨few (by decide),qe (WU _ _ _ (.inr (.inr (.inr ⟨t,et,by omega⟩)))) H1 s1⟩) fun c2=>?_⟩) fun c1=>⟨few (by decide),qe (WU _ _ _ (.inr (.inr (.inr ⟨t,et,by omega⟩)))) H1 s1⟩⟩
  refine ⟨_,SqT.of (s1 _ _ hb),u1,YC (j:=0) rfl,x,u1,d,rfl,hm',h1.same s1,hok.1,fun s v H2 e s2 h=>⟨few (by decide),fun p hp=>?_⟩,fun e H2 s2=>qe (WU _ _ _ (.inr (.inr (.inl e)))) H2 (s1.trans s2)⟩
  have u:=Same.upd_new hp (.tup [.str (ms .alike),v,.int t])
  refine q (.alike s t.toNat) _ _ ?_ ((s1.trans s2).trans u) ⟨p,v,rfl,?_,h.keep (.of u)⟩
  ·show dAl _ (YaB _) (dhd _)=_
   rw [show YaB (.cons x (.cons y r))=some t from et,show dhd (.cons x (.cons y r))=some s from e,dAl,if_pos ⟨hl2,by omega⟩]
  ·rw [show ((t.toNat:Nat):Int)=t by omega]
   exact Ye
 | .nil,us,_,_,_,_,_,hln,_=>rw [hln] at hl;exact absurd hl.1 (by decide)
 | .cons x .nil,us,_,_,_,_,_,hln,_=>rw [hln] at hl;exact absurd hl.1 (by simp [Rd.Notes.len])
def YeO (CN:Addr) (m:Nat):Sp:=fun vs H Q E=>∃ (n:Rd.Note) (v:V) (d:Nat),vs=[v]∧m=d+1∧Rd.NoteAt H n v∧Rd.Ok d n∧(∀ s b w H',db n=some s→Same H H'→H' b=some (.tup [.str (S n.lab),w])→SA H' s w→Q (.ref b) H')∧(db n=none→∀ H',Same H H'→E (.ref CN) none H')
theorem emp {l:List Nat}:V.str (S l)=V.str (Str.ofString "")↔l=[]:=by
 have e0:Str.ofString ""=S []:=by decide +kernel
 rw [e0]
 exact ⟨fun h=>Xi (V.str.inj h),fun h=>by rw [h]⟩
theorem ZA {k:Nat} {Z1 Z2 Z3 Z6 Z4 Z5 Z0:Addr} (R:g.Raw "branch_drafted" "branch_drafted" Z0V ["note"]) (ZB:g.FnX k "shape_drafted" ["note"] (VG Z2 m)) (x_NoNote:g.mg "NoNote"=some (.ref Z2)) (r_NoNote:PySem.W.excIn g.K Z2 YY "ValueError.__new__"=true):g.FnX (k+1) "branch_drafted" ["note"] (YeO Z2 m):=by
 refine R.fnX Z1Z (fun vs H Q E h=>by obtain ⟨n,v,d,rfl,hm,hv,hok,q,qe⟩:=h;rfl) fun f_ cdv A outer s H vs Q E hr h=>?_
 obtain ⟨n,v,d,rfl,hm,hv,hok,q,qe⟩:=h
 refine ⟨_,(@Yc _ _ _ _ _ (PS.nox (@Yv _ _ (1) _ _ _ _ Z1Z.nd rfl (.inl rfl) (@Ym _ _ _ _ _ _ _ Yn (pv 0) Yf (fun _ _=>rfl)) (by rfl) (by first | exact .inl rfl | exact .inr rfl | assumption))) (@Yc _ _ _ _ _ (@Yp _ _ _ _ _ _ _ _ (@Yk _ _ _ _ _ _ _ _ YF (pv 1) Yg (Yo _)) (@Yd _ _ _ (@YN _ _ _ _ _ _ _ _ _ _ _ ⟨x_NoNote,r_NoNote⟩ YX (@Ya _ _ _ _ _ Yg Yb (by rfl)) (by rfl) (by rfl) (by rfl) (by decide) (by rfl) (by rfl))) Yi) (@Yd _ _ _ (@Yj _ _ _ _ (@Yx _ _ _ _ _ (@Ya _ _ _ _ _ (pv 1) (@Ya _ _ _ _ _ (@YI _ _ _ _ _ _ _ _ _ _ _ _ _ ZB hr YS (@Ya _ _ _ _ _ (@Yx _ _ _ _ _ (@Ya _ _ _ _ _ Yg (@Ya _ _ _ _ _ (@Ym _ _ _ _ _ _ _ Yn (pv 0) Yf (fun _ _=>rfl)) (@Ya _ _ _ _ _ (@Ym _ _ _ _ _ _ _ Yn (pv 0) Yf (fun _ _=>rfl)) Yb (by rfl)) (by rfl)) (by rfl))) Yb (YK _ _ _ _ _)) (by omega) (by rfl) (by rfl) (by decide) (by rfl) (by rfl)) Yb (by rfl)) (by rfl))))))),?_⟩
 have e0:Str.ofString ""=S []:=by decide +kernel
 cases n with
 | leaf l w =>
  obtain ⟨a,rfl,ha⟩:=hv
  walk_at "rd"
  refine ⟨_,SqT.of ha,_,rfl,rfl,YG (fun c=>⟨few (by decide),qe (if_pos (emp.mp c)) H (.refl _)⟩) fun c=>⟨_,SqT.of ha,_,rfl,_,SqT.of ha,_,rfl,few (by decide),fun p hp=>?_⟩⟩
  have u:=Same.upd_new hp (.tup [.str (Str.ofString ""),.str (S w),.non])
  have hdb:∀ x,dl (Rd.Note.leaf l w).un=x→db (.leaf l w)=x:=fun x h=>by rw [YeN] at h;exact (if_neg (fun z=>c (emp.mpr z))).trans h
  refine ⟨(Rd.Note.leaf l w).un,_,d,rfl,hm,⟨p,rfl,by rw [← e0];exact Ye⟩,hok.un,fun s v' H' e s' h'=>⟨few (by decide),fun p1 hp1=>?_⟩,fun e H' s'=>qe (hdb _ e) H' (u.trans s')⟩
  have u1:=Same.upd_new hp1 (.tup [.str (S l),v'])
  exact q s p1 v' _ (hdb _ e) ((u.trans s').trans u1) Ye (h'.keep (.of u1))
 | node l w ks =>
  obtain ⟨a,b,us,rfl,ha,hb,hn⟩:=hv
  walk_at "rd"
  refine ⟨_,SqT.of ha,_,rfl,rfl,YG (fun c=>⟨few (by decide),qe (if_pos (emp.mp c)) H (.refl _)⟩) fun c=>⟨_,SqT.of ha,_,rfl,_,SqT.of ha,_,rfl,few (by decide),fun p hp=>?_⟩⟩
  have u:=Same.upd_new hp (.tup [.str (Str.ofString ""),.str (S w),.ref b])
  have hdb:∀ x,dl (Rd.Note.node l w ks).un=x→db (.node l w ks)=x:=fun x h=>by rw [YeN] at h;exact (if_neg (fun z=>c (emp.mpr z))).trans h
  refine ⟨(Rd.Note.node l w ks).un,_,d,rfl,hm,⟨p,b,us,rfl,by rw [← e0];exact Ye,u _ _ hb,hn.same u⟩,hok.un,fun s v' H' e s' h'=>⟨few (by decide),fun p1 hp1=>?_⟩,fun e H' s'=>qe (hdb _ e) H' (u.trans s')⟩
  have u1:=Same.upd_new hp1 (.tup [.str (S l),v'])
  exact q s p1 v' _ (hdb _ e) ((u.trans s').trans u1) Ye (h'.keep (.of u1))
def QZ (ks:Rd.Notes):Option Sh:=if 1≤ks.len∧ks.len≤10 then (dbs ks).map .pick else none
def Z2p (CN:Addr) (m:Nat):Sp:=fun vs H Q E=>∃ (b:Addr) (ks:Rd.Notes) (d:Nat),vs=[.ref b]∧(m=d+1∨ks = .nil)∧UC CN QZ d ks b H Q E
theorem ZJ {k:Nat} {Z1 Z2 Z3 Z6 Z4 Z5 Z0:Addr} (R:g.Raw "pick_drafted" "pick_drafted" Z1t ["notes"]) (Zi:g.FnX k "refuse_other_length" ["notes","least","most"] (Zq Z2)) (Z4h:g.FnX k "branch_drafted" ["note"] (YeO Z2 m)) (Za:g.mg "tuple"=none) (ZD:g.Con "MOST_BRANCHES" (.int 10)):g.FnX (k+1) "pick_drafted" ["notes"] (Z2p Z2 m):=by
 refine R.fnX Z4D (fun vs H Q E h=>by obtain ⟨b,ks,d,rfl,hm,⟨us,hb,hn⟩,hok,q,qe⟩:=h;rfl) fun f_ cdv A outer s H vs Q E hr h=>?_
 obtain ⟨b,ks,d,rfl,hm,⟨us,hb,hn⟩,hok,q,qe⟩:=h
 refine ⟨_,(@Yc _ _ _ _ _ (@YZ _ _ _ _ (@YI _ _ _ _ _ _ _ _ _ _ _ _ _ Zi hr YS (@Ya _ _ _ _ _ (pv 0) (@Ya _ _ _ _ _ Yf (@Ya _ _ _ _ _ (@WI _ _ _ _ _ ZD (by rfl) (by rfl) (by decide)) Yb (by rfl)) (by rfl)) (by rfl)) (by omega) (by rfl) (by rfl) (by decide) (by rfl) (by rfl)) (by rfl)) (@Yd _ _ _ (@Yj _ _ _ _ (@Yx _ _ _ _ _ (@Ya _ _ _ _ _ Yg (@Ya _ _ _ _ _ (@Xy _ _ _ _ _ _ _ _ _ _ Za WF (@Ya _ _ _ _ _ (@Yc8 _ _ _ _ _ _ _ ([none]) ((["note"]:List Str)) _ (Ys 0) _ _ _ Qi (.own .nil) rfl (@WA _ _ _ _ (pv 0)) (fun cl C s₀ H₀ fp pn=>(@Yq _ _ (0) _ (show List.Nodup (["note"]:List Str) by decide +kernel) rfl (.inl rfl) (.inr rfl))) (fun cl C s₀ H₀ fp pn=>Y0) (fun cl C s₀ H₀ fp pn=>(@YI _ _ _ _ _ _ _ _ _ _ _ _ _ Z4h hr Ycj (@Ya _ _ _ _ _ (pv 0) Yb (by rfl)) (by omega) (by rfl) (by rfl) (by decide) (by rfl) (by rfl))) (by intro x hx;simp at hx) (by rfl) (by decide) (by decide +kernel) (by intro _;rfl)) Yb (by rfl)) (by decide +kernel) (by rfl) (by rfl) (by decide) (by decide) (by rfl) (by rfl)) Yb (by rfl)) (by rfl)))))),?_⟩
 have hln:=hn.length
 walk_at "rd"
 refine ⟨b,us,1,10,rfl,hb,fun hl=>?_,fun hl=>qe ?_ H (.refl _)⟩
 ·have hl8:1≤ks.len∧ks.len≤10:=by omega
  obtain ⟨hn1,hn2⟩:=Rd.NotesAt.iff.mp hn
  refine QB (K:=g.K) (b:=b) (xs:=us) (fun D i y H'=>∀ n,ks.list[i]?=some n→∃ s b w,db n=some s∧y = .ref b∧H' b=some (.tup [.str (S n.lab),w])∧SA H' s w) (fun D i y H' H'' h s n hi=>by obtain ⟨z,b,w,e1,e2,e3,e4⟩:=h n hi;exact ⟨z,b,w,e1,e2,s _ _ e3,e4.keep (.of s)⟩) (fun D i y H' zs zs' h hD n hi=>by obtain ⟨z,b,w,e1,e2,e3,e4⟩:=h n hi;exact ⟨z,b,w,e1,e2,Tps.upd_lst hD _ _ e3,e4.keep (Tps.upd_lst hD)⟩) (fun R r=>by walk_at "rd";exact r) (SqT.of hb) (by omega) ?_ ?_
  ·intro D i x H' zs hx sm hD R r
   have hi:=(List.getElem?_eq_some_iff.mp hx).1
   have hni:ks.list[i]?=some (ks.list[i]'(by rw [Rd.Notes.len_list];omega)):=List.getElem?_eq_getElem _
   have hmem:=List.mem_of_getElem? hni
   generalize (ks.list[i]'(by rw [Rd.Notes.len_list];omega))=n at hni hmem
   have hm':m=d+1:=by
    rcases hm with hm | rfl
    ·exact hm
    ·cases hmem
   walk_at "rd"
   refine ⟨n,x,d,rfl,hm',(hn2 i x n hx hni).same sm,hok.mem hmem,fun s b w H'' e s' hb' h'=>r (.ref b) H'' s' fun n' hn'=>?_,fun e H'' s'=>qe ?_ H'' (sm.trans s')⟩
   ·rw [hni] at hn'
    cases hn'
    exact ⟨s,b,w,e,rfl,hb',h'⟩
   ·rw [QZ,YaD hmem e]
    split<;>rfl
  ·intro D ys H' hD sm hd hyl hys
   obtain ⟨k,e1,h1⟩:=YaF (H:=H') (ks:=ks) (ys:=ys) (by omega) fun i y n a b=>hys i y a n b
   refine ⟨_,rfl,_,.inl ⟨SqL.of hd,fun p hp=>⟨few (by decide),fun p1 hp1=>?_⟩⟩⟩
   have u1:=Same.upd_new hp (.tup ys)
   have u2:=Same.upd_new hp1 (.tup [.str (ms .pick),.ref p])
   exact q (.pick k) _ _ (by rw [QZ,if_pos hl8,e1];rfl) (sm.trans (u1.trans u2)) ⟨p1,p,ys,rfl,Ye,u2 _ _ Ye,h1.keep (.of (u1.trans u2))⟩
 ·rw [QZ,if_neg (by omega)]
theorem in3w (w:List Nat):inV (.str (S w)) [.str (Str.ofString "many"),.str (Str.ofString "rising"),.str (Str.ofString "unlike")]=decide (w=mc .many∨w=mc .rising∨w=mc .unlike):=by
 have e:∀ m:Mk,eqV (.str (ms m)) (.str (S w))=decide (w=mc m):=fun m=>by
  simp only [eqV]
  by_cases c:w=mc m
  ·rw [c,Xo];simp
  ·have:ms m≠S w:=fun z=>c (by rw [Xo] at z;exact (Xi z).symm)
   simp [c,this]
 rw [Ydm,Yax,Yay,inV,List.any_cons,List.any_cons,List.any_cons,List.any_nil,e,e,e]
 by_cases c1:w=mc .many<;>by_cases c2:w=mc .rising<;>by_cases c3:w=mc .unlike<;>simp [c1,c2,c3]
theorem ZG {k:Nat} {Z1 Z2 Z3 Z6 Z4 Z5 Z0:Addr} (R:g.Raw "shape_drafted" "shape_drafted" Z19 ["note"]) (Z4F:g.FnX k "whole_drafted" ["notes"] (Z2a Z2)) (Z4X:g.FnX k "text_drafted" ["notes"] (Z2o Z2)) (F_row_drafted:g.FnX k "row_drafted" ["notes"] (Z2U Z2 m)) (Z3u:g.FnX k "one_part_drafted" ["kind","notes"] (Z1r Z2 m)) (Z4G:g.FnX k "alike_drafted" ["notes"] (Z2b Z2 m)) (Z4Y:g.FnX k "pick_drafted" ["notes"] (Z2p Z2 m)) (F_use_drafted:g.FnX k "use_drafted" ["name"] (Z2S Z2)) (ZI:g.ConT "OF_ONE_PART" ([.str "many",.str "rising",.str "unlike"])) (x_NoNote:g.mg "NoNote"=some (.ref Z2)) (r_NoNote:PySem.W.excIn g.K Z2 YY "ValueError.__new__"=true):g.FnX (k+1) "shape_drafted" ["note"] (VG Z2 (m+1)):=by
 refine R.fnX Z0W (fun vs H Q E h=>by obtain ⟨n,v,d,rfl,hm,hv,hok,q,qe⟩:=h;rfl) fun f_ cdv A outer s H vs Q E hr h=>?_
 obtain ⟨n,v,d,rfl,hm,hv,hok,q,qe⟩:=h
 refine ⟨_,(@Yc _ _ _ _ _ (@Yp _ _ _ _ _ _ _ _ (@Yk _ _ _ _ _ _ _ _ Uk (@Ym _ _ _ _ _ _ _ Yn (pv 0) Yf (fun _ _=>rfl)) Yg (Yo _)) (@Yd _ _ _ (@YN _ _ _ _ _ _ _ _ _ _ _ ⟨x_NoNote,r_NoNote⟩ YX (@Ya _ _ _ _ _ Yg Yb (by rfl)) (by rfl) (by rfl) (by rfl) (by decide) (by rfl) (by rfl))) Yi) (@Yc _ _ _ _ _ (PS.nox (@Yv _ _ (1) _ _ _ _ Z0W.nd rfl (.inl rfl) (@Ym _ _ _ _ _ _ _ Yn (pv 0) Yf (fun _ _=>rfl)) (by rfl) (by first | exact .inl rfl | exact .inr rfl | assumption))) (@Yc _ _ _ _ _ (PS.nox (@Yv _ _ (2) _ _ _ _ Z0W.nd rfl (.inl rfl) (@Ym _ _ _ _ _ _ _ Yn (pv 0) Yf (fun _ _=>rfl)) (by rfl) (by first | exact .inl rfl | exact .inr rfl | assumption))) (@Yc _ _ _ _ _ (@Yp _ _ _ _ _ _ _ _ (@Yk _ _ _ _ _ _ _ _ Q6 (pv 2) VU (Yo _)) (@Yd _ _ _ (@Yj _ _ _ _ (@YI _ _ _ _ _ _ _ _ _ _ _ _ _ F_use_drafted hr YS (@Ya _ _ _ _ _ (pv 1) Yb (by rfl)) (by omega) (by rfl) (by rfl) (by decide) (by rfl) (by rfl)))) Yi) (@Yc _ _ _ _ _ (@Yp _ _ _ _ _ _ _ _ (@Yk _ _ _ _ _ _ _ _ YF (pv 1) Yg (Yo _)) (@Yd _ _ _ (@Yj _ _ _ _ (@YI _ _ _ _ _ _ _ _ _ _ _ _ _ Z4F hr YS (@Ya _ _ _ _ _ (pv 2) Yb (by rfl)) (by omega) (by rfl) (by rfl) (by decide) (by rfl) (by rfl)))) Yi) (@Yc _ _ _ _ _ (@Yp _ _ _ _ _ _ _ _ (@Yk _ _ _ _ _ _ _ _ YF (pv 1) Yg (Yo _)) (@Yd _ _ _ (@Yj _ _ _ _ (@YI _ _ _ _ _ _ _ _ _ _ _ _ _ Z4X hr YS (@Ya _ _ _ _ _ (pv 2) Yb (by rfl)) (by omega) (by rfl) (by rfl) (by decide) (by rfl) (by rfl)))) Yi) (@Yc _ _ _ _ _ (@Yp _ _ _ _ _ _ _ _ (@Yk _ _ _ _ _ _ _ _ YF (pv 1) Yg (Yo _)) (@Yd _ _ _ (@Yj _ _ _ _ (@YI _ _ _ _ _ _ _ _ _ _ _ _ _ F_row_drafted hr YS (@Ya _ _ _ _ _ (pv 2) Yb (by rfl)) (by omega) (by rfl) (by rfl) (by decide) (by rfl) (by rfl)))) Yi) (@Yc _ _ _ _ _ (@Yp _ _ _ _ _ _ _ _ (@Yk _ _ _ _ _ _ _ _ VX (pv 1) (@YeA _ _ _ _ _ ZI (by rfl) (by rfl) (by decide)) rfl) (@Yd _ _ _ (@Yj _ _ _ _ (@YI _ _ _ _ _ _ _ _ _ _ _ _ _ Z3u hr YS (@Ya _ _ _ _ _ (pv 1) (@Ya _ _ _ _ _ (pv 2) Yb (by rfl)) (by rfl)) (by omega) (by rfl) (by rfl) (by decide) (by rfl) (by rfl)))) Yi) (@Yc _ _ _ _ _ (@Yp _ _ _ _ _ _ _ _ (@Yk _ _ _ _ _ _ _ _ YF (pv 1) Yg (Yo _)) (@Yd _ _ _ (@Yj _ _ _ _ (@YI _ _ _ _ _ _ _ _ _ _ _ _ _ Z4G hr YS (@Ya _ _ _ _ _ (pv 2) Yb (by rfl)) (by omega) (by rfl) (by rfl) (by decide) (by rfl) (by rfl)))) Yi) (@Yc _ _ _ _ _ (@Yp _ _ _ _ _ _ _ _ (@Yk _ _ _ _ _ _ _ _ YF (pv 1) Yg (Yo _)) (@Yd _ _ _ (@Yj _ _ _ _ (@YI _ _ _ _ _ _ _ _ _ _ _ _ _ Z4Y hr YS (@Ya _ _ _ _ _ (pv 2) Yb (by rfl)) (by omega) (by rfl) (by rfl) (by decide) (by rfl) (by rfl)))) Yi) (@Yd _ _ _ (@YN _ _ _ _ _ _ _ _ _ _ _ ⟨x_NoNote,r_NoNote⟩ YX (@Ya _ _ _ _ _ Yg Yb (by rfl)) (by rfl) (by rfl) (by rfl) (by decide) (by rfl) (by rfl))))))))))))),?_⟩
 obtain rfl:d=m:=by omega
 cases n with
 | leaf l w =>
  obtain ⟨a,rfl,ha⟩:=hv
  have hwl:=hok.wd.1
  walk_at "rd"
  refine ⟨_,SqT.of ha,_,rfl,rfl,YG (fun c=>⟨few (by decide),qe (if_neg fun z=>c (emp.mpr z)) H (.refl _)⟩) fun c=>⟨_,SqT.of ha,_,rfl,_,SqT.of ha,_,rfl,Xb rfl ⟨w,rfl,by omega,fun v H' hw s' hv=>q _ v H' ?_ s' hv,fun hw H' s'=>qe ?_ H' s'⟩⟩⟩
  ·have hl:l=[]:=Classical.byContradiction fun z=>c fun y=>z (emp.mp y)
   rw [dl,if_pos (show (Rd.Note.leaf l w).lab=[] from hl),dn,if_pos hw]
  ·have hl:l=[]:=Classical.byContradiction fun z=>c fun y=>z (emp.mp y)
   rw [dl,if_pos (show (Rd.Note.leaf l w).lab=[] from hl),dn,if_neg (by rw [hw];decide)]
 | node l w ks =>
  obtain ⟨a,b,us,rfl,ha,hb,hn⟩:=hv
  obtain ⟨d,rfl⟩:∃ e,d=e+1:=by
   match d,hok with
   | e+1,_=>exact ⟨e,rfl⟩
  have hk:Rd.Oks d ks:=hok.2.2
  have key:∀ m:Mk,V.str (S w)=V.str (ms m)→w=mc m:=fun m z=>by rw [Xo] at z;exact Xi (V.str.inj z)
  have nkey:∀ m:Mk,¬ V.str (S w)=V.str (ms m)→w≠mc m:=fun m z y=>z (by rw [y,Xo])
  have nm:∀ {m m':Mk},w=mc m→m≠m'→w≠mc m':=fun {m m'} e n z=>n (Ydn (e.symm.trans z))
  walk_at "rd"
  refine ⟨_,SqT.of ha,_,rfl,rfl,YG (fun c=>⟨few (by decide),qe (if_neg fun z=>c (emp.mpr z)) H (.refl _)⟩) fun c=>⟨_,SqT.of ha,_,rfl,_,SqT.of ha,_,rfl,YH (by simp) ⟨rfl,?_⟩⟩⟩
  have hl:l=[]:=Classical.byContradiction fun z=>c fun y=>z (emp.mp y)
  have hdl:dl (.node l w ks)=dn (.node l w ks):=if_pos hl
  rw [hdl] at q qe
  have dr:∀ {f:Rd.Notes→Option Sh},dn (.node l w ks)=f ks→UC Z2 f d ks b H Q E:=fun {f} e=>⟨⟨us,hb,hn⟩,hk,fun s v H' h=>q s v H' (e.trans h),fun h=>qe (e.trans h)⟩
  refine YG (fun c1=>?_) fun c1=>⟨rfl,YG (fun c2=>?_) fun c2=>⟨rfl,YG (fun c3=>?_) fun c3=>fun t ht=>⟨_,.inr ht,rfl,rfl,?_⟩⟩⟩
  ·have e:=key .whole c1
   exact ⟨b,ks,d,rfl,dr (by rw [dn,if_pos e])⟩
  ·have e:=key .text c2
   exact ⟨b,ks,d,rfl,dr (by rw [dn,if_neg (nm e (by decide)),if_pos e])⟩
  ·have e:=key .row c3
   exact ⟨b,ks,d,rfl,.inl rfl,dr (by rw [dn,if_neg (nm e (by decide)),if_neg (nm e (by decide)),if_pos e];rfl)⟩
  have n1:=nkey .whole c1
  have n2:=nkey .text c2
  have n3:=nkey .row c3
  rw [in3w]
  refine YG (fun c4=>?_) fun c4=>⟨rfl,YG (fun c5=>?_) fun c5=>⟨rfl,YG (fun c6=>?_) fun c6=>⟨few (by decide),qe ?_ H (.refl _)⟩⟩⟩
  ·rcases of_decide_eq_true c4 with e | e | e
   ·exact ⟨b,.many,ks,d,by rw [e,Xo],.inl rfl,dr (by rw [dn,if_neg n1,if_neg n2,if_neg n3,if_pos e];rfl)⟩
   ·exact ⟨b,.rising,ks,d,by rw [e,Xo],.inl rfl,dr (by rw [dn,if_neg n1,if_neg n2,if_neg n3,if_neg (nm e (by decide)),if_pos e];rfl)⟩
   ·exact ⟨b,.unlike,ks,d,by rw [e,Xo],.inl rfl,dr (by rw [dn,if_neg n1,if_neg n2,if_neg n3,if_neg (nm e (by decide)),if_neg (nm e (by decide)),if_pos e];rfl)⟩
  ·have e:=key .alike c5
   exact ⟨b,ks,d,rfl,.inl rfl,dr (by rw [dn,if_neg n1,if_neg n2,if_neg n3,if_neg (nm e (by decide)),if_neg (nm e (by decide)),if_neg (nm e (by decide)),if_pos e];rfl)⟩
  ·have e:=key .pick c6
   exact ⟨b,ks,d,rfl,.inl rfl,dr (by rw [dn,if_neg n1,if_neg n2,if_neg n3,if_neg (nm e (by decide)),if_neg (nm e (by decide)),if_neg (nm e (by decide)),if_neg (nm e (by decide)),if_pos e];rfl)⟩
  ·have c4':¬ (w=mc .many∨w=mc .rising∨w=mc .unlike):=fun z=>c4 (decide_eq_true z)
   rw [dn,if_neg n1,if_neg n2,if_neg n3,if_neg (fun z=>c4' (.inl z)),if_neg (fun z=>c4' (.inr (.inl z))),if_neg (fun z=>c4' (.inr (.inr z))),if_neg (nkey .alike c5),if_neg (nkey .pick c6)]
def WV (t:List Nat):Option Sh:=match Rd.parse t with
 | some n=>dl n
 | none=>none
def Z3m (K:PySem.W.Frag) (CN CC:Addr):Sp:=fun vs H Q E=>∃ x:V,vs=[x]∧((Yas K H x∧E (.ref CN) none H)∨∃ t:List Nat,x = .str (S t)∧t.length≤100000∧(¬ (t.length≤2000∧Rd.okD 0 t)→E (.ref CC) none H)∧(t.length≤2000→Rd.okD 0 t→WV t=none→∀ H',Same H H'→E (.ref CN) none H')∧(∀ s v H',t.length≤2000→Rd.okD 0 t→WV t=some s→SA H' s v→Same H H'→Q v H'))
theorem QP {k:Nat} {Z1 Z2 Z3 Z6 Z4 Z5 Z0:Addr} (R:g.Raw "read_draft" "read_draft" Z25 ["text"]) (F_read_note:g.FnX k "read_note" ["text"] (Z3t g.K Z2 Z3)) (ZB:g.FnX k "shape_drafted" ["note"] (VG Z2 8)):g.FnX (k+1) "read_draft" ["text"] (Z3m g.K Z2 Z3):=by
 refine R.fnX QN (fun vs H Q E h=>by obtain ⟨x,rfl,hx⟩:=h;rfl) fun f_ cdv A outer s H vs Q E hr h=>?_
 obtain ⟨x,rfl,hx⟩:=h
 refine ⟨_,(@Yd _ _ _ (@Yj _ _ _ _ (@YI _ _ _ _ _ _ _ _ _ _ _ _ _ ZB hr YS (@Ya _ _ _ _ _ (@YI _ _ _ _ _ _ _ _ _ _ _ _ _ F_read_note hr YS (@Ya _ _ _ _ _ (pv 0) Yb (by rfl)) (by omega) (by rfl) (by rfl) (by decide) (by rfl) (by rfl)) Yb (by rfl)) (by omega) (by rfl) (by rfl) (by decide) (by rfl) (by rfl)))),?_⟩
 walk_at "rd"
 refine ⟨x,rfl,?_⟩
 rcases hx with ⟨h1,h2⟩ | ⟨t,rfl,hl,qc,qn,q⟩
 ·exact .inl ⟨h1,h2⟩
 ·refine .inr ⟨t,rfl,hl,qc,fun h1 h2 h3=>qn h1 h2 (by rw [WV,h3]),fun n v H1 h1 h2 h3 hv s1=>?_⟩
  have e:WV t=dl n:=by rw [WV,h3]
  exact ⟨n,v,7,rfl,rfl,hv,Rd.parse_ok h3,fun s v' H' es s' hs=>q s v' H' h1 h2 (e.trans es) hs (s1.trans s'),fun es H' s'=>qn h1 h2 (e.trans es) H' (s1.trans s')⟩
section
variable {src:List (Option Nat)} {te:TE} {σ:St} {H:Hp} {Q:VK}
theorem Wp {K:PySem.W.Frag} {tl:TE} {b:Addr} {xs:List V} (ps:List (V×V)) (ys:List V) (ha:∀ R:V→Hp→Prop,R (.ref b) H→tl σ H R) (hS:SqT K H b xs) (hp:∀ (i:Nat) x p,xs[i]?=some x→ps[i]?=some p→∃ T,x = .ref T∧SqT K H T [p.1,p.2]) (hl:ps.length=xs.length) (hl2:ys.length=xs.length) (hlen:xs.length≤100000)
  (step:∀ (i:Nat) p y H',ps[i]?=some p→ys[i]?=some y→Same H H'→∀ R:VK,(∀ H'',Same H' H''→R y H'')→te (some p.1::some p.2::YD src σ) H' R)
  (fin:∀ D H',H D=none→Same H H'→H' D=some (.lst ys)→Q (.ref D) H'):tLC (none::none::src) (Yb1 K tl) (XA K 2 (YQ (Ys 0) (YQ (Ys 1) Xz))) XS te σ H Q:=by
 refine ha _ ⟨b,rfl,⟨xs,hS⟩,fun D hD=>?_⟩
 have h6:100000<sizeLine:=by decide
 refine US (V1.imp fun H' (e:Same H H')=>e.tup hS) (fun i zs σ' H'=>zs=ys.take i∧(∃ o o',σ'=o::o'::YD src σ)∧Same H H'∧H' D=some (.lst zs)) ⟨by simp,⟨none,none,rfl⟩,.upd_new hD _,Ye⟩ (fun i zs σ' H' p=>⟨p.2.2.1,p.2.2.2⟩) (W9 K 0 1) ?_ ?_
 ·rintro i zs σ' H' x hx ⟨rfl,⟨o,o',rfl⟩,sm,hd⟩
  have hi:=(List.getElem?_eq_some_iff.mp hx).1
  have hy:ys[i]?=some (ys[i]'(by omega)):=List.getElem?_eq_getElem _
  have hpi:ps[i]?=some (ps[i]'(by omega)):=List.getElem?_eq_getElem _
  obtain ⟨T,rfl,hT⟩:=hp i x _ hx hpi
  refine ⟨T,_,rfl,sm.tup hT,rfl,_,_,rfl,_,_,rfl,rfl,?_⟩
  refine step i _ _ H' hpi hy sm _ fun H'' s2=>⟨s2 _ _ hd,?_,(XF hy).symm,⟨_,_,rfl⟩,.upd_over hD (sm.trans s2) _,Ye⟩
  rw [List.length_take];omega
 ·rintro zs σ' H' ⟨rfl,_,sm,hd⟩
  rw [← hl2,List.take_length] at hd
  exact fin D H' hD sm hd
end
theorem Ub {K:PySem.W.Frag} {tl:TE} {g:TG} {tb:TS} {D:Ends} {σ:St} {H:Hp} (G:Addr→List V→Hp→Prop) (ha:∀ R:V→Hp→Prop,(∀ c xs H1,G c xs H1→R (.ref c) H1)→tl σ H R)
  (hb:∀ c xs H1,G c xs H1→∃ Pv:Nat→St→Hp→Prop,Pv 0 σ H1∧(∀ i σ H,i≤xs.length→Pv i σ H→SqL K H c xs)∧(∀ (i:Nat) x σ H,xs[i]?=some x→Pv i σ H→g x σ H fun σ2 H2=>tb { D with nx:=Pv (i+1),ct:=Pv (i+1),bk:=D.nx } σ2 H2)∧(∀ σ H,Pv xs.length σ H→D.nx σ H)):Yb3 (WZ K tl) g tb D σ H:=by
 refine ha _ fun c xs H1 hG=>?_
 obtain ⟨Pv,h0,hl,hs,hd⟩:=hb c xs H1 hG
 exact ⟨c,rfl,⟨xs,hl 0 σ H1 (Nat.zero_le _) h0⟩,Q5 Pv h0 hl hs hd⟩
theorem UD {K:PySem.W.Frag} {src:List (Option Nat)} {te tl:TE} {σ:St} {H:Hp} {Q:VK} (G:Addr→List V→Hp→Prop) (ha:∀ R:V→Hp→Prop,(∀ b xs H1,G b xs H1→R (.ref b) H1)→tl σ H R)
  (hb:∀ b xs H1,G b xs H1→SqL K H1 b xs∧xs.length≤100000∧∃ ys:List V,ys.length=xs.length∧(∀ (i:Nat) x y H',xs[i]?=some x→ys[i]?=some y→Same H1 H'→∀ R:VK,(∀ H'',Same H' H''→R y H'')→te (some x::YD src σ) H' R)∧(∀ D H',H1 D=none→Same H1 H'→H' D=some (.lst ys)→Q (.ref D) H')):tLC (none::src) (WZ K tl) (Ys 0) XS te σ H Q :=
 ha _ fun b xs H1 hG=>by
  obtain ⟨hS,hlen,ys,hl,step,fin⟩:=hb b xs H1 hG
  exact ⟨b,rfl,⟨xs,hS⟩,fun D hD=>UV (Wm.imp fun H' (e:Same H1 H')=>e.seq hS) ys (fun _ e=>e) hD hl hlen (fun i x y H' hx hy sm R r=>step i x y H' hx hy sm R r) fun H' sm=>fin D H' hD sm⟩
theorem VT {X:Cx} {K:PySem.W.Frag} (h:X.K=K:=by rfl):OpR X (compareOp .NotIn) (rIn K true):=by subst h;exact WQ
theorem Yd9 {l:List Nat} (h:Rd.okL l) (hn:l≠[]):Rd.labOk l=true:=by
 have h2:1≤l.length:=by
  cases l with
  | nil=>exact (hn rfl).elim
  | cons x l=>simp
 unfold Rd.labOk
 rw [decide_eq_true h2,decide_eq_true h.1,List.all_eq_true.mpr h.2]
 rfl
theorem Ok.lab {d:Nat} {n:Rd.Note} (h:Rd.Ok d n):Rd.okL n.lab:=by
 cases n with
 | leaf l w=>cases d<;>exact h.1
 | node l w ks =>
  match d,h with
  | d+1,h=>exact h.1
theorem YaH {l:List Nat} {a:Option Sh} {b:Option Kids} {k:Kids} (h:put l a b=some k):∃ s r,a=some s∧b=some r∧k = .cons l s r:=by
 match a,b,h with
 | some s,some r,h=>exact ⟨s,r,rfl,rfl,(Option.some.inj h).symm⟩
theorem Yea {k:Nat} {t:Option Int} {a:Option Sh} {s:Sh} (h:dAl k t a=some s):∃ i z,t=some i∧a=some z∧k=2∧1≤i∧i≤6∧s = .alike z i.toNat:=by
 match t,a,h with
 | some t,some z,h =>
  rw [dAl] at h
  by_cases c:k=2∧1≤t∧t≤6
  ·rw [if_pos c] at h
   exact ⟨t,z,rfl,rfl,c.1,c.2.1,c.2.2,(Option.some.inj h).symm⟩
  ·rw [if_neg c] at h;cases h
theorem Yf9 {ks:Rd.Notes} {s:Sh} (h:dWh ks=some s):Gd s∧dp s=0:=by
 match ks,h with
 | .cons a (.cons b .nil),h =>
  rw [dWh] at h
  cases ea:Wo a with
  | none=>rw [ea] at h;cases h
  | some i =>
   cases eb:Wo b with
   | none=>rw [ea,eb] at h;cases h
   | some j =>
    rw [ea,eb] at h
    cases h
    obtain ⟨_,_,_,h1,_⟩:=Ua ea
    obtain ⟨_,_,_,h2,_⟩:=Ua eb
    exact ⟨⟨h1,h2⟩,rfl⟩
theorem Yga {ks:Rd.Notes} {d:Nat} {s:Sh} (hk:Rd.Oks d ks) (h:dTx ks=some s):Gd s∧dp s=0:=by
 unfold dTx at h
 split at h
 ·rename_i w
  by_cases c:w.all Rd.isLF=true
  ·rw [if_pos c] at h
   cases h
   have h':Rd.okL []∧Rd.okW w:=by
    have:=hk.1
    cases d<;>exact this
   exact ⟨⟨h'.2.1,h'.2.2.1,c⟩,rfl⟩
  ·rw [if_neg c] at h;cases h
 ·cases h
mutual
theorem Q0:∀ (d:Nat) (n:Rd.Note) (s:Sh),Rd.Ok d n→dn n=some s→Gd s∧dp s≤d
 | d,.leaf l w,s,h,e=>by
  rw [dn] at e
  by_cases c:Rd.labOk w=true
  ·rw [if_pos c] at e
   cases e
   exact ⟨c,Nat.zero_le _⟩
  ·rw [if_neg c] at e;cases e
 | 0,.node l w ks,s,h,e=>h.elim
 | d+1,.node l w ks,s,h,e=>by
  have hk:=h.2.2
  have one:∀ {m:Mk},is1 m→(if ks.len=1 then (dhd ks).map (.one m) else none)=some s→Gd s∧dp s≤d+1:=fun {m} hm z=>by
   by_cases c:ks.len=1
   ·rw [if_pos c] at z
    obtain ⟨x,e1,rfl⟩:=Option.map_eq_some_iff.mp z
    obtain ⟨h1,h2⟩:=Ydo d ks x hk e1
    exact ⟨⟨hm,h1⟩,by simp only [dp];omega⟩
   ·rw [if_neg c] at z;cases z
  rw [dn] at e
  by_cases c1:w=mc .whole
  ·rw [if_pos c1] at e
   obtain ⟨h1,h2⟩:=Yf9 e
   exact ⟨h1,by omega⟩
  rw [if_neg c1] at e
  by_cases c2:w=mc .text
  ·rw [if_pos c2] at e
   obtain ⟨h1,h2⟩:=Yga hk e
   exact ⟨h1,by omega⟩
  rw [if_neg c2] at e
  by_cases c3:w=mc .row
  ·rw [if_pos c3] at e
   by_cases c:ks.len≤8
   ·rw [if_pos c] at e
    obtain ⟨x,e1,rfl⟩:=Option.map_eq_some_iff.mp e
    obtain ⟨h1,h2,h3⟩:=Ydp d ks x hk e1
    exact ⟨⟨by omega,h1⟩,by simp only [dp];omega⟩
   ·rw [if_neg c] at e;cases e
  rw [if_neg c3] at e
  by_cases c4:w=mc .many
  ·rw [if_pos c4] at e;exact one (.inl rfl) e
  rw [if_neg c4] at e
  by_cases c5:w=mc .rising
  ·rw [if_pos c5] at e;exact one (.inr (.inl rfl)) e
  rw [if_neg c5] at e
  by_cases c6:w=mc .unlike
  ·rw [if_pos c6] at e;exact one (.inr (.inr rfl)) e
  rw [if_neg c6] at e
  by_cases c7:w=mc .alike
  ·rw [if_pos c7] at e
   obtain ⟨i,z,e1,e2,_,i1,i2,rfl⟩:=Yea e
   obtain ⟨h1,h2⟩:=Ydo d ks z hk e2
   exact ⟨⟨by omega,by omega,h1⟩,by simp only [dp];omega⟩
  rw [if_neg c7] at e
  by_cases c8:w=mc .pick
  ·rw [if_pos c8] at e
   by_cases c:1≤ks.len∧ks.len≤10
   ·rw [if_pos c] at e
    obtain ⟨x,e1,rfl⟩:=Option.map_eq_some_iff.mp e
    obtain ⟨h1,h2,h3⟩:=Ydq d ks x hk e1
    exact ⟨⟨by omega,by omega,h1⟩,by simp only [dp];omega⟩
   ·rw [if_neg c] at e;cases e
  rw [if_neg c8] at e;cases e
theorem Ydo:∀ (d:Nat) (ks:Rd.Notes) (s:Sh),Rd.Oks d ks→dhd ks=some s→Gd s∧dp s≤d
 | d,.nil,s,_,e=>by rw [dhd] at e;cases e
 | d,.cons n r,s,h,e=>by
  rw [dhd] at e
  by_cases c:n.lab=[]
  ·rw [if_pos c] at e;exact Q0 d n s h.1 e
  ·rw [if_neg c] at e;cases e
theorem Ydp:∀ (d:Nat) (ks:Rd.Notes) (k:Kids),Rd.Oks d ks→dks ks=some k→GdR k∧dps k≤d∧k.list.length=ks.len
 | d,.nil,k,_,e=>by
  rw [dks] at e
  cases e
  exact ⟨trivial,Nat.zero_le _,rfl⟩
 | d,.cons n r,k,h,e=>by
  rw [dks] at e
  obtain ⟨s,r',e1,e2,rfl⟩:=YaH e
  obtain ⟨h1,h2,h3⟩:=Ydp d r r' h.2 e2
  by_cases c:n.lab=[]
  ·rw [if_pos c] at e1
   obtain ⟨h4,h5⟩:=Q0 d n s h.1 e1
   exact ⟨⟨rfl,h4,h1⟩,by simp only [dps];omega,by simp only [Kids.list,List.length_cons,Rd.Notes.len];omega⟩
  ·rw [if_neg c] at e1;cases e1
theorem Ydq:∀ (d:Nat) (ks:Rd.Notes) (k:Kids),Rd.Oks d ks→dbs ks=some k→GdP k∧dps k≤d∧k.list.length=ks.len
 | d,.nil,k,_,e=>by
  rw [dbs] at e
  cases e
  exact ⟨trivial,Nat.zero_le _,rfl⟩
 | d,.cons n r,k,h,e=>by
  rw [dbs] at e
  obtain ⟨s,r',e1,e2,rfl⟩:=YaH e
  obtain ⟨h1,h2,h3⟩:=Ydq d r r' h.2 e2
  by_cases c:n.lab=[]
  ·rw [if_pos c] at e1;cases e1
  ·rw [if_neg c] at e1
   obtain ⟨h4,h5⟩:=Q0 d n s h.1 e1
   exact ⟨⟨Yd9 (Ok.lab h.1) c,h4,h1⟩,by simp only [dps];omega,by simp only [Kids.list,List.length_cons,Rd.Notes.len];omega⟩
end
theorem Yfl {t:List Nat} {s:Sh} (h:WV t=some s):Gd s∧dp s≤7:=by
 unfold WV at h
 cases e:Rd.parse t with
 | none=>rw [e] at h;cases h
 | some n =>
  rw [e] at h
  dsimp only at h
  unfold dl at h
  by_cases c:n.lab=[]
  ·rw [if_pos c] at h;exact Q0 7 n s (Rd.parse_ok e) h
  ·rw [if_neg c] at h;cases h
def pts:Sh→List Sh
 | .row ks=>ks.list.map (·.2)
 | .pick ks=>ks.list.map (·.2)
 | .one _ s=>[s]
 | .alike s _=>[s]
 | _=>[]
def SAs (H:Hp) (ss:List Sh) (us:List V):Prop:=us.length=ss.length∧∀ (i:Nat) u z,us[i]?=some u→ss[i]?=some z→SA H z u
theorem SAs.keep {H H':Hp} (t:Tk H H') {ss:List Sh} {us:List V} (h:SAs H ss us):SAs H' ss us:=⟨h.1,fun i u z a b=>(h.2 i u z a b).keep t⟩
theorem SAs.nil {H:Hp}:SAs H [] []:=⟨rfl,fun i u z h=>by simp at h⟩
theorem SAs.one {H:Hp} {s:Sh} {v:V} (h:SA H s v):SAs H [s] [v]:=⟨rfl,fun i u z a b=>by
 match i with
 | 0=>cases a;cases b;exact h
 | i+1=>simp at a⟩
theorem SAs.app {H:Hp} {s1 s2:List Sh} {u1 u2:List V} (h1:SAs H s1 u1) (h2:SAs H s2 u2):SAs H (s1++s2) (u1++u2):=by
 refine ⟨by rw [List.length_append,List.length_append,h1.1,h2.1],fun i u z a b=>?_⟩
 by_cases hi:i<u1.length
 ·rw [List.getElem?_append_left hi] at a
  rw [List.getElem?_append_left (by rw [← h1.1];exact hi)] at b
  exact h1.2 i u z a b
 ·rw [List.getElem?_append_right (by omega)] at a
  rw [List.getElem?_append_right (by rw [← h1.1];omega),← h1.1] at b
  exact h2.2 _ u z a b
def Z2E (K:PySem.W.Frag):Sp:=fun vs H Q _=>∃ (s:Sh) (v:V),vs=[v]∧SA H s v∧Gd s∧∀ p us H',Same H H'→H p=none→H' p=some (.lst us)→SAs H' (pts s) us→Q (.ref p) H'
local macro_rules | `(tactic| walk_at "sd")=>`(tactic| simp (config:={ failIfUnchanged:=false,maxSteps:=10000000 }) only [Ycm,YbG,Ydl,YeM,Ydm,Yax,Yay,YbH,Yaz,Xu,Yfk,Yf7,Bool.or_false,Bool.false_or,Bool.or_self,Bool.true_or,Bool.or_true,reduceCtorEq,V.str.injEq,or_false,false_or,or_true,true_or,or_self,not_true_eq_false,not_false_eq_true,if_true,if_false,ite_true,ite_false,decide_true,decide_false,Bool.false_eq_true,and_true,true_and,and_false,false_and,false_implies,true_implies])
theorem Ybg {Z1 Z2 Z3 Z6 Z4 Z5 Z0:Addr} (R:g.Raw "parts_of" "parts_of" Z32 ["shape"]) (b_list:g.mg "list"=none) (ZI:g.ConT "OF_ONE_PART" ([.str "many",.str "rising",.str "unlike"])):g.Fn (1) "parts_of" ["shape"] (Z2E g.K):=by
 refine R.fn Z46 (fun vs H Q E h=>by obtain ⟨s,v,rfl,hs,hg,q⟩:=h;rfl) fun f_ cdv A outer s H vs Q E hr h=>?_
 obtain ⟨s,v,rfl,hs,hg,q⟩:=h
 refine ⟨_,(@Yc _ _ _ _ _ (@Yv _ _ (1) _ _ _ _ Z46.nd rfl (.inl rfl) (@Ym _ _ _ _ _ _ _ Yn (pv 0) Yf (fun _ _=>rfl)) (by rfl) (by first | exact .inl rfl | exact .inr rfl | assumption)) (@Yc _ _ _ _ _ (@Yp _ _ _ _ _ _ _ _ (@Yk _ _ _ _ _ _ _ _ YF (pv 1) Yg (Yo _)) (@Yd _ _ _ (@Yj _ _ _ _ (@Xy _ _ _ _ _ _ _ _ _ _ b_list VY (@Ya _ _ _ _ _ (@Ym _ _ _ _ _ _ _ Yn (pv 0) Yf (fun _ _=>rfl)) Yb (by rfl)) (by decide +kernel) (by rfl) (by rfl) (by decide) (by decide) (by rfl) (by rfl)))) Yi) (@Yc _ _ _ _ _ (@Yp _ _ _ _ _ _ _ _ (@Yk _ _ _ _ _ _ _ _ YF (pv 1) Yg (Yo _)) (@Yd _ _ _ (@Yj _ _ _ _ (@XG _ _ _ _ _ _ _ ([none,none]) ((["mark","part"]:List Str)) _ (XA g.K 2 (YQ (Ys 0) (YQ (Ys 1) Xz))) _ _ (.own (.own .nil)) rfl (@WA _ _ _ _ (@Ym _ _ _ _ _ _ _ Yn (pv 0) Yf (fun _ _=>rfl))) (fun cl C s₀ H₀ fp pn=>(@Xq _ _ _ _ _ (2) rfl (@YJ _ _ _ _ _ (@Yq _ _ (0) _ (show List.Nodup (["mark","part"]:List Str) by decide +kernel) rfl (.inl rfl) (.inr rfl)) (@YJ _ _ _ _ _ (@Yq _ _ (1) _ (show List.Nodup (["mark","part"]:List Str) by decide +kernel) rfl (.inl rfl) (.inr rfl)) Xf (by rfl)) (by rfl)) (by rfl) (by rfl))) (fun cl C s₀ H₀ fp pn=>Y0) (fun cl C s₀ H₀ fp pn=>(pv 1)) (by intro x hx;simp at hx) (by rfl) (by decide) (by decide +kernel) (by intro _;rfl)))) Yi) (@Yc _ _ _ _ _ (@Yp _ _ _ _ _ _ _ _ (@Uj _ _ _ _ _ _ _ (@Yk _ _ _ _ _ _ _ _ YF (pv 1) Yg (Yo _)) (@Vc _ _ _ _ (@Yk _ _ _ _ _ _ _ _ VX (pv 1) (@YeA _ _ _ _ _ ZI (by rfl) (by rfl) (by decide)) rfl))).pt (@Yd _ _ _ (@Yj _ _ _ _ (@Xk _ _ _ _ (@Ya _ _ _ _ _ (@Ym _ _ _ _ _ _ _ Yn (pv 0) Yf (fun _ _=>rfl)) Yb (by rfl))))) Yi) (@Yd _ _ _ (@Yj _ _ _ _ (@Xk _ _ _ _ Yb))))))),?_⟩
 cases s with
 | use w =>
  obtain ⟨a,rfl,ha⟩:=hs
  walk_at "rd"
  refine ⟨_,SqT.of ha,_,rfl,?_⟩
  walk_at "rd"
  walk_at "sd"
  intro c hc
  refine ⟨_,.inr hc,rfl,rfl,?_⟩
  walk_at "sd"
  exact ⟨few (by decide),fun p hp=>q p [] _ (.upd_new hp _) hp Ye .nil⟩
 | whole i j =>
  obtain ⟨a,rfl,ha⟩:=hs
  walk_at "rd"
  refine ⟨_,SqT.of ha,_,rfl,?_⟩
  walk_at "rd"
  walk_at "sd"
  intro c hc
  refine ⟨_,.inr hc,rfl,rfl,?_⟩
  walk_at "sd"
  exact ⟨few (by decide),fun p hp=>q p [] _ (.upd_new hp _) hp Ye .nil⟩
 | text w =>
  obtain ⟨a,rfl,ha⟩:=hs
  walk_at "rd"
  refine ⟨_,SqT.of ha,_,rfl,?_⟩
  walk_at "rd"
  walk_at "sd"
  intro c hc
  refine ⟨_,.inr hc,rfl,rfl,?_⟩
  walk_at "sd"
  exact ⟨few (by decide),fun p hp=>q p [] _ (.upd_new hp _) hp Ye .nil⟩
 | row ks =>
  obtain ⟨a,b,us,rfl,ha,hb,hk⟩:=hs
  obtain ⟨k1,k2⟩:=KA.iff.mp hk
  walk_at "rd"
  refine ⟨_,SqT.of ha,_,rfl,?_⟩
  walk_at "rd"
  walk_at "sd"
  refine ⟨_,SqT.of ha,_,rfl,b,rfl,us,.inr (SqT.of hb),fun p hp=>q p us _ (.upd_new hp _) hp Ye ⟨by simp [pts,k1],fun i u z a b=>?_⟩⟩
  simp only [pts,List.getElem?_map] at b
  obtain ⟨y,hy,rfl⟩:=Option.map_eq_some_iff.mp b
  exact (k2 i u y a hy).keep (.of (.upd_new hp _))
 | pick ks =>
  obtain ⟨a,b,us,rfl,ha,hb,hk⟩:=hs
  obtain ⟨k1,k2⟩:=KB.iff.mp hk
  have hl10:ks.list.length≤10:=hg.2.1
  have hw:∀ i,i<us.length→∃ (T:Addr) (w:V),us[i]?=some (.ref T)∧H T=some (.tup [.str (S (ks.list.getD i ([],.row .nil)).1),w])∧SA H (ks.list.getD i ([],.row .nil)).2 w:=fun i hi=>by
   have e1:us[i]?=some us[i]:=List.getElem?_eq_getElem hi
   have e2:ks.list[i]?=some (ks.list.getD i ([],.row .nil)):=by
    rw [List.getD_eq_getElem?_getD,List.getElem?_eq_getElem (by omega)];rfl
   obtain ⟨T,w,h1,h2,h3⟩:=k2 i _ _ e1 e2
   exact ⟨T,w,by rw [e1,h1],h2,h3⟩
  have hws:∃ ws:List V,ws.length=us.length∧∀ i w,ws[i]?=some w→∃ T,us[i]?=some (.ref T)∧H T=some (.tup [.str (S (ks.list.getD i ([],.row .nil)).1),w])∧SA H (ks.list.getD i ([],.row .nil)).2 w:=by
   refine ⟨(List.range us.length).map fun i=>if h:i<us.length then (hw i h).choose_spec.choose else .non,by simp,fun i w e=>?_⟩
   rw [List.getElem?_map] at e
   obtain ⟨j,ej,rfl⟩:=Option.map_eq_some_iff.mp e
   have hj:=(List.getElem?_eq_some_iff.mp ej).1
   rw [List.length_range] at hj
   have:j=i:=by
    rw [List.getElem?_range hj] at ej
    exact (Option.some.inj ej).symm
   subst this
   rw [dif_pos hj]
   exact ⟨_,(hw j hj).choose_spec.choose_spec⟩
  obtain ⟨ws,hwl,hws⟩:=hws
  walk_at "rd"
  refine ⟨_,SqT.of ha,_,rfl,?_⟩
  walk_at "rd"
  walk_at "sd"
  refine Wp (K:=g.K) (b:=b) (xs:=us) ((ks.list.zip ws).map fun p=>(V.str (S p.1.1),p.2)) ws (fun R r=>by walk_at "rd";exact ⟨_,SqT.of ha,_,rfl,r⟩) (SqT.of hb) ?_ (by rw [List.length_map,List.length_zip];omega) hwl (by omega) ?_ ?_
  ·intro i x p hx hp
   rw [List.getElem?_map] at hp
   obtain ⟨⟨y,w⟩,hz,rfl⟩:=Option.map_eq_some_iff.mp hp
   rw [List.getElem?_zip_eq_some] at hz
   obtain ⟨T,e1,e2,_⟩:=hws i w hz.2
   rw [hx] at e1
   have:=Option.some.inj e1
   subst this
   refine ⟨T,rfl,SqT.of ?_⟩
   rw [List.getD_eq_getElem?_getD,hz.1] at e2
   exact e2
  ·intro i p y H' hp hy sm R r
   rw [List.getElem?_map] at hp
   obtain ⟨⟨z,w⟩,hz,rfl⟩:=Option.map_eq_some_iff.mp hp
   rw [List.getElem?_zip_eq_some] at hz
   rw [hz.2] at hy
   cases hy
   walk_at "rd"
   exact r H' (.refl _)
  ·intro D H' hD sm hd
   refine q D ws H' sm hD hd ⟨by simp [pts];omega,fun i u z a b=>?_⟩
   simp only [pts,List.getElem?_map] at b
   obtain ⟨y,hy,rfl⟩:=Option.map_eq_some_iff.mp b
   obtain ⟨T,_,_,e3⟩:=hws i u a
   rw [List.getD_eq_getElem?_getD,hy] at e3
   exact e3.keep (.of sm)
 | one m s =>
  obtain ⟨a,w,rfl,ha,hs⟩:=hs
  walk_at "rd"
  refine ⟨_,SqT.of ha,_,rfl,?_⟩
  walk_at "rd"
  rcases hg.1 with rfl | rfl | rfl
  all_goals
   walk_at "sd"
   intro c hc
   refine ⟨_,.inr hc,rfl,rfl,?_⟩
   walk_at "sd"
   exact ⟨_,SqT.of ha,_,rfl,few (by decide),fun p hp=>q p [w] _ (.upd_new hp _) hp Ye (.one (hs.keep (.of (.upd_new hp _))))⟩
 | alike s t =>
  obtain ⟨a,w,rfl,ha,hs⟩:=hs
  walk_at "rd"
  refine ⟨_,SqT.of ha,_,rfl,?_⟩
  walk_at "rd"
  walk_at "sd"
  exact ⟨_,SqT.of ha,_,rfl,few (by decide),fun p hp=>q p [w] _ (.upd_new hp _) hp Ye (.one (hs.keep (.of (.upd_new hp _))))⟩
mutual
def wi:Sh→List Sh
 | .use w=>[.use w]
 | .whole i j=>[.whole i j]
 | .text w=>[.text w]
 | .row ks => .row ks::wis ks
 | .pick ks => .pick ks::wis ks
 | .one m s => .one m s::wi s
 | .alike s t => .alike s t::wi s
def wis:Kids→List Sh
 | .nil=>[]
 | .cons _ s r=>wi s++wis r
end
theorem YaI:∀ ks:Kids,wis ks=(ks.list.map (·.2)).flatMap wi
 | .nil=>rfl
 | .cons l s r=>by
  rw [wis,YaI r]
  rfl
theorem X8 (s:Sh):wi s=s::(pts s).flatMap wi:=by
 cases s<;>simp [wi,pts,YaI]
theorem Xm {s z:Sh} (h:z∈pts s):dp z<dp s:=by
 cases s with
 | row ks =>
  obtain ⟨p,hp,rfl⟩:=List.mem_map.mp h
  have:=U5 hp
  simp only [dp];omega
 | pick ks =>
  obtain ⟨p,hp,rfl⟩:=List.mem_map.mp h
  have:=U5 hp
  simp only [dp];omega
 | one m s=>simp [pts] at h;subst h;simp only [dp];omega
 | alike s t=>simp [pts] at h;subst h;simp only [dp];omega
 | _=>simp [pts] at h
theorem XN {s z:Sh} (hg:Gd s) (h:z∈pts s):Gd z:=by
 cases s with
 | row ks =>
  obtain ⟨p,hp,rfl⟩:=List.mem_map.mp h
  exact (hg.2.mem hp).2
 | pick ks =>
  obtain ⟨p,hp,rfl⟩:=List.mem_map.mp h
  exact (hg.2.2.mem hp).2
 | one m s=>simp [pts] at h;subst h;exact hg.2
 | alike s t=>simp [pts] at h;subst h;exact hg.2.2
 | _=>simp [pts] at h
theorem YbJ {s:Sh} (hg:Gd s):(pts s).length≤10:=by
 cases s with
 | row ks=>have:=hg.1;simp [pts];omega
 | pick ks=>have:=hg.2.1;simp [pts];omega
 | _=>simp [pts]
theorem Ycp:∀ {s:Sh} {n:Nat} {z:Sh},dp s<n→Gd s→z∈wi s→Gd z:=fun {s n z} hn hg h=>by
 induction n generalizing s with
 | zero=>omega
 | succ n ih =>
  rw [X8] at h
  rcases List.mem_cons.mp h with rfl | h
  ·exact hg
  ·obtain ⟨y,hy,hz⟩:=List.mem_flatMap.mp h
   exact ih (by have:=Xm hy;omega) (XN hg hy) hz
def rep:Nat→Nat
 | 0=>1
 | n+1=>10*rep n+1
theorem Yeb {l:List Sh} {n:Nat} (h:∀ z∈l,(wi z).length≤rep n):(l.flatMap wi).length≤l.length*rep n:=by
 induction l with
 | nil=>simp
 | cons a l ih =>
  rw [List.flatMap_cons,List.length_append,List.length_cons,Nat.add_mul,Nat.one_mul]
  have h1:=h a (by simp)
  have h2:=ih fun z hz=>h z (by simp [hz])
  omega
theorem Ygb:∀ {n:Nat} {s:Sh},dp s≤n→Gd s→(wi s).length≤rep n:=fun {n s} hn hg=>by
 induction n generalizing s with
 | zero =>
  have:pts s=[]:=by
   cases e:pts s with
   | nil=>rfl
   | cons z r =>
    have:=Xm (s:=s) (z:=z) (by rw [e];simp)
    omega
  rw [X8,this]
  simp [rep]
 | succ n ih =>
  rw [X8,List.length_cons]
  have h1:=Yeb (l:=pts s) (n:=n) fun z hz=>ih (by have:=Xm hz;omega) (XN hg hz)
  have h2:=YbJ hg
  have h3:=Nat.mul_le_mul_right (rep n) h2
  simp only [rep]
  omega
theorem YaJ {s:Sh} (hd:dp s≤7) (hg:Gd s):(wi s).length≤12000000:=Nat.le_trans (Ygb hd hg) (by decide)
def ZZ (K:PySem.W.Frag) (m:Nat):Sp:=fun vs H Q _=>∃ (s:Sh) (v:V),vs=[v]∧SA H s v∧Gd s∧dp s<m∧(wi s).length≤12000000∧∀ p us H',Same H H'→H p=none→H' p=some (.lst us)→SAs H' (wi s) us→Q (.ref p) H'
theorem no_sw {K:PySem.W.Frag} {vs:List V} {H:Hp} {Q:VK} {E:XK} (h:ZZ K 0 vs H Q E):False:=by
 obtain ⟨_,_,_,_,_,h,_⟩:=h
 omega
theorem QG {l:List Sh} {i:Nat} {z:Sh} (h:l[i]?=some z):(l.take (i+1)).flatMap wi=(l.take i).flatMap wi++wi z:=by
 obtain ⟨hi,e⟩:=List.getElem?_eq_some_iff.mp h
 rw [List.take_succ_eq_append_getElem hi,List.flatMap_append,e]
 simp
theorem Yec {l:List Sh} {i:Nat} {z:Sh} (h:l[i]?=some z):((l.take i).flatMap wi).length+(wi z).length≤(l.flatMap wi).length:=by
 have e:=QG h
 have e2:l=l.take (i+1)++l.drop (i+1):=(List.take_append_drop _ _).symm
 have e3:(l.flatMap wi).length=((l.take (i+1)).flatMap wi).length+((l.drop (i+1)).flatMap wi).length:=by
  rw [← List.length_append,← List.flatMap_append,← e2]
 rw [e,List.length_append] at e3
 omega
theorem Zw {k:Nat} {Z1 Z2 Z3 Z6 Z4 Z5 Z0:Addr} (R:g.Raw "shapes_within" "shapes_within" Z1a ["shape"]) (Z38:g.Fn k "parts_of" ["shape"] (Z2E g.K)) (ZT:g.Fn k "shapes_within" ["shape"] (ZZ g.K m)):g.Fn (k+1) "shapes_within" ["shape"] (ZZ g.K (m+1)):=by
 refine R.fn Z0X (fun vs H Q E h=>by obtain ⟨s,v,rfl,hs,hg,hd,hl,q⟩:=h;rfl) fun f_ cdv A outer s H vs Q E hr h=>?_
 obtain ⟨s,v,rfl,hs,hg,hd,hl,q⟩:=h
 refine ⟨_,(@Yc _ _ _ _ _ (@Yv _ _ (1) _ _ _ _ Z0X.nd rfl (.inl rfl) (@Xk _ _ _ _ (@Ya _ _ _ _ _ (pv 0) Yb (by rfl))) (by rfl) (by first | exact .inl rfl | exact .inr rfl | assumption)) (@Yc _ _ _ _ _ (@Xg _ _ _ _ _ _ _ _ PassesOwn.never rfl (@Y3 _ _ _ _ (@YE _ _ _ _ _ _ _ _ _ _ _ _ Z38 hr (@Ya _ _ _ _ _ (pv 0) Yb (by rfl)) (by omega) (by rfl) (by rfl) (by decide) (by rfl) (by rfl))) (@Yq _ _ (2) _ Z0X.nd rfl (.inl rfl) (by first | exact .inl rfl | exact .inr rfl | assumption)) (@Yd _ _ _ (@YZ _ _ _ _ (@Xx _ _ _ _ _ _ _ _ _ _ _ _ PySem.F.plainAttrs_list PySem.F.slot_list_extend PySem.F.type_list_extend YcR (pv 1) (@Ya _ _ _ _ _ (@YE _ _ _ _ _ _ _ _ _ _ _ _ ZT hr (@Ya _ _ _ _ _ (pv 2) Yb (by rfl)) (by omega) (by rfl) (by rfl) (by decide) (by rfl) (by rfl)) Yb (by rfl)) (by rfl) (by rfl) (by rfl) (by rfl) (by rfl)) (by rfl))) (by intro _;rfl)) (@Yd _ _ _ (@Yj _ _ _ _ (pv 1))))),?_⟩
 walk_at "rd"
 refine ⟨few (by decide),fun p hp=>?_⟩
 have u:=Same.upd_new hp (.lst [v])
 have hwi:=X8 s
 have hwl:(wi s).length=((pts s).flatMap wi).length+1:=by rw [hwi,List.length_cons]
 refine Ub (K:=g.K) (fun c xs H1=>Same H H1∧H1 p=some (.lst [v])∧H1 c=some (.lst xs)∧c≠p∧SAs H1 (pts s) xs) (fun R r=>?_) ?_
 ·walk_at "rd"
  exact ⟨s,v,rfl,hs.keep (.of u),hg,fun c us H1 s1 hc h1 h2=>r c us H1 ⟨u.trans s1,s1 _ _ Ye,h1,(YB Ye hc).symm,h2⟩⟩
 ·rintro c xs H1 ⟨s1,h1,h2,ncp,h3⟩
  refine ⟨fun i σ' H'=>∃ o us,σ'=[some v,some (.ref p),o]∧Same H H'∧H' c=some (.lst xs)∧SAs H' (pts s) xs∧H' p=some (.lst us)∧SAs H' (s::((pts s).take i).flatMap wi) us,⟨none,[v],rfl,s1,h2,h3,h1,by simpa using SAs.one (hs.keep (.of s1))⟩,fun i σ' H' _ ⟨o,us,_,_,h,_⟩=>SqL.of h,?_,?_⟩
  ·rintro i x σ' H' hx ⟨o,us,rfl,s2,h4,h5,h6,h7⟩
   have hi:=(List.getElem?_eq_some_iff.mp hx).1
   have hz:(pts s)[i]?=some ((pts s)[i]'(by rw [← h5.1];exact hi)):=List.getElem?_eq_getElem _
   generalize (pts s)[i]'(by rw [← h5.1];exact hi)=z at hz
   have hzm:=List.mem_of_getElem? hz
   have hfl:=Yec hz
   walk_at "rd"
   refine ⟨.inl ⟨rfl,_,SqL.of h6⟩,z,x,rfl,h5.2 i x z hx hz,XN hg hzm,by have:=Xm hzm;omega,by omega,fun p2 us2 H3 s3 hp2 h8 h9=>?_⟩
   have h6':=s3 _ _ h6
   have tk:Tk H3 (upd H3 p (.lst (us++us2))):=fun a ys ha=>by rw [Yt (Wk ha h6' (by intro z;cases z))];exact ha
   refine ⟨p,p2,us,us2,rfl,rfl,h6',h8,?_,?_⟩
   ·have:=h7.1
    have:=h9.1
    rw [List.length_cons] at *
    exact Nat.le_trans (by omega) (show 12000000≤sizeLine by decide)
   ·refine ⟨.upd_over hp (s2.trans s3) _,?_,h5.keep ((Tk.of s3).trans tk),us++us2,Ye,?_⟩
    ·rw [Yt ncp];exact s3 _ _ h4
    ·rw [QG hz,← List.cons_append]
     exact (h7.keep ((Tk.of s3).trans tk)).app (h9.keep tk)
  ·rintro σ' H' ⟨o,us,rfl,s2,h4,h5,h6,h7⟩
   rw [h5.1,List.take_length,← hwi] at h7
   walk_at "rd"
   exact q p us H' s2 hp h6 h7
theorem Q1 (w:List Nat) (i:Nat):sg (S w) i=S [w.getD i 0]:=by
 unfold sg S
 simp [Array.getD_eq_getD_getElem?,List.getD_eq_getElem?_getD]
theorem Ydr (w:List Nat):(S w).cps.size=w.length:=Yw w
theorem Ygc {w:List Nat} {i j:Nat} (h:sg (S w) i=sg (S w) j):w.getD i 0=w.getD j 0:=by
 rw [Q1,Q1] at h
 have:=Xi h
 simpa using this
theorem YbK {val:Nat→Str}:∀ {n i:Nat},i<n→(met val n).any (·==val i)=true
 | n+1,i,h=>by
  rw [Wv,YbA]
  by_cases e:i=n
  ·subst e;simp
  ·rw [YbK (n:=n) (i:=i) (by omega),Bool.true_or]
theorem YaK {val:Nat→Str}:∀ {n i j:Nat},i<j→j<n→val i=val j→(met val n).length<n
 | n+1,i,j,h1,h2,h3=>by
  have hl:=Yai val n
  rw [Wv,YbB]
  by_cases e:j=n
  ·subst e
   rw [if_pos (by rw [← h3];exact YbK h1)]
   omega
  ·have:=YaK (val:=val) (n:=n) h1 (by omega) h3
   split<;>omega
theorem YaL {w:List Nat} (h:w.Nodup):(met (sg (S w)) (S w).cps.size).length=w.length:=by
 rw [Ydr,Qg,List.length_map,List.length_range]
 intro i j hi hj e
 have e:=Ygc e
 have hp:=List.pairwise_iff_getElem.mp h i j (by omega) hj hi
 rw [List.getD_eq_getElem?_getD,List.getD_eq_getElem?_getD,List.getElem?_eq_getElem hj,List.getElem?_eq_getElem (by omega)] at e
 exact hp e
theorem Yfm {w:List Nat} (h:¬ w.Nodup):(met (sg (S w)) (S w).cps.size).length<w.length:=by
 rw [Ydr]
 have:¬ ∀ i j (hi:i<w.length) (hj:j<w.length),i<j→w[i]≠w[j]:=fun z=>h (List.pairwise_iff_getElem.mpr z)
 simp only [Classical.not_forall,Classical.not_not] at this
 obtain ⟨i,j,hi,hj,hij,e⟩:=this
 refine YaK (i:=i) (j:=j) hij hj ?_
 rw [Q1,Q1,List.getD_eq_getElem?_getD,List.getD_eq_getElem?_getD,List.getElem?_eq_getElem hi,List.getElem?_eq_getElem hj]
 show S [w[i]]=S [w[j]]
 rw [e]
theorem Uo {ts:List Str}:(met (fun i=>ts.getD i "") ts.length).length<ts.length↔¬ ts.Nodup:=by
 have get:∀ i (h:i<ts.length),ts.getD i ""=ts[i]:=fun i h=>by rw [List.getD_eq_getElem?_getD,List.getElem?_eq_getElem h];rfl
 by_cases h:ts.Nodup
 ·have:(met (fun i=>ts.getD i "") ts.length).length=ts.length:=by
   rw [Qg,List.length_map,List.length_range]
   intro i j hi hj e
   rw [get i (by omega),get j hj] at e
   exact List.pairwise_iff_getElem.mp h i j (by omega) hj hi e
  exact ⟨fun z=>by omega,fun z=>(z h).elim⟩
 ·refine ⟨fun _=>h,fun _=>?_⟩
  have:¬ ∀ i j (hi:i<ts.length) (hj:j<ts.length),i<j→ts[i]≠ts[j]:=fun z=>h (List.pairwise_iff_getElem.mpr z)
  simp only [Classical.not_forall,Classical.not_not] at this
  obtain ⟨i,j,hi,hj,hij,e⟩:=this
  refine YaK (i:=i) (j:=j) hij hj ?_
  rw [get i hi,get j hj,e]
theorem Up {ls:List (List Nat)}:(ls.map S).Nodup↔ls.Nodup:=by
 induction ls with
 | nil=>simp
 | cons a l ih =>
  rw [List.map_cons,List.nodup_cons,List.nodup_cons,ih]
  have:S a∈l.map S↔a∈l:=⟨fun h=>by
   obtain ⟨b,hb,e⟩:=List.mem_map.mp h
   rw [← Xi e];exact hb,fun h=>List.mem_map.mpr ⟨a,h,rfl⟩⟩
  rw [this]
def mks (ks:Kids):List (List Nat):=ks.list.map (·.1)
theorem KB.cols {K:PySem.W.Frag} {H:Hp}:∀ {ks:Kids} {us:List V},KB H ks us→∃ ps:List (V×V),ps.length=us.length∧(∀ (i:Nat) x p,us[i]?=some x→ps[i]?=some p→∃ T,x = .ref T∧SqT K H T [p.1,p.2])∧(∀ (i:Nat) p y,ps[i]?=some p→ks.list[i]?=some y→p.1 = .str (S y.1)∧SA H y.2 p.2)
 | .nil,us,e=>by
  have:us=[]:=e
  subst this
  exact ⟨[],rfl,fun i x p h=>by simp at h,fun i p y h=>by simp at h⟩
 | .cons l s r,us,⟨b,w,us',e,h0,h1,h2⟩=>by
  subst e
  obtain ⟨ps,g1,g2,g3⟩:=KB.cols (K:=K) h2
  refine ⟨(.str (S l),w)::ps,by simp [g1],fun i x p hx hp=>?_,fun i p y hp hy=>?_⟩
  ·match i with
   | 0=>cases hx;cases hp;exact ⟨b,rfl,SqT.of h0⟩
   | i+1=>exact g2 i x p (by simpa using hx) (by simpa using hp)
  ·match i with
   | 0=>cases hp;cases hy;exact ⟨rfl,h1⟩
   | i+1=>exact g3 i p y (by simpa using hp) (by simpa [Kids.list] using hy)
theorem KB.len {H:Hp} {ks:Kids} {us:List V} (h:KB H ks us):us.length=ks.list.length:=(KB.iff.mp h).1
def Ap:Sh→Prop
 | .text w=>w.Nodup
 | .pick ks=>(mks ks).Nodup
 | _=>True
def X0 (s:Sh):Prop:=∀ z∈wi s,Ap z
def Rg:Sh→Prop
 | .whole i j=>i≤j
 | _=>True
def Range (s:Sh):Prop:=∀ z∈wi s,Rg z
def YaM:Sh→Prop
 | .text _=>False
 | .pick _=>False
 | _=>True
theorem SA.plain {H:Hp} {s:Sh} {v:V} (h:SA H s v) (hg:Gd s) (hp:YaM s):∃ (a:Addr) (m:Mk) (r:List V),v = .ref a∧H a=some (.tup (.str (ms m)::r))∧m ≠ .text∧m ≠ .pick:=by
 cases s with
 | use w=>obtain ⟨a,e,h⟩:=h;exact ⟨a,_,_,e,h,by decide,by decide⟩
 | whole i j=>obtain ⟨a,e,h⟩:=h;exact ⟨a,_,_,e,h,by decide,by decide⟩
 | text w=>exact hp.elim
 | row ks=>obtain ⟨a,b,us,e,h,_⟩:=h;exact ⟨a,_,_,e,h,by decide,by decide⟩
 | pick ks=>exact hp.elim
 | one m s =>
  obtain ⟨a,w,e,h,_⟩:=h
  refine ⟨a,m,_,e,h,?_,?_⟩<;>(rcases hg.1 with rfl | rfl | rfl<;>decide)
 | alike s t=>obtain ⟨a,w,e,h,_⟩:=h;exact ⟨a,_,_,e,h,by decide,by decide⟩
def Z2q (K:PySem.W.Frag) (CT:Addr):Sp:=fun vs H Q E=>∃ (s:Sh) (v:V),vs=[v]∧SA H s v∧Gd s∧dp s≤8∧(wi s).length≤12000000∧(X0 s→∀ H',Same H H'→Q .non H')∧(¬ X0 s→∀ H',Same H H'→E (.ref CT) none H')
theorem Z4H {k:Nat} {Z1 Z2 Z3 Z6 Z4 Z5 Z0:Addr} (R:g.Raw "refuse_twice" "refuse_twice" Z1u ["draft"]) (ZT:g.Fn k "shapes_within" ["shape"] (ZZ g.K 9)) (b_len:g.mg "len"=none) (b_set:g.mg "set"=none) (x_Twice:g.mg "Twice"=some (.ref Z6)) (r_Twice:PySem.W.excIn g.K Z6 YY "ValueError.__new__"=true):g.FnX (k+1) "refuse_twice" ["draft"] (Z2q g.K Z6):=by
 refine R.fnX Z2m (fun vs H Q E h=>by obtain ⟨s,v,rfl,hs,hg,hd,hl,q,qe⟩:=h;rfl) fun f_ cdv A outer s H vs Q E hr h=>?_
 obtain ⟨s,v,rfl,hs,hg,hd,hl,q,qe⟩:=h
 refine ⟨_,(@Yd _ _ _ (@Xg _ _ _ _ _ _ _ _ PassesOwn.leaving rfl (@Y3 _ _ _ _ (@YE _ _ _ _ _ _ _ _ _ _ _ _ ZT hr (@Ya _ _ _ _ _ (pv 0) Yb (by rfl)) (by omega) (by rfl) (by rfl) (by decide) (by rfl) (by rfl))) (@Yq _ _ (1) _ Z2m.nd rfl (.inl rfl) (by first | exact .inl rfl | exact .inr rfl | assumption)) (@Yc _ _ _ _ _ (@Yp _ _ _ _ _ _ _ _ (@VV _ _ _ _ _ _ _ (@Yk _ _ _ _ _ _ _ _ YF (@Ym _ _ _ _ _ _ _ Yn (pv 1) Yf (fun _ _=>rfl)) Yg (Yo _)) (@Vb _ _ _ _ (@Yk _ _ _ _ _ _ _ _ QT (@YL _ _ _ _ _ _ _ _ _ _ b_len WG (@Ya _ _ _ _ _ (@Xy _ _ _ _ _ _ _ _ _ _ b_set QM (@Ya _ _ _ _ _ (@Ym _ _ _ _ _ _ _ Yn (pv 1) Yf (fun _ _=>rfl)) Yb (by rfl)) (by decide +kernel) (by rfl) (by rfl) (by decide) (by decide) (by rfl) (by rfl)) Yb (by rfl)) (by decide +kernel) (by rfl) (by rfl) (by decide) (by decide) (by rfl) (by rfl)) (@YL _ _ _ _ _ _ _ _ _ _ b_len Xl (@Ya _ _ _ _ _ (@Ym _ _ _ _ _ _ _ Yn (pv 1) Yf (fun _ _=>rfl)) Yb (by rfl)) (by decide +kernel) (by rfl) (by rfl) (by decide) (by decide) (by rfl) (by rfl)) (Yo _)))).pt (@Yd _ _ _ (@YN _ _ _ _ _ _ _ _ _ _ _ ⟨x_Twice,r_Twice⟩ YX (@Ya _ _ _ _ _ Yg Yb (by rfl)) (by rfl) (by rfl) (by rfl) (by decide) (by rfl) (by rfl))) Yi) (@Yd _ _ _ (@Yp _ _ _ _ _ _ _ _ (@VV _ _ _ _ _ _ _ (@Yk _ _ _ _ _ _ _ _ YF (@Ym _ _ _ _ _ _ _ Yn (pv 1) Yf (fun _ _=>rfl)) Yg (Yo _)) (@Vb _ _ _ _ (@Yk _ _ _ _ _ _ _ _ QT (@YL _ _ _ _ _ _ _ _ _ _ b_len WG (@Ya _ _ _ _ _ (@Xy _ _ _ _ _ _ _ _ _ _ b_set VS (@Ya _ _ _ _ _ (@XG _ _ _ _ _ _ _ ([none,none]) ((["mark","part"]:List Str)) _ (XA g.K 2 (YQ (Ys 0) (YQ (Ys 1) Xz))) _ _ (.own (.own .nil)) rfl (@WA _ _ _ _ (@Ym _ _ _ _ _ _ _ Yn (pv 1) Yf (fun _ _=>rfl))) (fun cl C s₀ H₀ fp pn=>(@Xq _ _ _ _ _ (2) rfl (@YJ _ _ _ _ _ (@Yq _ _ (0) _ (show List.Nodup (["mark","part"]:List Str) by decide +kernel) rfl (.inl rfl) (.inr rfl)) (@YJ _ _ _ _ _ (@Yq _ _ (1) _ (show List.Nodup (["mark","part"]:List Str) by decide +kernel) rfl (.inl rfl) (.inr rfl)) Xf (by rfl)) (by rfl)) (by rfl) (by rfl))) (fun cl C s₀ H₀ fp pn=>Y0) (fun cl C s₀ H₀ fp pn=>(pv 0)) (by intro x hx;simp at hx) (by rfl) (by decide) (by decide +kernel) (by intro _;rfl)) Yb (by rfl)) (by decide +kernel) (by rfl) (by rfl) (by decide) (by decide) (by rfl) (by rfl)) Yb (by rfl)) (by decide +kernel) (by rfl) (by rfl) (by decide) (by decide) (by rfl) (by rfl)) (@YL _ _ _ _ _ _ _ _ _ _ b_len YW (@Ya _ _ _ _ _ (@Ym _ _ _ _ _ _ _ Yn (pv 1) Yf (fun _ _=>rfl)) Yb (by rfl)) (by decide +kernel) (by rfl) (by rfl) (by decide) (by decide) (by rfl) (by rfl)) (Yo _)))).pt (@Yd _ _ _ (@YN _ _ _ _ _ _ _ _ _ _ _ ⟨x_Twice,r_Twice⟩ YX (@Ya _ _ _ _ _ Yg Yb (by rfl)) (by rfl) (by rfl) (by rfl) (by decide) (by rfl) (by rfl))) Yi))) (by intro _;rfl))),?_⟩
 have e1:∀ m m':Mk,m≠m'→¬ V.str (ms m)=V.str (ms m'):=fun m m' h z=>h (by have:=V.str.inj z;rwa [Xu] at this)
 refine Ub (K:=g.K) (fun c xs H1=>Same H H1∧H1 c=some (.lst xs)∧SAs H1 (wi s) xs) (fun R r=>?_) ?_
 ·walk_at "rd"
  exact ⟨s,v,rfl,hs,hg,by omega,hl,fun c us H1 s1 hc h1 h2=>r c us H1 ⟨s1,h1,h2⟩⟩
 ·rintro c xs H1 ⟨s1,h1,h2⟩
  refine ⟨fun i σ' H'=>∃ o,σ'=[some v,o]∧Same H H'∧H' c=some (.lst xs)∧SAs H' (wi s) xs∧∀ j z,j<i→(wi s)[j]?=some z→Ap z,⟨none,rfl,s1,h1,h2,fun j z h=>by omega⟩,fun i σ' H' _ ⟨o,_,_,h,_⟩=>SqL.of h,?_,?_⟩
  ·rintro i x σ' H' hx ⟨o,rfl,s2,h4,h5,h6⟩
   have hi:=(List.getElem?_eq_some_iff.mp hx).1
   have hz:(wi s)[i]?=some ((wi s)[i]'(by rw [← h5.1];exact hi)):=List.getElem?_eq_getElem _
   generalize (wi s)[i]'(by rw [← h5.1];exact hi)=z at hz
   have hzm:=List.mem_of_getElem? hz
   have hzg:=Ycp (n:=9) (by omega) hg hzm
   have hzs:=h5.2 i x z hx hz
   have nx:Ap z→∀ j y,j<i+1→(wi s)[j]?=some y→Ap y:=fun ha j y hj hy=>by
    rcases Nat.lt_succ_iff_lt_or_eq.mp hj with hj | rfl
    ·exact h6 j y hj hy
    ·rw [hz] at hy;cases hy;exact ha
   have no:¬ Ap z→¬ X0 s:=fun h1 h2=>h1 (h2 z hzm)
   have plain:YaM z→Ap z:=fun h=>by cases z<;>first | trivial | exact h.elim
   by_cases hp:YaM z
   ·obtain ⟨a,m,r,rfl,ha1,n1,n2⟩:=hzs.plain hzg hp
    walk_at "rd"
    exact ⟨_,SqT.of ha1,_,YC (j:=0) rfl,rfl,YH (e1 _ _ n1) ⟨_,SqT.of ha1,_,YC (j:=0) rfl,rfl,YH (e1 _ _ n2) ⟨s2,h4,h5,nx (plain hp)⟩⟩⟩
   cases z with
   | text w =>
    obtain ⟨a,rfl,ha⟩:=hzs
    have hwl:w.length≤62:=hzg.2.1
    have hsw:=Yw w
    walk_at "rd"
    refine ⟨_,SqT.of ha,_,rfl,rfl,Xb rfl ⟨_,SqT.of ha,_,rfl,S w,rfl,by omega,fun b hb=>?_⟩⟩
    have u:=Same.upd_new hb (VB b (met (sg (S w)) (S w).cps.size).length)
    refine ⟨_,Ye,_,SqT.of (u _ _ ha),_,rfl,S w,rfl,few (by omega),YG (fun c1=>⟨few (by decide),qe (no fun z=>?_) _ (s2.trans u)⟩) fun c1=>⟨_,SqT.of (u _ _ ha),_,rfl,rfl,YH (e1 .text .pick (by decide)) ⟨s2.trans u,u _ _ h4,h5.keep (.of u),nx ?_⟩⟩⟩
    ·rw [YaL z] at c1
     omega
    ·by_cases z:w.Nodup
     ·exact z
     ·have:=Yfm z
      omega
   | pick ks =>
    obtain ⟨a,b,us,rfl,ha,hb,hk⟩:=hzs
    have hl10:ks.list.length≤10:=hzg.2.1
    have hul:=hk.len
    obtain ⟨ps,g1,g2,g3⟩:=KB.cols (K:=g.K) hk
    walk_at "rd"
    refine ⟨_,SqT.of ha,_,rfl,rfl,YH (e1 .pick .text (by decide)) ⟨_,SqT.of ha,_,rfl,rfl,Xb rfl ?_⟩⟩
    refine Wp (K:=g.K) (b:=b) (xs:=us) ps (((mks ks).map S).map V.str) (fun R r=>by walk_at "rd";exact ⟨_,SqT.of ha,_,rfl,r⟩) (SqT.of hb) g2 g1 (by simp [mks,hul]) (by omega) ?_ ?_
    ·intro j p y H2 hp hy sm R r
     rw [List.getElem?_map,List.getElem?_map,mks,List.getElem?_map] at hy
     have hj:=(List.getElem?_eq_some_iff.mp hp).1
     have hkj:ks.list[j]?=some (ks.list[j]'(by omega)):=List.getElem?_eq_getElem _
     rw [hkj] at hy
     have hy':=Option.some.inj hy
     subst hy'
     obtain ⟨z1,_⟩:=g3 j p _ hp hkj
     walk_at "rd"
     rw [z1]
     exact r H2 (.refl _)
    ·intro D H2 hD sm hd
     have hml:((mks ks).map S).length=ks.list.length:=by simp [mks]
     refine ⟨D,rfl,(mks ks).map S,SqL.of hd,by omega,fun a2 ha2=>?_⟩
     have u:=Same.upd_new ha2 (VB a2 (met (fun i=>((mks ks).map S).getD i "") ((mks ks).map S).length).length)
     have s3:=sm.trans u
     refine ⟨_,Ye,_,SqT.of (s3 _ _ ha),_,rfl,b,rfl,us,.inr (SqT.of (s3 _ _ hb)),YG (fun c1=>⟨few (by decide),qe (no fun z=>?_) _ (s2.trans s3)⟩) fun c1=>⟨s2.trans s3,s3 _ _ h4,h5.keep (.of s3),nx ?_⟩⟩
     ·have z':(mks ks).Nodup:=z
      have:=mt Uo.mp (fun w=>w (Up.mpr z'))
      omega
     ·refine Classical.byContradiction fun z=>c1 ?_
      have:=Uo.mpr (fun w=>z (Up.mp w))
      omega
   | _=>exact (hp trivial).elim
  ·rintro σ' H' ⟨o,rfl,s2,h4,h5,h6⟩
   refine q (fun z hz=>?_) H' s2
   obtain ⟨j,hj,e⟩:=List.mem_iff_getElem.mp hz
   exact h6 j z (by rw [h5.1];exact hj) (by rw [List.getElem?_eq_getElem hj,e])
def notWh:Sh→Prop
 | .whole _ _=>False
 | _=>True
theorem SA.notWh {H:Hp} {s:Sh} {v:V} (h:SA H s v) (hg:Gd s) (hp:notWh s):∃ (a:Addr) (m:Mk) (r:List V),v = .ref a∧H a=some (.tup (.str (ms m)::r))∧m ≠ .whole:=by
 cases s with
 | use w=>obtain ⟨a,e,h⟩:=h;exact ⟨a,_,_,e,h,by decide⟩
 | whole i j=>exact hp.elim
 | text w=>obtain ⟨a,e,h⟩:=h;exact ⟨a,_,_,e,h,by decide⟩
 | row ks=>obtain ⟨a,b,us,e,h,_⟩:=h;exact ⟨a,_,_,e,h,by decide⟩
 | pick ks=>obtain ⟨a,b,us,e,h,_⟩:=h;exact ⟨a,_,_,e,h,by decide⟩
 | one m s =>
  obtain ⟨a,w,e,h,_⟩:=h
  refine ⟨a,m,_,e,h,?_⟩
  rcases hg.1 with rfl | rfl | rfl<;>decide
 | alike s t=>obtain ⟨a,w,e,h,_⟩:=h;exact ⟨a,_,_,e,h,by decide⟩
def Z1L (K:PySem.W.Frag) (CR:Addr):Sp:=fun vs H Q E=>∃ (s:Sh) (v:V),vs=[v]∧SA H s v∧Gd s∧dp s≤8∧(wi s).length≤12000000∧(Range s→∀ H',Same H H'→Q .non H')∧(¬ Range s→∀ H',Same H H'→E (.ref CR) none H')
theorem Z3v {k:Nat} {Z1 Z2 Z3 Z6 Z4 Z5 Z0:Addr} (R:g.Raw "refuse_no_range" "refuse_no_range" Z0J ["draft"]) (ZT:g.Fn k "shapes_within" ["shape"] (ZZ g.K 9)) (x_NoRange:g.mg "NoRange"=some (.ref Z4)) (r_NoRange:PySem.W.excIn g.K Z4 YY "ValueError.__new__"=true):g.FnX (k+1) "refuse_no_range" ["draft"] (Z1L g.K Z4):=by
 refine R.fnX Z1J (fun vs H Q E h=>by obtain ⟨s,v,rfl,hs,hg,hd,hl,q,qe⟩:=h;rfl) fun f_ cdv A outer s H vs Q E hr h=>?_
 obtain ⟨s,v,rfl,hs,hg,hd,hl,q,qe⟩:=h
 refine ⟨_,(@Yd _ _ _ (@Xg _ _ _ _ _ _ _ _ PassesOwn.leaving rfl (@Y3 _ _ _ _ (@YE _ _ _ _ _ _ _ _ _ _ _ _ ZT hr (@Ya _ _ _ _ _ (pv 0) Yb (by rfl)) (by omega) (by rfl) (by rfl) (by decide) (by rfl) (by rfl))) (@Yq _ _ (1) _ Z1J.nd rfl (.inl rfl) (by first | exact .inl rfl | exact .inr rfl | assumption)) (@Yd _ _ _ (@Yp _ _ _ _ _ _ _ _ (@VV _ _ _ _ _ _ _ (@Yk _ _ _ _ _ _ _ _ YF (@Ym _ _ _ _ _ _ _ Yn (pv 1) Yf (fun _ _=>rfl)) Yg (Yo _)) (@Vb _ _ _ _ (@Yk _ _ _ _ _ _ _ _ UJ (@Ym _ _ _ _ _ _ _ Yn (pv 1) Yf (fun _ _=>rfl)) (@Ym _ _ _ _ _ _ _ Yn (pv 1) Yf (fun _ _=>rfl)) (Yo _)))).pt (@Yd _ _ _ (@YN _ _ _ _ _ _ _ _ _ _ _ ⟨x_NoRange,r_NoRange⟩ YX (@Ya _ _ _ _ _ Yg Yb (by rfl)) (by rfl) (by rfl) (by rfl) (by decide) (by rfl) (by rfl))) Yi)) (by intro _;rfl))),?_⟩
 have e1:∀ m m':Mk,m≠m'→¬ V.str (ms m)=V.str (ms m'):=fun m m' h z=>h (by have:=V.str.inj z;rwa [Xu] at this)
 refine Ub (K:=g.K) (fun c xs H1=>Same H H1∧H1 c=some (.lst xs)∧SAs H1 (wi s) xs) (fun R r=>?_) ?_
 ·walk_at "rd"
  exact ⟨s,v,rfl,hs,hg,by omega,hl,fun c us H1 s1 hc h1 h2=>r c us H1 ⟨s1,h1,h2⟩⟩
 ·rintro c xs H1 ⟨s1,h1,h2⟩
  refine ⟨fun i σ' H'=>∃ o,σ'=[some v,o]∧Same H H'∧H' c=some (.lst xs)∧SAs H' (wi s) xs∧∀ j z,j<i→(wi s)[j]?=some z→Rg z,⟨none,rfl,s1,h1,h2,fun j z h=>by omega⟩,fun i σ' H' _ ⟨o,_,_,h,_⟩=>SqL.of h,?_,?_⟩
  ·rintro i x σ' H' hx ⟨o,rfl,s2,h4,h5,h6⟩
   have hi:=(List.getElem?_eq_some_iff.mp hx).1
   have hz:(wi s)[i]?=some ((wi s)[i]'(by rw [← h5.1];exact hi)):=List.getElem?_eq_getElem _
   generalize (wi s)[i]'(by rw [← h5.1];exact hi)=z at hz
   have hzm:=List.mem_of_getElem? hz
   have hzg:=Ycp (n:=9) (by omega) hg hzm
   have hzs:=h5.2 i x z hx hz
   have nx:Rg z→∀ j y,j<i+1→(wi s)[j]?=some y→Rg y:=fun ha j y hj hy=>by
    rcases Nat.lt_succ_iff_lt_or_eq.mp hj with hj | rfl
    ·exact h6 j y hj hy
    ·rw [hz] at hy;cases hy;exact ha
   have no:¬ Rg z→¬ Range s:=fun h1 h2=>h1 (h2 z hzm)
   have plain:notWh z→Rg z:=fun h=>by cases z<;>first | trivial | exact h.elim
   by_cases hp:notWh z
   ·obtain ⟨a,m,r,rfl,ha1,n1⟩:=hzs.notWh hzg hp
    walk_at "rd"
    exact ⟨_,SqT.of ha1,_,YC (j:=0) rfl,rfl,YH (e1 _ _ n1) ⟨s2,h4,h5,nx (plain hp)⟩⟩
   cases z with
   | whole k j =>
    obtain ⟨a,rfl,ha⟩:=hzs
    walk_at "rd"
    refine ⟨_,SqT.of ha,_,rfl,rfl,Xb rfl ⟨_,SqT.of ha,_,rfl,_,SqT.of ha,_,rfl,k,rfl,j,rfl,YG (fun c1=>⟨few (by decide),qe (no fun z=>?_) H' s2⟩) fun c1=>⟨s2,h4,h5,nx ?_⟩⟩⟩
    ·have z':k≤j:=z
     omega
    ·show k≤j
     omega
   | _=>exact (hp trivial).elim
  ·rintro σ' H' ⟨o,rfl,s2,h4,h5,h6⟩
   refine q (fun z hz=>?_) H' s2
   obtain ⟨j,hj,e⟩:=List.mem_iff_getElem.mp hz
   exact h6 j z (by rw [h5.1];exact hj) (by rw [List.getElem?_eq_getElem hj,e])
theorem Ygd {i:Int} (h:i.natAbs<10^60):dg i=[48]∨∃ c r,48<c∧c≤57∧(∀ d∈r,48≤d∧d≤57)∧r.length≤59∧(dg i=c::r∨dg i=45::c::r):=by
 by_cases h0:i.natAbs=0
 ·have:i=0:=by omega
  subst this
  exact .inl (by decide +kernel)
 ·obtain ⟨c,r,e,hc⟩:=Ybz (n:=i.natAbs) (by omega)
  have hd:=W1 i.natAbs
  have hl:=UW (k:=60) (by decide) h
  rw [e] at hd hl
  have hc':=hd c (.head _)
  refine .inr ⟨c,r,by omega,hc'.2,fun d hd'=>hd d (.tail _ hd'),by rw [List.length_cons] at hl;omega,?_⟩
  rcases Int.natAbs_eq i with e1 | e1
  ·rw [e1];exact .inl e
  ·have:=V5 (n:=i.natAbs) (by omega)
   rw [← e1,e] at this
   exact .inr this
theorem Ycq {i:Int} (h:i.natAbs<10^60):Rd.okW (dg i):=by
 have hl:=UW (k:=60) (by decide) h
 have hd:=W1 i.natAbs
 have hne:=Ych i.natAbs
 have hw:∀ c:Nat,48≤c∧c≤57→Rd.isWS c=true:=fun c h=>by
  simp only [Rd.isWS,Rd.isLF,Rd.isFig,decide_eq_true h.1,decide_eq_true h.2,Bool.and_self,Bool.or_true,Bool.true_or]
 have h1:1≤(dg (i.natAbs:Int)).length:=by
  rcases hh:dg (i.natAbs:Int) with _ | _
  ·exact (hne hh).elim
  ·simp
 rcases Int.natAbs_eq i with e | e
 ·rw [e]
  exact ⟨h1,by omega,fun c hc=>hw c (hd c hc)⟩
 ·by_cases h0:i.natAbs=0
  ·have e2:dg i=dg (i.natAbs:Int):=by rw [show i=0 by omega];rfl
   rw [e2]
   exact ⟨h1,by omega,fun c hc=>hw c (hd c hc)⟩
  ·have e2:dg i=45::dg (i.natAbs:Int):=by
    have:=V5 (n:=i.natAbs) (by omega)
    rw [← e] at this
    exact this
   rw [e2]
   refine ⟨by simp,by rw [List.length_cons];omega,fun c hc=>?_⟩
   rcases List.mem_cons.mp hc with rfl | hc
   ·decide
   ·exact hw c (hd c hc)
theorem WN {i:Int} (h:i.natAbs<10^60):i.natAbs.log2<1920:=by
 rcases Nat.eq_zero_or_pos i.natAbs with h0 | h0
 ·rw [h0];decide
 ·rw [Nat.log2_lt (by omega)]
  exact Nat.lt_trans h (by decide +kernel)
theorem Yfn {i:Int} (h:i.natAbs<10^60):Wc (dg i)=true:=by
 rcases Ygd h with e | ⟨c,r,h1,h2,h3,h4,e | e⟩
 ·rw [e];decide
 ·rw [e]
  unfold Wc
  have h45:¬ (c::r).head?=some 45:=by simp;omega
  have hf:(c::r).all Rd.isFig=true:=by
   rw [List.all_eq_true]
   intro x hx
   have:48≤x∧x≤57:=by
    rcases List.mem_cons.mp hx with rfl | hx
    ·omega
    ·exact h3 x hx
   simp [Rd.isFig,this.1,this.2]
  rw [if_neg h45,hf,decide_eq_true (by simp:1≤(c::r).length),decide_eq_true (by simp;omega:(c::r).length≤60),show ((c::r).head?==some 48)=false by simp;omega]
  simp
 ·rw [e]
  unfold Wc
  have h45:(45::c::r).head?=some 45:=rfl
  have hf:(c::r).all Rd.isFig=true:=by
   rw [List.all_eq_true]
   intro x hx
   have:48≤x∧x≤57:=by
    rcases List.mem_cons.mp hx with rfl | hx
    ·omega
    ·exact h3 x hx
   simp [Rd.isFig,this.1,this.2]
  rw [if_pos h45,List.drop_succ_cons,List.drop_zero,hf,decide_eq_true (by simp:1≤(c::r).length),decide_eq_true (by simp;omega:(c::r).length≤60),show ((c::r).head?==some 48)=false by simp;omega]
  simp
theorem Qn {i:Int} (h:i.natAbs<10^60):Wo (.leaf [] (dg i))=some i:=YaA (Yfn h) rfl h
theorem Y1 {m m':Mk} (h:m≠m'):mc m≠mc m':=fun z=>h (Ydn z)
theorem Uq (m:Mk):Rd.okW (mc m):=by
 cases m<;>exact ⟨by decide +kernel,by decide +kernel,by decide +kernel⟩
theorem Uc (l:List Nat) (s:Sh):(nt l s).lab=l:=by cases s<;>simp [nt,Rd.Note.lab]
theorem VH:∀ ks:Kids,(nts ks).list=ks.list.map fun p=>nt p.1 p.2
 | .nil=>rfl
 | .cons l s r=>by
  rw [nts,Rd.Notes.list,VH r]
  rfl
theorem YbL (ks:Kids):(nts ks).len=ks.list.length:=by rw [← Rd.Notes.len_list,VH,List.length_map]
theorem Yds {l:List Nat} (h:Rd.labOk l=true):l≠[]:=fun z=>by rw [z] at h;exact absurd h (by decide)
theorem XO {l:List Nat} (h:Rd.labOk l=true):Rd.okL l:=by
 unfold Rd.labOk at h
 rw [Bool.and_eq_true,Bool.and_eq_true] at h
 exact ⟨of_decide_eq_true h.1.2,List.all_eq_true.mp h.2⟩
mutual
theorem U6:∀ (s:Sh) (l:List Nat),Gd s→dn (nt l s)=some s
 | .use w,l,hg=>by rw [nt,dn,if_pos (show Rd.labOk w=true from hg)]
 | .whole i j,l,hg=>by
  rw [nt,dn,if_pos rfl,dWh,Qn hg.1,Qn hg.2]
 | .text w,l,hg=>by
  rw [nt,dn,if_neg (Y1 (by decide)),if_pos rfl,dTx,if_pos hg.2.2]
 | .row ks,l,hg=>by
  rw [nt,dn,if_neg (Y1 (by decide)),if_neg (Y1 (by decide)),if_pos rfl,YbL,if_pos hg.1,Ydt ks hg.2]
  rfl
 | .pick ks,l,hg=>by
  rw [nt,dn,if_neg (Y1 (by decide)),if_neg (Y1 (by decide)),if_neg (Y1 (by decide)),if_neg (Y1 (by decide)),if_neg (Y1 (by decide)),if_neg (Y1 (by decide)),if_neg (Y1 (by decide)),if_pos rfl,YbL,if_pos ⟨hg.1,hg.2.1⟩,Ydu ks hg.2.2]
  rfl
 | .one m s,l,hg=>by
  have e:=U6 s [] hg.2
  have h1:dhd (.cons (nt [] s) .nil)=some s:=by rw [dhd,if_pos (Uc _ _),e]
  rw [nt,dn]
  rcases hg.1 with rfl | rfl | rfl
  ·rw [if_neg (Y1 (by decide)),if_neg (Y1 (by decide)),if_neg (Y1 (by decide)),if_pos rfl,h1];rfl
  ·rw [if_neg (Y1 (by decide)),if_neg (Y1 (by decide)),if_neg (Y1 (by decide)),if_neg (Y1 (by decide)),if_pos rfl,h1];rfl
  ·rw [if_neg (Y1 (by decide)),if_neg (Y1 (by decide)),if_neg (Y1 (by decide)),if_neg (Y1 (by decide)),if_neg (Y1 (by decide)),if_pos rfl,h1];rfl
 | .alike s t,l,hg=>by
  have e:=U6 s [] hg.2.2
  have ht:((t:Nat):Int).natAbs<10^60:=by rw [Int.natAbs_natCast];exact Nat.lt_of_le_of_lt hg.2.1 (by decide)
  have h1:∀ r,dhd (.cons (nt [] s) r)=some s:=fun r=>by rw [dhd,if_pos (Uc _ _),e]
  have h2:YaB (.cons (nt [] s) (.cons (.leaf [] (dg (t:Int))) .nil))=some (t:Int):=Qn ht
  have g1:=hg.1
  have g2:=hg.2.1
  rw [nt,dn,if_neg (Y1 (by decide)),if_neg (Y1 (by decide)),if_neg (Y1 (by decide)),if_neg (Y1 (by decide)),if_neg (Y1 (by decide)),if_neg (Y1 (by decide)),if_pos rfl,h1,h2,dAl,if_pos ⟨rfl,by omega,by omega⟩]
  rfl
theorem Ydt:∀ ks:Kids,GdR ks→dks (nts ks)=some ks
 | .nil,_=>by rw [nts,dks]
 | .cons l s r,⟨h1,h2,h3⟩=>by
  subst h1
  rw [nts,dks,Uc,if_pos rfl,U6 s [] h2,Ydt r h3]
  rfl
theorem Ydu:∀ ks:Kids,GdP ks→dbs (nts ks)=some ks
 | .nil,_=>by rw [nts,dbs]
 | .cons l s r,⟨h1,h2,h3⟩=>by
  rw [nts,dbs,Uc,if_neg (Yds h1),U6 s l h2,Ydu r h3]
  rfl
end
mutual
def bd:Sh→Nat
 | .use _=>0
 | .whole _ _=>1
 | .text _=>1
 | .row ks=>bds ks+1
 | .pick ks=>bds ks+1
 | .one _ s=>bd s+1
 | .alike s _=>bd s+1
def bds:Kids→Nat
 | .nil=>0
 | .cons _ s r=>max (bd s) (bds r)
end
theorem Vl {d:Nat} {l w:List Nat} (hl:Rd.okL l) (hw:Rd.okW w):Rd.Ok d (.leaf l w):=by cases d<;>exact ⟨hl,hw⟩
theorem Wq:Rd.okL []:=⟨Nat.zero_le _,fun c h=>by cases h⟩
theorem Ycr {l:List Nat} (h:Rd.labOk l=true):Rd.okW l:=by
 have h1:=XO h
 have h2:1≤l.length:=by
  cases l with
  | nil=>exact absurd h (by decide)
  | cons x l=>simp
 exact ⟨h2,by have:=h1.1;omega,fun c hc=>Rd.small_ws (h1.2 c hc)⟩
mutual
theorem Ur:∀ (s:Sh) (l:List Nat) (d:Nat),Gd s→Rd.okL l→bd s≤d→Rd.Ok d (nt l s)
 | .use w,l,d,hg,hl,_=>Vl hl (Ycr hg)
 | .whole i j,l,d,hg,hl,h=>by
  simp only [bd] at h
  obtain ⟨e,rfl⟩:∃ e,d=e+1:=⟨d - 1,by omega⟩
  exact ⟨hl,Uq _,Vl Wq (Ycq hg.1),Vl Wq (Ycq hg.2),trivial⟩
 | .text w,l,d,hg,hl,h=>by
  simp only [bd] at h
  obtain ⟨e,rfl⟩:∃ e,d=e+1:=⟨d - 1,by omega⟩
  refine ⟨hl,Uq _,Vl Wq ⟨hg.1,hg.2.1,fun c hc=>?_⟩,trivial⟩
  simp [Rd.isWS,List.all_eq_true.mp hg.2.2 c hc]
 | .row ks,l,d,hg,hl,h=>by
  simp only [bd] at h
  obtain ⟨e,rfl⟩:∃ e,d=e+1:=⟨d - 1,by omega⟩
  exact ⟨hl,Uq _,Ydv ks e hg.2 (by omega)⟩
 | .pick ks,l,d,hg,hl,h=>by
  simp only [bd] at h
  obtain ⟨e,rfl⟩:∃ e,d=e+1:=⟨d - 1,by omega⟩
  exact ⟨hl,Uq _,Ydw ks e hg.2.2 (by omega)⟩
 | .one m s,l,d,hg,hl,h=>by
  simp only [bd] at h
  obtain ⟨e,rfl⟩:∃ e,d=e+1:=⟨d - 1,by omega⟩
  exact ⟨hl,Uq _,Ur s [] e hg.2 Wq (by omega),trivial⟩
 | .alike s t,l,d,hg,hl,h=>by
  simp only [bd] at h
  obtain ⟨e,rfl⟩:∃ e,d=e+1:=⟨d - 1,by omega⟩
  have ht:((t:Nat):Int).natAbs<10^60:=by rw [Int.natAbs_natCast];exact Nat.lt_of_le_of_lt hg.2.1 (by decide)
  exact ⟨hl,Uq _,Ur s [] e hg.2.2 Wq (by omega),Vl Wq (Ycq ht),trivial⟩
theorem Ydv:∀ (ks:Kids) (d:Nat),GdR ks→bds ks≤d→Rd.Oks d (nts ks)
 | .nil,_,_,_=>trivial
 | .cons l s r,d,⟨h1,h2,h3⟩,h=>by
  simp only [bds] at h
  exact ⟨Ur s l d h2 (by rw [h1];exact Wq) (by omega),Ydv r d h3 (by omega)⟩
theorem Ydw:∀ (ks:Kids) (d:Nat),GdP ks→bds ks≤d→Rd.Oks d (nts ks)
 | .nil,_,_,_=>trivial
 | .cons l s r,d,⟨h1,h2,h3⟩,h=>by
  simp only [bds] at h
  exact ⟨Ur s l d h2 (XO h1) (by omega),Ydw r d h3 (by omega)⟩
end
theorem Yfo {s:Sh} (hg:Gd s) (hb:bd s≤6):WV (tt s)=some s∧Rd.okD 0 (tt s):=by
 have ok:=Ur s [] 6 hg Wq hb
 refine ⟨?_,(Rd.txt_d 6 _ 0 ok (by decide)).2⟩
 rw [WV,Rd.parse_txt ok]
 show dl (nt [] s)=_
 rw [dl,if_pos (Uc _ _),U6 s [] hg]
def kd:Sh→Mk
 | .use _ => .use
 | .whole _ _ => .whole
 | .text _ => .text
 | .row _ => .row
 | .pick _ => .pick
 | .one m _=>m
 | .alike _ _ => .alike
def shn:Sh→List (List Nat)
 | .use _=>[]
 | .whole i j=>[dg i,dg j]
 | .text w=>[w]
 | .row ks=>ks.list.map fun p=>tt p.2
 | .pick ks=>ks.list.map fun p=>p.1++58::tt p.2
 | .one _ s=>[tt s]
 | .alike s t=>[tt s,dg (t:Int)]
theorem W2 (w:List Nat):Rd.head [] w=w:=by unfold Rd.head;rw [if_pos rfl]
theorem Ud:∀ ns:Rd.Notes,Rd.txts ns=YM [44] (ns.list.map Rd.txt)
 | .nil=>rfl
 | .cons n .nil=>rfl
 | .cons n (.cons m r)=>by
  have ih:=Ud (.cons m r)
  show Rd.txt n++44::Rd.txts (.cons m r)=Rd.txt n++[44]++YM [44] (Rd.txt m::r.list.map Rd.txt)
  rw [ih]
  simp [Rd.Notes.list]
theorem Yfp {l:List Nat} (h:l≠[]) (s:Sh):Rd.txt (nt l s)=l++58::tt s:=by
 have hh:∀ w,Rd.head l w=l++58::w:=fun w=>by unfold Rd.head;rw [if_neg h]
 cases s<;>simp [nt,Rd.txt,tt,hh,W2]
theorem Ue (w:List Nat):tt (.use w)=w:=by simp [tt,nt,Rd.txt,W2]
theorem Q2 {s:Sh} (hg:Gd s) (hu:∀ w,s ≠ .use w):tt s=mc (kd s)++40::(YM [44] (shn s)++[41]):=by
 cases s with
 | use w=>exact (hu w rfl).elim
 | whole i j=>simp [tt,nt,Rd.txt,Rd.txts,W2,kd,shn,YM]
 | text w=>simp [tt,nt,Rd.txt,Rd.txts,W2,kd,shn,YM]
 | row ks =>
  have:(nts ks).list.map Rd.txt=shn (.row ks):=by
   rw [VH,List.map_map]
   refine List.map_congr_left fun p hp=>?_
   show Rd.txt (nt p.1 p.2)=tt p.2
   rw [(hg.2.mem hp).1]
  simp only [tt,nt,Rd.txt,W2,kd]
  rw [Ud,this]
 | pick ks =>
  have:(nts ks).list.map Rd.txt=shn (.pick ks):=by
   rw [VH,List.map_map]
   refine List.map_congr_left fun p hp=>?_
   exact Yfp (Yds (hg.2.2.mem hp).1) p.2
  simp only [tt,nt,Rd.txt,W2,kd]
  rw [Ud,this]
 | one m s=>simp [tt,nt,Rd.txt,Rd.txts,W2,kd,shn,YM]
 | alike s t=>simp [tt,nt,Rd.txt,Rd.txts,W2,kd,shn,YM]
theorem WO {s:Sh} (hg:Gd s) (hu:∀ w,s ≠ .use w):((shn s).map List.length).sum+(shn s).length+4≤(tt s).length:=by
 have h1:=Qz 44 (shn s)
 have h2:=(Xv (kd s)).1
 rw [Q2 hg hu]
 simp only [List.length_append,List.length_cons,List.length_nil]
 omega
theorem YbM:∀ {ls:List (List Nat)} {l:List Nat},l∈ls→l.length≤(ls.map List.length).sum
 | a::ls,l,h=>by
  rw [List.map_cons,List.sum_cons]
  rcases List.mem_cons.mp h with rfl | h
  ·omega
  ·have:=YbM h;omega
theorem Wr {s z:Sh} (hg:Gd s) (h:z∈pts s):(tt z).length+4≤(tt s).length:=by
 have hu:∀ w,s ≠ .use w:=fun w e=>by rw [e] at h;simp [pts] at h
 have hs:=WO hg hu
 have:∃ l∈shn s,(tt z).length≤l.length:=by
  cases s with
  | row ks =>
   obtain ⟨p,hp,rfl⟩:=List.mem_map.mp h
   exact ⟨tt p.2,List.mem_map.mpr ⟨p,hp,rfl⟩,Nat.le_refl _⟩
  | pick ks =>
   obtain ⟨p,hp,rfl⟩:=List.mem_map.mp h
   exact ⟨p.1++58::tt p.2,List.mem_map.mpr ⟨p,hp,rfl⟩,by simp;omega⟩
  | one m s=>simp [pts] at h;subst h;exact ⟨_,by simp [shn],Nat.le_refl _⟩
  | alike s t=>simp [pts] at h;subst h;exact ⟨_,by simp [shn],Nat.le_refl _⟩
  | _=>simp [pts] at h
 obtain ⟨l,hl,hz⟩:=this
 have:=YbM hl
 omega
theorem WE:Str.ofString "("=S [40]:=by decide +kernel
theorem Z02:Str.ofString ")"=S [41]:=by decide +kernel
theorem ZE:Str.ofString ","=S [44]:=by decide +kernel
theorem YbN:Str.ofString ":"=S [58]:=by decide +kernel
def vst (xs:List (List Nat)):List V:=xs.map fun x=>V.str (S x)
def Us (K:PySem.W.Frag) (m:Nat):Sp:=fun vs H Q _=>∃ (s:Sh) (v:V),vs=[v]∧SA H s v∧Gd s∧dp s<m∧(tt s).length≤1000000∧∀ H',Same H H'→Q (.str (S (tt s))) H'
theorem Yfq {K:PySem.W.Frag} {vs:List V} {H:Hp} {Q:VK} {E:XK} (h:Us K 0 vs H Q E):False:=by
 obtain ⟨_,_,_,_,_,h,_⟩:=h
 omega
def YaN (K:PySem.W.Frag) (m:Nat):Sp:=fun vs H Q _=>∃ (s:Sh) (v:V),vs=[v]∧SA H s v∧Gd s∧(∀ w,s ≠ .use w)∧dp s≤m∧(tt s).length≤1000000∧∀ p H',Same H H'→H' p=some (.lst (vst (shn s)))→Q (.ref p) H'
theorem ZC {k:Nat} {Z1 Z2 Z3 Z6 Z4 Z5 Z0:Addr} (R:g.Raw "shown_within" "shown_within" Z1v ["shape"]) (Z38:g.Fn k "parts_of" ["shape"] (Z2E g.K)) (Z1e:g.Fn k "show_shape" ["shape"] (Us g.K m)) (b_str:g.mg "str"=none):g.Fn (k+1) "shown_within" ["shape"] (YaN g.K m):=by
 refine R.fn Z1b (fun vs H Q E h=>by obtain ⟨s,v,rfl,hs,hg,hu,hd,hl,q⟩:=h;rfl) fun f_ cdv A outer s H vs Q E hr h=>?_
 obtain ⟨s,v,rfl,hs,hg,hu,hd,hl,q⟩:=h
 refine ⟨_,(@Yc _ _ _ _ _ (@Yv _ _ (1) _ _ _ _ Z1b.nd rfl (.inl rfl) (@Ym _ _ _ _ _ _ _ Yn (pv 0) Yf (fun _ _=>rfl)) (by rfl) (by first | exact .inl rfl | exact .inr rfl | assumption)) (@Yc _ _ _ _ _ (@Yp _ _ _ _ _ _ _ _ (@Yk _ _ _ _ _ _ _ _ YF (pv 1) Yg (Yo _)) (@Yd _ _ _ (@Yj _ _ _ _ (@Xk _ _ _ _ (@Ya _ _ _ _ _ (@Xy _ _ _ _ _ _ _ _ _ _ b_str XC (@Ya _ _ _ _ _ (@Ym _ _ _ _ _ _ _ Yn (pv 0) Yf (fun _ _=>rfl)) Yb (by rfl)) (by decide +kernel) (by rfl) (by rfl) (by decide) (by decide) (by rfl) (by rfl)) (@Ya _ _ _ _ _ (@Xy _ _ _ _ _ _ _ _ _ _ b_str XC (@Ya _ _ _ _ _ (@Ym _ _ _ _ _ _ _ Yn (pv 0) Yf (fun _ _=>rfl)) Yb (by rfl)) (by decide +kernel) (by rfl) (by rfl) (by decide) (by decide) (by rfl) (by rfl)) Yb (by rfl)) (by rfl))))) Yi) (@Yc _ _ _ _ _ (@Yp _ _ _ _ _ _ _ _ (@Yk _ _ _ _ _ _ _ _ YF (pv 1) Yg (Yo _)) (@Yd _ _ _ (@Yj _ _ _ _ (@Xk _ _ _ _ (@Ya _ _ _ _ _ (@Ym _ _ _ _ _ _ _ Yn (pv 0) Yf (fun _ _=>rfl)) Yb (by rfl))))) Yi) (@Yc _ _ _ _ _ (@Yp _ _ _ _ _ _ _ _ (@Yk _ _ _ _ _ _ _ _ YF (pv 1) Yg (Yo _)) (@Yd _ _ _ (@Yj _ _ _ _ (@XG _ _ _ _ _ _ _ ([none,none]) ((["mark","part"]:List Str)) _ (XA g.K 2 (YQ (Ys 0) (YQ (Ys 1) Xz))) _ _ (.own (.own .nil)) rfl (@WA _ _ _ _ (@Ym _ _ _ _ _ _ _ Yn (pv 0) Yf (fun _ _=>rfl))) (fun cl C s₀ H₀ fp pn=>(@Xq _ _ _ _ _ (2) rfl (@YJ _ _ _ _ _ (@Yq _ _ (0) _ (show List.Nodup (["mark","part"]:List Str) by decide +kernel) rfl (.inl rfl) (.inr rfl)) (@YJ _ _ _ _ _ (@Yq _ _ (1) _ (show List.Nodup (["mark","part"]:List Str) by decide +kernel) rfl (.inl rfl) (.inr rfl)) Xf (by rfl)) (by rfl)) (by rfl) (by rfl))) (fun cl C s₀ H₀ fp pn=>Y0) (fun cl C s₀ H₀ fp pn=>(@Yl _ _ _ _ _ _ _ _ Yu (@Yl _ _ _ _ _ _ _ _ Yu (pv 0) Yg) (@YE _ _ _ _ _ _ _ _ _ _ _ _ Z1e hr (@Ya _ _ _ _ _ (pv 1) Yb (by rfl)) (by omega) (by rfl) (by rfl) (by decide) (by rfl) (by rfl)))) (by intro x hx;simp at hx) (by rfl) (by decide) (by decide +kernel) (by intro _;rfl)))) Yi) (@Yc _ _ _ _ _ (@Vk _ (2) _ _ _ _ _ _ _ _ _ ([none]) ((["part"]:List Str)) _ (Ys 0) _ _ Z1b.nd rfl (.inl rfl) (.own .nil) rfl (@Y3 _ _ _ _ (@YE _ _ _ _ _ _ _ _ _ _ _ _ Z38 hr (@Ya _ _ _ _ _ (pv 0) Yb (by rfl)) (by omega) (by rfl) (by rfl) (by decide) (by rfl) (by rfl))) (fun cl C s₀ H₀ fp pn=>(@Yq _ _ (0) _ (show List.Nodup (["part"]:List Str) by decide +kernel) rfl (.inl rfl) (.inr rfl))) (fun cl C s₀ H₀ fp pn=>Y0) (fun cl C s₀ H₀ fp pn=>(@YE _ _ _ _ _ _ _ _ _ _ _ _ Z1e hr (@Ya _ _ _ _ _ (pv 0) Yb (by rfl)) (by omega) (by rfl) (by rfl) (by decide) (by rfl) (by rfl))) (by intro x hx;simp at hx) (by rfl) (by decide) (by decide +kernel) (by intro _;rfl) (by rfl) (by first | exact .inl rfl | exact .inr rfl | assumption)) (@Yc _ _ _ _ _ (@Yp _ _ _ _ _ _ _ _ (@Yk _ _ _ _ _ _ _ _ YF (pv 1) Yg (Yo _)) (@Yd _ _ _ (@YZ _ _ _ _ (@Xx _ _ _ _ _ _ _ _ _ _ _ _ PySem.F.plainAttrs_list PySem.F.slot_list_append PySem.F.type_list_append Xs (pv 2) (@Ya _ _ _ _ _ (@Xy _ _ _ _ _ _ _ _ _ _ b_str XC (@Ya _ _ _ _ _ (@Ym _ _ _ _ _ _ _ Yn (pv 0) Yf (fun _ _=>rfl)) Yb (by rfl)) (by decide +kernel) (by rfl) (by rfl) (by decide) (by decide) (by rfl) (by rfl)) Yb (by rfl)) (by rfl) (by rfl) (by rfl) (by rfl) (by rfl)) (by rfl))) Yi) (@Yd _ _ _ (@Yj _ _ _ _ (pv 2))))))))),?_⟩
 have hsum:=WO hg hu
 cases s with
 | use w=>exact (hu w rfl).elim
 | whole i j =>
  obtain ⟨a,rfl,ha⟩:=hs
  walk_at "rd"
  refine ⟨_,SqT.of ha,_,rfl,?_⟩
  walk_at "rd"
  walk_at "sd"
  refine ⟨_,SqT.of ha,_,rfl,i,rfl,WN hg.1,_,SqT.of ha,_,rfl,j,rfl,WN hg.2,few (by decide),fun p hp=>?_⟩
  rw [X4,X4]
  exact q p _ (.upd_new hp _) Ye
 | text w =>
  obtain ⟨a,rfl,ha⟩:=hs
  walk_at "rd"
  refine ⟨_,SqT.of ha,_,rfl,?_⟩
  walk_at "rd"
  walk_at "sd"
  exact ⟨_,SqT.of ha,_,rfl,few (by decide),fun p hp=>q p _ (.upd_new hp _) Ye⟩
 | pick ks =>
  obtain ⟨a,b,us,rfl,ha,hb,hk⟩:=hs
  have hl10:ks.list.length≤10:=hg.2.1
  have hul:=hk.len
  obtain ⟨ps,g1,g2,g3⟩:=KB.cols (K:=g.K) hk
  walk_at "rd"
  refine ⟨_,SqT.of ha,_,rfl,?_⟩
  walk_at "rd"
  walk_at "sd"
  refine Wp (K:=g.K) (b:=b) (xs:=us) ps (vst (shn (.pick ks))) (fun R r=>by walk_at "rd";exact ⟨_,SqT.of ha,_,rfl,r⟩) (SqT.of hb) g2 g1 (by simp [vst,shn,hul]) (by omega) ?_ ?_
  ·intro j p y H2 hp hy sm R r
   have hj:=(List.getElem?_eq_some_iff.mp hp).1
   have hkj:ks.list[j]?=some (ks.list[j]'(by omega)):=List.getElem?_eq_getElem _
   generalize ks.list[j]'(by omega)=z at hkj
   rw [vst,List.getElem?_map,shn,List.getElem?_map,hkj] at hy
   have hy':=Option.some.inj hy
   subst hy'
   have hzm:=List.mem_of_getElem? hkj
   obtain ⟨z1,z2⟩:=g3 j p _ hp hkj
   have hpt:z.2∈pts (.pick ks):=List.mem_map.mpr ⟨z,hzm,rfl⟩
   have h1:=Wr hg hpt
   have h2:=Xm hpt
   have h3:=(XO (hg.2.2.mem hzm).1).1
   have e1:=Yw z.1
   have e2:=Yw (tt z.2)
   walk_at "rd"
   rw [z1,YbN]
   refine ⟨_,rfl,few (by rw [Yw,Yw];simp;omega),z.2,p.2,rfl,z2.keep (.of sm),XN hg hpt,by omega,by omega,fun H3 s3=>⟨_,rfl,?_,?_⟩⟩
   ·rw [Yy,Yw,Yw]
    exact Nat.le_trans (by simp;omega) (show 2000000≤sizeLine by decide)
   ·rw [Yy,Yy,List.append_assoc]
    exact r H3 s3
  ·intro D H2 hD sm hd
   exact q D H2 sm hd
 | row ks =>
  have hs0:=hs
  obtain ⟨a,b,us,rfl,ha,hb,hk⟩:=hs
  have hl8:ks.list.length≤8:=hg.1
  walk_at "rd"
  refine ⟨_,SqT.of ha,_,rfl,?_⟩
  walk_at "rd"
  walk_at "sd"
  refine UD (K:=g.K) (fun b xs H1=>Same H H1∧H1 b=some (.lst xs)∧SAs H1 (pts (.row ks)) xs) (fun R r=>by walk_at "rd";exact ⟨_,_,rfl,hs0,hg,fun p us H1 s1 _ h1 h2=>r p us H1 ⟨s1,h1,h2⟩⟩) ?_
  rintro b xs H1 ⟨s1,h1,h2⟩
  have hxl:=h2.1
  refine ⟨SqL.of h1,by simp [pts] at hxl;omega,vst (shn (.row ks)),by simp [vst,shn,hxl,pts],?_,?_⟩
  ·intro i x y H2 hx hy sm R r
   have hi:=(List.getElem?_eq_some_iff.mp hx).1
   have hz:(pts (.row ks))[i]?=some ((pts (.row ks))[i]'(by omega)):=List.getElem?_eq_getElem _
   generalize (pts (.row ks))[i]'(by omega)=z at hz
   have hzm:=List.mem_of_getElem? hz
   have e1:=Wr hg hzm
   have e2:=Xm hzm
   have hy':V.str (S (tt z))=y:=by
    simp only [pts,List.getElem?_map] at hz
    obtain ⟨p,hp,rfl⟩:=Option.map_eq_some_iff.mp hz
    rw [vst,List.getElem?_map,shn,List.getElem?_map,hp] at hy
    exact Option.some.inj hy
   subst hy'
   walk_at "rd"
   exact ⟨z,x,rfl,(h2.2 i x z hx hz).keep (.of sm),XN hg hzm,by omega,by omega,fun H3 s3=>r H3 s3⟩
  ·intro D H2 hD sm hd
   exact q D H2 (s1.trans sm) hd
 | one m s =>
  have hs0:=hs
  obtain ⟨a,w,rfl,ha,hw⟩:=hs
  have e0:pts (.one m s)=[s]:=rfl
  have hm:ms m≠ms .whole∧ms m≠ms .text∧ms m≠ms .pick∧ms m≠ms .alike:=by
   rcases hg.1 with rfl | rfl | rfl<;>simp [Xu]
  walk_at "rd"
  refine ⟨_,SqT.of ha,_,rfl,?_⟩
  walk_at "rd"
  simp only [YbG,Ydl,Yaz,YbH]
  refine YH hm.1 (YH hm.2.1 (YH hm.2.2.1 ?_))
  refine UD (K:=g.K) (fun b xs H1=>Same H H1∧H1 b=some (.lst xs)∧SAs H1 (pts (.one m s)) xs) (fun R r=>by walk_at "rd";exact ⟨_,_,rfl,hs0,hg,fun p us H1 s1 _ h1 h2=>r p us H1 ⟨s1,h1,h2⟩⟩) ?_
  rintro b xs H1 ⟨s1,h1,h2⟩
  have hxl:xs.length=1:=h2.1
  refine ⟨SqL.of h1,by omega,vst (shn (.one m s)),by simp [vst,shn,hxl],?_,?_⟩
  ·intro i x y H2 hx hy sm R r
   have hi:=(List.getElem?_eq_some_iff.mp hx).1
   obtain rfl:i=0:=by omega
   have hz:(pts (.one m s))[0]?=some s:=rfl
   have hzm:=List.mem_of_getElem? hz
   have e1:=Wr hg hzm
   have e2:=Xm hzm
   have hy':V.str (S (tt s))=y:=Option.some.inj hy
   subst hy'
   walk_at "rd"
   exact ⟨s,x,rfl,(h2.2 0 x s hx hz).keep (.of sm),XN hg hzm,by omega,by omega,fun H3 s3=>r H3 s3⟩
  ·intro D H2 hD sm hd
   exact YH hm.2.2.2 (q D H2 (s1.trans sm) hd)
 | alike s t =>
  have hs0:=hs
  obtain ⟨a,w,rfl,ha,hw⟩:=hs
  have ht:((t:Nat):Int).natAbs<10^60:=by rw [Int.natAbs_natCast];exact Nat.lt_of_le_of_lt hg.2.1 (by decide)
  walk_at "rd"
  refine ⟨_,SqT.of ha,_,rfl,?_⟩
  walk_at "rd"
  walk_at "sd"
  refine UD (K:=g.K) (fun b xs H1=>Same H H1∧H1 b=some (.lst xs)∧SAs H1 (pts (.alike s t)) xs) (fun R r=>by walk_at "rd";exact ⟨_,_,rfl,hs0,hg,fun p us H1 s1 _ h1 h2=>r p us H1 ⟨s1,h1,h2⟩⟩) ?_
  rintro b xs H1 ⟨s1,h1,h2⟩
  have hxl:xs.length=1:=h2.1
  refine ⟨SqL.of h1,by omega,[.str (S (tt s))],by simp [hxl],?_,?_⟩
  ·intro i x y H2 hx hy sm R r
   have hi:=(List.getElem?_eq_some_iff.mp hx).1
   obtain rfl:i=0:=by omega
   have hz:(pts (.alike s t))[0]?=some s:=rfl
   have hzm:=List.mem_of_getElem? hz
   have e1:=Wr hg hzm
   have e2:=Xm hzm
   have hy':V.str (S (tt s))=y:=Option.some.inj hy
   subst hy'
   walk_at "rd"
   exact ⟨s,x,rfl,(h2.2 0 x s hx hz).keep (.of sm),XN hg hzm,by omega,by omega,fun H3 s3=>r H3 s3⟩
  ·intro D H2 hD sm hd
   have s2:=s1.trans sm
   refine ⟨.inl ⟨rfl,_,SqL.of hd⟩,_,SqT.of (s2 _ _ ha),_,rfl,_,rfl,WN ht,D,rfl,_,hd,(show 1<sizeLine by decide),?_⟩
   refine q D _ (.upd_over (s1.free hD) s2 _) (Ye.trans ?_)
   rw [X4]
   rfl
theorem ZM {k:Nat} {Z1 Z2 Z3 Z6 Z4 Z5 Z0:Addr} (R:g.Raw "show_shape" "show_shape" Z26 ["shape"]) (Z4Z:g.Fn k "shown_within" ["shape"] (YaN g.K m)):g.Fn (k+1) "show_shape" ["shape"] (Us g.K (m+1)):=by
 refine R.fn QO (fun vs H Q E h=>by obtain ⟨s,v,rfl,hs,hg,hd,hl,q⟩:=h;rfl) fun f_ cdv A outer s H vs Q E hr h=>?_
 obtain ⟨s,v,rfl,hs,hg,hd,hl,q⟩:=h
 refine ⟨_,(@Yc _ _ _ _ _ (@Yp _ _ _ _ _ _ _ _ (@Yk _ _ _ _ _ _ _ _ YF (@Ym _ _ _ _ _ _ _ Yn (pv 0) Yf (fun _ _=>rfl)) Yg (Yo _)) (@Yd _ _ _ (@Yj _ _ _ _ (@Ym _ _ _ _ _ _ _ Yn (pv 0) Yf (fun _ _=>rfl)))) Yi) (@Yd _ _ _ (@Yj _ _ _ _ (@Yl _ _ _ _ _ _ _ _ Yu (@Yl _ _ _ _ _ _ _ _ Yu (@Yl _ _ _ _ _ _ _ _ Yu (@Ym _ _ _ _ _ _ _ Yn (pv 0) Yf (fun _ _=>rfl)) Yg) (@Xx _ _ _ _ _ _ _ _ _ _ _ _ PySem.F.plainAttrs_str PySem.F.slot_str_join PySem.F.type_str_join Vi Yg (@Ya _ _ _ _ _ (@YE _ _ _ _ _ _ _ _ _ _ _ _ Z4Z hr (@Ya _ _ _ _ _ (pv 0) Yb (by rfl)) (by omega) (by rfl) (by rfl) (by decide) (by rfl) (by rfl)) Yb (by rfl)) (by rfl) (by rfl) (by rfl) (by rfl) (by rfl))) Yg)))),?_⟩
 have big:2000000≤sizeLine:=by decide
 by_cases hu:∃ w,s = .use w
 ·obtain ⟨w,rfl⟩:=hu
  obtain ⟨a,rfl,ha⟩:=hs
  have hq:=q H (.refl _)
  rw [Ue] at hq
  walk_at "rd"
  exact ⟨_,SqT.of ha,_,rfl,rfl,Xb rfl ⟨_,SqT.of ha,_,rfl,hq⟩⟩
 ·have hu':∀ w,s ≠ .use w:=fun w e=>hu ⟨w,e⟩
  have hsum:=WO hg hu'
  have he:=Q2 hg hu'
  have hml:=(Xv (kd s)).2
  have hkd:∃ (a:Addr) (r:List V),v = .ref a∧H a=some (.tup (.str (ms (kd s))::r))∧kd s ≠ .use:=by
   cases s with
   | use w=>exact (hu' w rfl).elim
   | whole i j=>obtain ⟨a,e,h⟩:=hs;exact ⟨a,_,e,h,by simp [kd]⟩
   | text w=>obtain ⟨a,e,h⟩:=hs;exact ⟨a,_,e,h,by simp [kd]⟩
   | row ks=>obtain ⟨a,b,us,e,h,_⟩:=hs;exact ⟨a,_,e,h,by simp [kd]⟩
   | pick ks=>obtain ⟨a,b,us,e,h,_⟩:=hs;exact ⟨a,_,e,h,by simp [kd]⟩
   | one m s=>obtain ⟨a,w,e,h,_⟩:=hs;exact ⟨a,_,e,h,by rcases hg.1 with rfl | rfl | rfl<;>simp [kd]⟩
   | alike s t=>obtain ⟨a,w,e,h,_⟩:=hs;exact ⟨a,_,e,h,by simp [kd]⟩
  obtain ⟨a,r,rfl,ha,hku⟩:=hkd
  have hjl:(mc (kd s)).length+1+(YM [44] (shn s)).length+1=(tt s).length:=by
   rw [he]
   simp only [List.length_append,List.length_cons,List.length_nil]
   omega
  walk_at "rd"
  refine ⟨_,SqT.of ha,_,YC (j:=0) rfl,rfl,YH (fun z=>hku ?_) ⟨_,SqT.of ha,_,YC (j:=0) rfl,_,rfl,?_,rfl,s,_,rfl,hs,hg,hu',by omega,hl,fun p H1 s1 hp=>?_⟩⟩
  ·have:=V.str.inj z
   rwa [Ycm,Xu] at this
  ·rw [Xo,WE,Yw,Yw];simp only [List.length_cons,List.length_nil];omega
  ·refine ⟨_,p,(shn s).map S,rfl,rfl,SqL.of (hp.trans ?_),?_,_,rfl,?_,?_,?_⟩
   ·simp [vst]
   ·rw [ZE,Yw,Qf,List.length_map]
    simp only [List.length_cons,List.length_nil]
    omega
   ·rw [ZE,XM,Xo,WE,Yy,Yw,Yw];simp only [List.length_append,List.length_cons,List.length_nil];omega
   ·rw [ZE,XM,Xo,WE,Z02,Yy,Yy,Yw,Yw];simp only [List.length_append,List.length_cons,List.length_nil];omega
   ·rw [ZE,XM,Xo,WE,Z02,Yy,Yy,Yy]
    have hq:=q H1 s1
    rw [he] at hq
    simpa using hq
def Xa:Sh→Option (List Nat)
 | .use w=>some w
 | _=>none
def Y8 (acc:List (List Nat)) (x:List Nat):List (List Nat):=if x∈acc then acc else acc++[x]
def nmu (s:Sh):List (List Nat):=((wi s).filterMap Xa).foldl Y8 []
theorem U7 (w:List Nat):∀ xs:List (List Nat),inV (.str (S w)) (vst xs)=decide (w∈xs)
 | []=>rfl
 | a::xs=>by
  have e:eqV (.str (S a)) (.str (S w))=decide (a=w):=by
   simp only [eqV]
   by_cases c:a=w
   ·subst c;simp
   ·have:S a≠S w:=fun z=>c (Xi z)
    simp [c,this]
  have ih:=U7 w xs
  rw [inV,vst,List.map_cons,List.any_cons,e]
  have ih':((xs.map fun x=>V.str (S x)).any fun y=>eqV y (.str (S w)))=decide (w∈xs):=ih
  rw [ih']
  by_cases c:a=w
  ·subst c;simp
  ·have c':¬ w=a:=fun z=>c z.symm
   simp [c,c']
theorem VI:∀ (l acc:List (List Nat)),(l.foldl Y8 acc).length≤acc.length+l.length
 | [],acc=>by simp
 | a::l,acc=>by
  rw [List.foldl_cons]
  have h1:=VI l (Y8 acc a)
  have h2:(Y8 acc a).length≤acc.length+1:=by
   unfold Y8
   split
   ·omega
   ·simp
  rw [List.length_cons]
  omega
theorem SA.use {H:Hp} {s:Sh} {v:V} (h:SA H s v) (hg:Gd s):∃ (a:Addr) (m:Mk) (r:List V),v = .ref a∧H a=some (.tup (.str (ms m)::r))∧((m ≠ .use∧Xa s=none)∨∃ w,m = .use∧s = .use w∧r=[.str (S w)]):=by
 cases s with
 | use w=>obtain ⟨a,e,h⟩:=h;exact ⟨a,_,_,e,h,.inr ⟨w,rfl,rfl,rfl⟩⟩
 | whole i j=>obtain ⟨a,e,h⟩:=h;exact ⟨a,_,_,e,h,.inl ⟨by decide,rfl⟩⟩
 | text w=>obtain ⟨a,e,h⟩:=h;exact ⟨a,_,_,e,h,.inl ⟨by decide,rfl⟩⟩
 | row ks=>obtain ⟨a,b,us,e,h,_⟩:=h;exact ⟨a,_,_,e,h,.inl ⟨by decide,rfl⟩⟩
 | pick ks=>obtain ⟨a,b,us,e,h,_⟩:=h;exact ⟨a,_,_,e,h,.inl ⟨by decide,rfl⟩⟩
 | one m s=>obtain ⟨a,w,e,h,_⟩:=h;exact ⟨a,m,_,e,h,.inl ⟨by rcases hg.1 with rfl | rfl | rfl<;>decide,rfl⟩⟩
 | alike s t=>obtain ⟨a,w,e,h,_⟩:=h;exact ⟨a,_,_,e,h,.inl ⟨by decide,rfl⟩⟩
def Z1R (K:PySem.W.Frag):Sp:=fun vs H Q _=>∃ (s:Sh) (v:V),vs=[v]∧SA H s v∧Gd s∧dp s≤8∧(wi s).length≤12000000∧∀ p H',Same H H'→H p=none→H' p=some (.lst (vst (nmu s)))→Q (.ref p) H'
theorem QQ {k:Nat} {Z1 Z2 Z3 Z6 Z4 Z5 Z0:Addr} (R:g.Raw "names_used" "names_used" Z27 ["shape"]) (ZT:g.Fn k "shapes_within" ["shape"] (ZZ g.K 9)):g.Fn (k+1) "names_used" ["shape"] (Z1R g.K):=by
 refine R.fn Z1O (fun vs H Q E h=>by obtain ⟨s,v,rfl,hs,hg,hd,hl,q⟩:=h;rfl) fun f_ cdv A outer s H vs Q E hr h=>?_
 obtain ⟨s,v,rfl,hs,hg,hd,hl,q⟩:=h
 refine ⟨_,(@Yc _ _ _ _ _ (@Yv _ _ (1) _ _ _ _ Z1O.nd rfl (.inl rfl) (@Xk _ _ _ _ Yb) (by rfl) (by first | exact .inl rfl | exact .inr rfl | assumption)) (@Yc _ _ _ _ _ (@Xg _ _ _ _ _ _ _ _ PassesOwn.never rfl (@Y3 _ _ _ _ (@YE _ _ _ _ _ _ _ _ _ _ _ _ ZT hr (@Ya _ _ _ _ _ (pv 0) Yb (by rfl)) (by omega) (by rfl) (by rfl) (by decide) (by rfl) (by rfl))) (@Yq _ _ (2) _ Z1O.nd rfl (.inl rfl) (by first | exact .inl rfl | exact .inr rfl | assumption)) (@Yd _ _ _ (@Yp _ _ _ _ _ _ _ _ (@VV _ _ _ _ _ _ _ (@Yk _ _ _ _ _ _ _ _ YF (@Ym _ _ _ _ _ _ _ Yn (pv 2) Yf (fun _ _=>rfl)) Yg (Yo _)) (@Vb _ _ _ _ (@Yk _ _ _ _ _ _ _ _ WQ (@Ym _ _ _ _ _ _ _ Yn (pv 2) Yf (fun _ _=>rfl)) (pv 1) rfl))).pt (@Yd _ _ _ (@YZ _ _ _ _ (@Xx _ _ _ _ _ _ _ _ _ _ _ _ PySem.F.plainAttrs_list PySem.F.slot_list_append PySem.F.type_list_append Xs (pv 1) (@Ya _ _ _ _ _ (@Ym _ _ _ _ _ _ _ Yn (pv 2) Yf (fun _ _=>rfl)) Yb (by rfl)) (by rfl) (by rfl) (by rfl) (by rfl) (by rfl)) (by rfl))) Yi)) (by intro _;rfl)) (@Yd _ _ _ (@Yj _ _ _ _ (pv 1))))),?_⟩
 have e1:∀ m m':Mk,m≠m'→¬ V.str (ms m)=V.str (ms m'):=fun m m' h z=>h (by have:=V.str.inj z;rwa [Xu] at this)
 walk_at "rd"
 refine ⟨few (by decide),fun p hp=>?_⟩
 have u:=Same.upd_new hp (.lst [])
 refine Ub (K:=g.K) (fun c xs H1=>Same H H1∧H1 p=some (.lst [])∧H1 c=some (.lst xs)∧c≠p∧SAs H1 (wi s) xs) (fun R r=>?_) ?_
 ·walk_at "rd"
  exact ⟨s,v,rfl,hs.keep (.of u),hg,by omega,hl,fun c us H1 s1 hc h1 h2=>r c us H1 ⟨u.trans s1,s1 _ _ Ye,h1,(YB Ye hc).symm,h2⟩⟩
 ·rintro c xs H1 ⟨s1,h1,h2,ncp,h3⟩
  refine ⟨fun i σ' H'=>∃ o,σ'=[some v,some (.ref p),o]∧Same H H'∧H' c=some (.lst xs)∧SAs H' (wi s) xs∧H' p=some (.lst (vst ((((wi s).take i).filterMap Xa).foldl Y8 []))),⟨none,rfl,s1,h2,h3,h1⟩,fun i σ' H' _ ⟨o,_,_,h,_⟩=>SqL.of h,?_,?_⟩
  ·rintro i x σ' H' hx ⟨o,rfl,s2,h4,h5,h6⟩
   have hi:=(List.getElem?_eq_some_iff.mp hx).1
   have hi':i<(wi s).length:=by rw [← h5.1];exact hi
   have hz:(wi s)[i]?=some (wi s)[i]:=List.getElem?_eq_getElem hi'
   have htk:(wi s).take (i+1)=(wi s).take i++[(wi s)[i]]:=List.take_succ_eq_append_getElem hi'
   generalize (wi s)[i]=z at hz htk
   have hzm:=List.mem_of_getElem? hz
   have hzg:=Ycp (n:=9) (by omega) hg hzm
   obtain ⟨a,m,r,rfl,ha,hm⟩:=(h5.2 i x z hx hz).use hzg
   generalize hA:(((wi s).take i).filterMap Xa).foldl Y8 []=acc at h6
   have hnx:(((wi s).take (i+1)).filterMap Xa).foldl Y8 []=match Xa z with
    | some w=>Y8 acc w
    | none=>acc:=by
    rw [htk,List.filterMap_append,List.foldl_append,hA]
    cases e:Xa z<;>simp [e]
   have hal:acc.length≤12000000:=by
    have h7:=VI (((wi s).take i).filterMap Xa) []
    have h8:=List.length_filterMap_le Xa ((wi s).take i)
    have h9:((wi s).take i).length≤(wi s).length:=by rw [List.length_take];omega
    rw [hA] at h7
    simp only [List.length_nil] at h7
    omega
   walk_at "rd"
   rcases hm with ⟨n1,n2⟩ | ⟨w,rfl,rfl,rfl⟩
   ·rw [hnx,n2]
    exact ⟨_,SqT.of ha,_,YC (j:=0) rfl,rfl,YH (e1 _ _ n1) ⟨s2,h4,h5,h6⟩⟩
   ·have hnx':(((wi s).take (i+1)).filterMap Xa).foldl Y8 []=Y8 acc w:=hnx
    rw [hnx']
    refine ⟨_,SqT.of ha,_,rfl,rfl,Xb rfl ⟨_,SqT.of ha,_,rfl,?_⟩⟩
    have hfl:(vst acc).all Wz=true:=by
     rw [List.all_eq_true]
     intro y hy
     obtain ⟨l,_,rfl⟩:=List.mem_map.mp hy
     rfl
    refine ⟨_,.inl (SqL.of h6),rfl,hfl,?_⟩
    rw [U7]
    refine YG (fun c1=>⟨.inl ⟨rfl,_,SqL.of h6⟩,_,SqT.of ha,_,rfl,_,h6,?_,?_⟩) fun c1=>?_
    ·rw [vst,List.length_map]
     exact Nat.lt_of_le_of_lt hal (by decide)
    ·have hw:w∉acc:=of_decide_eq_false c1
     have tk:Tk H' (upd H' p (.lst (vst acc++[.str (S w)]))):=fun a ys ha=>by rw [Yt (Wk ha h6 (by intro z;cases z))];exact ha
     refine ⟨.upd_over hp s2 _,by rw [Yt ncp];exact h4,h5.keep tk,Ye.trans ?_⟩
     rw [Y8,if_neg hw]
     simp [vst]
    ·have hw:w∈acc:=by
      refine Classical.byContradiction fun z=>c1 (decide_eq_false z)
     rw [Y8,if_pos hw]
     exact ⟨s2,h4,h5,h6⟩
  ·rintro σ' H' ⟨o,rfl,s2,h4,h5,h6⟩
   rw [h5.1,List.take_length] at h6
   walk_at "rd"
   exact q p H' s2 hp h6
def Xn (H:Hp) (B:Addr) (bk:List (List Nat×Sh)):Prop:=∃ us:List V,H B=some (.lst us)∧us.length=bk.length∧∀ (i:Nat) v p,us[i]?=some v→bk[i]?=some p→∃ b w,v = .ref b∧H b=some (.tup [.str (S p.1),w])∧SA H p.2 w
theorem Xn.keep {H H':Hp} {B:Addr} {bk:List (List Nat×Sh)} (h:Xn H B bk) (s:Same H H'):Xn H' B bk:=by
 obtain ⟨us,h1,h2,h3⟩:=h
 refine ⟨us,s _ _ h1,h2,fun i v p a b=>?_⟩
 obtain ⟨c,w,e,h4,h5⟩:=h3 i v p a b
 exact ⟨c,w,e,s _ _ h4,h5.keep (.of s)⟩
def Y4:List (List Nat×Sh)→List Nat→Option Sh
 | [],_=>none
 | (l,s)::r,x=>if l=x then some s else Y4 r x
def Z0P (CN:Addr):Sp:=fun vs H Q E=>∃ (B:Addr) (bk:List (List Nat×Sh)) (x:List Nat),vs=[.ref B,.str (S x)]∧Xn H B bk∧bk.length≤1000∧(∀ s v,Y4 bk x=some s→SA H s v→Q v H)∧(Y4 bk x=none→E (.ref CN) none H)
theorem Ybh {Z1 Z2 Z3 Z6 Z4 Z5 Z0:Addr} (R:g.Raw "shape_of" "shape_of" Z33 ["book","name"]) (x_NoName:g.mg "NoName"=some (.ref Z5)) (r_NoName:PySem.W.excIn g.K Z5 YY "ValueError.__new__"=true):g.FnX (1) "shape_of" ["book","name"] (Z0P Z5):=by
 refine R.fnX Z47 (fun vs H Q E h=>by obtain ⟨B,bk,x,rfl,hB,hl,q,qe⟩:=h;rfl) fun f_ cdv A outer s H vs Q E hr h=>?_
 obtain ⟨B,bk,x,rfl,hB,hl,q,qe⟩:=h
 refine ⟨_,(@Yc _ _ _ _ _ (PS.nox (@Xg _ _ _ _ _ _ _ _ PassesOwn.never rfl (@Y3 _ _ _ _ (pv 0)) (@Yq _ _ (2) _ Z47.nd rfl (.inl rfl) (by first | exact .inl rfl | exact .inr rfl | assumption)) (@Yd _ _ _ (@Yp _ _ _ _ _ _ _ _ (@Yk _ _ _ _ _ _ _ _ YF (@Ym _ _ _ _ _ _ _ Yn (pv 2) Yf (fun _ _=>rfl)) (pv 1) (Yo _)) (@Yd _ _ _ (@Yj _ _ _ _ (@Ym _ _ _ _ _ _ _ Yn (pv 2) Yf (fun _ _=>rfl)))) Yi)) (by intro _;rfl))) (@Yd _ _ _ (@YN _ _ _ _ _ _ _ _ _ _ _ ⟨x_NoName,r_NoName⟩ YX (@Ya _ _ _ _ _ Yg Yb (by rfl)) (by rfl) (by rfl) (by rfl) (by decide) (by rfl) (by rfl)))),?_⟩
 obtain ⟨us,h1,h2,h3⟩:=hB
 refine Y9 (fun σ H'=>H'=H∧Y4 bk x=none∧∃ o,σ=[some (.ref B),some (.str (S x)),o]) ?_ ?_
 ·rintro σ H' ⟨rfl,hn,o,rfl⟩
  walk_at "rd"
  exact ⟨few (by decide),qe hn⟩
 intro N hN
 refine XT (K:=g.K) (a:=B) (xs:=us) (fun i σ H'=>H'=H∧Y4 bk x=Y4 (bk.drop i) x∧∃ o,σ=[some (.ref B),some (.str (S x)),o]) (fun R r=>by walk_at "rd";exact r) ⟨rfl,rfl,none,rfl⟩ ?_ ?_ ?_
 ·rintro i σ H' _ ⟨rfl,_⟩
  exact SqL.of h1
 ·rintro i v σ H' hv ⟨rfl,hd,o,rfl⟩
  have hi:=(List.getElem?_eq_some_iff.mp hv).1
  have hp:bk[i]?=some (bk[i]'(by omega)):=List.getElem?_eq_getElem _
  obtain ⟨b,w,rfl,h4,h5⟩:=h3 i v _ hv hp
  have e1:bk.drop i=bk[i]'(by omega)::bk.drop (i+1):=List.drop_eq_getElem_cons _
  generalize bk[i]'(by omega)=pr at hp h4 h5 e1
  obtain ⟨l,s⟩:=pr
  rw [e1,Y4] at hd
  walk_at "rd"
  refine ⟨_,.inl (.inl h4),_,YC (j:=0) rfl,Vj _ _,YG (fun c=>?_) fun c=>?_⟩
  ·have hlx:l=x:=Xi (V.str.inj c)
   rw [if_pos hlx] at hd
   exact ⟨_,.inl (.inl h4),_,YC (j:=1) rfl,q s w hd h5⟩
  ·have hlx:l≠x:=fun z=>c (by rw [z])
   rw [if_neg hlx] at hd
   exact hd
 ·rintro σ H' ⟨rfl,hd,o,rfl⟩
  rw [List.drop_of_length_le (by omega)] at hd
  exact hN _ _ ⟨rfl,hd,o,rfl⟩
theorem Ycs:Str.ofString "="=S [61]:=by decide +kernel
def aft (l:List Nat):List Nat:=(l.dropWhile (· != 61)).drop 1
theorem Yge {l:List Nat} (h:61∉l):aft l=[]:=by
 unfold aft
 have:l.dropWhile (· != 61)=[]:=by
  induction l with
  | nil=>rfl
  | cons c l ih =>
   rw [List.dropWhile_cons_of_pos (by simpa using fun z:c=61=>h (z ▸ .head _))]
   exact ih fun z=>h (.tail _ z)
 rw [this]
 rfl
theorem YaO {a b:List Nat} (h:61∉a):aft (a++61::b)=b:=by
 unfold aft
 have:(a++61::b).dropWhile (· != 61)=61::b:=by
  induction a with
  | nil=>rfl
  | cons c a ih =>
   rw [List.cons_append,List.dropWhile_cons_of_pos (by simpa using fun z:c=61=>h (z ▸ .head _))]
   exact ih fun z=>h (.tail _ z)
 rw [this]
 rfl
theorem YbO (l:List Nat):(aft l).length≤l.length:=by
 unfold aft
 have:=(List.dropWhile_sublist (l:=l) (· != 61)).length_le
 rw [List.length_drop]
 omega
def VJ (r:List Nat):Prop:=(aft r).length≤2000∧Rd.okD 0 (aft r)
def Z2r (CC:Addr):Sp:=fun vs H Q E=>∃ (B:Addr) (rows:List (List Nat)),vs=[.ref B]∧H B=some (.lst (vst rows))∧rows.length≤100000∧(∀ r∈rows,r.length≤100000)∧(rows.length≤8→(∀ r∈rows,VJ r)→∀ H',Same H H'→Q .non H')∧(¬ (rows.length≤8∧∀ r∈rows,VJ r)→∀ H',Same H H'→E (.ref CC) none H')
theorem Z2F {k:Nat} {Z1 Z2 Z3 Z6 Z4 Z5 Z0:Addr} (R:g.Raw "refuse_crowded_rows" "refuse_crowded_rows" Z0o ["rows"]) (Z0Z:g.FnX k "refuse_crowded" ["text"] (Z0f Z3)) (b_len:g.mg "len"=none) (Z4d:g.Con "MOST_ROWS" (.int 8)) (x_Crowded:g.mg "Crowded"=some (.ref Z3)) (r_Crowded:PySem.W.excIn g.K Z3 YY "ValueError.__new__"=true):g.FnX (k+1) "refuse_crowded_rows" ["rows"] (Z2r Z3):=by
 refine R.fnX Z0N (fun vs H Q E h=>by obtain ⟨B,rows,rfl,hB,hl,hr9,q,qe⟩:=h;rfl) fun f_ cdv A outer s H vs Q E hr h=>?_
 obtain ⟨B,rows,rfl,hB,hl,hr9,q,qe⟩:=h
 refine ⟨_,(@Yc _ _ _ _ _ (@Yp _ _ _ _ _ _ _ _ (@Yk _ _ _ _ _ _ _ _ UJ (@YL _ _ _ _ _ _ _ _ _ _ b_len YW (@Ya _ _ _ _ _ (pv 0) Yb (by rfl)) (by decide +kernel) (by rfl) (by rfl) (by decide) (by decide) (by rfl) (by rfl)) (@WI _ _ _ _ _ Z4d (by rfl) (by rfl) (by decide)) (Yo _)) (@Yd _ _ _ (@YN _ _ _ _ _ _ _ _ _ _ _ ⟨x_Crowded,r_Crowded⟩ YX (@Ya _ _ _ _ _ Yg Yb (by rfl)) (by rfl) (by rfl) (by rfl) (by decide) (by rfl) (by rfl))) Yi) (@Yd _ _ _ (@Xg _ _ _ _ _ _ _ _ PassesOwn.leaving rfl (@Y3 _ _ _ _ (pv 0)) (@Yq _ _ (1) _ Z0N.nd rfl (.inl rfl) (by first | exact .inl rfl | exact .inr rfl | assumption)) (@Yd _ _ _ (@YZ _ _ _ _ (@YI _ _ _ _ _ _ _ _ _ _ _ _ _ Z0Z hr YS (@Ya _ _ _ _ _ (@Ym _ _ _ _ _ _ _ Yn (@Xx _ _ _ _ _ _ _ _ _ _ _ _ PySem.F.plainAttrs_str PySem.F.slot_str_partition PySem.F.type_str_partition V7 (pv 1) (@Ya _ _ _ _ _ Yg Yb (by rfl)) (by rfl) (by rfl) (by rfl) (by rfl) (by rfl)) Yf (fun _ _=>rfl)) Yb (by rfl)) (by omega) (by rfl) (by rfl) (by decide) (by rfl) (by rfl)) (by rfl))) (by intro _;rfl)))),?_⟩
 refine Y9 (fun σ H'=>H'=H∧rows.length≤8∧σ=[some (.ref B),none]) ?_ ?_
 rotate_left
 ·intro N hN
  walk_at "rd"
  refine ⟨_,.inl (SqL.of hB),?_⟩
  rw [show ((vst rows).length:Int)=(rows.length:Int) by rw [vst,List.length_map]]
  exact YG (fun c=>⟨few (by decide),qe (fun z=>by have:=z.1;omega) _ (.refl _)⟩) fun c=>hN _ _ ⟨rfl,by omega,rfl⟩
 rintro σ H' ⟨rfl,h8,rfl⟩
 refine XT (K:=g.K) (a:=B) (xs:=vst rows) (fun i σ H1=>Same H' H1∧(∀ (j:Nat) r,j<i→rows[j]?=some r→VJ r)∧∃ o,σ=[some (.ref B),o]) (fun R r=>by walk_at "rd";exact r) ⟨.refl _,fun j r h=>by omega,none,rfl⟩ ?_ ?_ ?_
 ·rintro i σ H1 _ ⟨s,_⟩
  exact SqL.of (s _ _ hB)
 ·rintro i v σ H1 hv ⟨s,hj,o,rfl⟩
  rw [vst,List.getElem?_map] at hv
  obtain ⟨r,hr,rfl⟩:=Option.map_eq_some_iff.mp hv
  have hrm:=List.mem_of_getElem? hr
  have hrl:=hr9 r hrm
  have al:=YbO r
  have fin:∀ (p:Addr) (x y:V),H1 p=none→Z0f Z3 [.str (S (aft r))] (upd H1 p (.tup [x,y,.str (S (aft r))])) (fun _ H2=>Same H' H2∧∀ (j:Nat) r,j<i+1→rows[j]?=some r→VJ r) E:=fun p x y hp=>by
   have s2:=s.trans (Same.upd_new hp (.tup [x,y,.str (S (aft r))]))
   refine ⟨aft r,rfl,by omega,fun a b=>⟨s2,fun j r' hj' hr'=>?_⟩,fun z=>qe (fun y=>z (y.2 r hrm)) _ s2⟩
   by_cases c:j<i
   ·exact hj j r' c hr'
   ·have:j=i:=by omega
    subst this
    rw [hr] at hr'
    cases hr'
    exact ⟨a,b⟩
  walk_at "rd"
  refine ⟨rfl,r,61,rfl,by rw [Ycs],hrl,fun p hp=>⟨fun hn=>⟨p,rfl,_,.inl (.inl Ye),_,YC (j:=2) rfl,?_⟩,fun a b ha e=>⟨p,rfl,_,.inl (.inl Ye),_,YC (j:=2) rfl,?_⟩⟩⟩
  ·have:=fin p (.str (S r)) (.str (S [])) hp
   rw [Yge hn] at this
   exact this
  ·have e1:aft r=b:=by rw [e];exact YaO ha
   have:=fin p (.str (S a)) (.str (S [61])) hp
   rw [e1] at this
   exact this
 ·rintro σ H1 ⟨s,hj,o,rfl⟩
  refine q h8 (fun r hr=>?_) H1 s
  obtain ⟨j,hj'⟩:=List.mem_iff_getElem?.mp hr
  exact hj j r (by rw [vst,List.length_map];exact (List.getElem?_eq_some_iff.mp hj').1) hj'
def Wd (l:List Nat):List Nat:=l.takeWhile (· != 61)
theorem YbP {a b:List Nat} (h:61∉a):Wd (a++61::b)=a:=by
 unfold Wd
 induction a with
 | nil=>rfl
 | cons c a ih =>
  rw [List.cons_append,List.takeWhile_cons_of_pos (by simpa using fun z:c=61=>h (z ▸ .head _)),ih fun z=>h (.tail _ z)]
def pdr (r:List Nat):Option (List Nat×Sh):=if 61∈r∧Rd.labOk (Wd r)=true then (WV (aft r)).map fun s=>(Wd r,s) else none
def WW (H:Hp) (p:List Nat×Sh) (v:V):Prop:=∃ b w,v = .ref b∧H b=some (.tup [.str (S p.1),w])∧SA H p.2 w
theorem WW.keep {H H':Hp} {p:List Nat×Sh} {v:V} (h:WW H p v) (s:Same H H'):WW H' p v:=by
 obtain ⟨b,w,e,h1,h2⟩:=h
 exact ⟨b,w,e,s _ _ h1,h2.keep (.of s)⟩
def Z2s (K:PySem.W.Frag) (CN:Addr):Sp:=fun vs H Q E=>∃ r:List Nat,vs=[.str (S r)]∧r.length≤100000∧VJ r∧(∀ p v H',pdr r=some p→Same H H'→WW H' p v→Q v H')∧(pdr r=none→∀ H',Same H H'→E (.ref CN) none H')
theorem Z4I {k:Nat} {Z1 Z2 Z3 Z6 Z4 Z5 Z0:Addr} (R:g.Raw "pair_drafted" "pair_drafted" Z1w ["row"]) (Z1d:g.Fn k "is_label" ["text"] (Rd.spLabel)) (F_read_draft:g.FnX k "read_draft" ["text"] (Z3m g.K Z2 Z3)) (x_NoNote:g.mg "NoNote"=some (.ref Z2)) (r_NoNote:PySem.W.excIn g.K Z2 YY "ValueError.__new__"=true):g.FnX (k+1) "pair_drafted" ["row"] (Z2s g.K Z2):=by
 refine R.fnX Z2n (fun vs H Q E h=>by obtain ⟨r,rfl,hl,hk,q,qe⟩:=h;rfl) fun f_ cdv A outer s H vs Q E hr h=>?_
 obtain ⟨r,rfl,hl,hk,q,qe⟩:=h
 refine ⟨_,(@Yc _ _ _ _ _ (PS.nox (@Yv _ _ (1) _ _ _ _ Z2n.nd rfl (.inl rfl) (@Xx _ _ _ _ _ _ _ _ _ _ _ _ PySem.F.plainAttrs_str PySem.F.slot_str_partition PySem.F.type_str_partition V7 (pv 0) (@Ya _ _ _ _ _ Yg Yb (by rfl)) (by rfl) (by rfl) (by rfl) (by rfl) (by rfl)) (by rfl) (by first | exact .inl rfl | exact .inr rfl | assumption))) (@Yc _ _ _ _ _ (@Yp _ _ _ _ _ _ _ _ (@Yk _ _ _ _ _ _ _ _ YF (@Ym _ _ _ _ _ _ _ Yn (pv 1) Yf (fun _ _=>rfl)) Yg (Yo _)) (@Yd _ _ _ (@YN _ _ _ _ _ _ _ _ _ _ _ ⟨x_NoNote,r_NoNote⟩ YX (@Ya _ _ _ _ _ Yg Yb (by rfl)) (by rfl) (by rfl) (by rfl) (by decide) (by rfl) (by rfl))) Yi) (@Yc _ _ _ _ _ (@Yp _ _ _ _ _ _ _ _ (@Y7 _ _ _ _ (@YU _ _ _ (@YE _ _ _ _ _ _ _ _ _ _ _ _ Z1d hr (@Ya _ _ _ _ _ (@Ym _ _ _ _ _ _ _ Yn (pv 1) Yf (fun _ _=>rfl)) Yb (by rfl)) (by omega) (by rfl) (by rfl) (by decide) (by rfl) (by rfl)) (by intro _;rfl))) (@Yd _ _ _ (@YN _ _ _ _ _ _ _ _ _ _ _ ⟨x_NoNote,r_NoNote⟩ YX (@Ya _ _ _ _ _ Yg Yb (by rfl)) (by rfl) (by rfl) (by rfl) (by decide) (by rfl) (by rfl))) Yi) (@Yd _ _ _ (@Yj _ _ _ _ (@Yx _ _ _ _ _ (@Ya _ _ _ _ _ (@Ym _ _ _ _ _ _ _ Yn (pv 1) Yf (fun _ _=>rfl)) (@Ya _ _ _ _ _ (@YI _ _ _ _ _ _ _ _ _ _ _ _ _ F_read_draft hr YS (@Ya _ _ _ _ _ (@Ym _ _ _ _ _ _ _ Yn (pv 1) Yf (fun _ _=>rfl)) Yb (by rfl)) (by omega) (by rfl) (by rfl) (by decide) (by rfl) (by rfl)) Yb (by rfl)) (by rfl)))))))),?_⟩
 have al:=YbO r
 refine Y9 (fun σ H'=>Same H H'∧∃ (p:Addr) (x y z:List Nat),σ=[some (.str (S r)),some (.ref p)]∧H' p=some (.tup [.str (S x),.str (S y),.str (S z)])∧((61∉r∧y=[])∨(61∈r∧x=Wd r∧y=[61]∧z=aft r))) ?_ ?_
 rotate_left
 ·intro N hN
  walk_at "rd"
  refine ⟨rfl,r,61,rfl,by rw [Ycs],hl,fun p hp=>⟨fun hn=>hN _ _ ⟨Same.upd_new hp _,p,_,_,_,rfl,Ye,.inl ⟨hn,rfl⟩⟩,fun a b ha e=>hN _ _ ⟨Same.upd_new hp _,p,_,_,_,rfl,Ye,.inr ⟨by rw [e];simp,?_,rfl,?_⟩⟩⟩⟩
  ·rw [e,YbP ha]
  ·rw [e,YaO ha]
 rintro σ H1 ⟨s1,p,x,y,z,rfl,hp,hc⟩
 have e0:Str.ofString ""=S []:=by decide +kernel
 rcases hc with ⟨hn,rfl⟩ | ⟨h61,rfl,rfl,rfl⟩
 ·have en:pdr r=none:=by rw [pdr,if_neg fun z=>hn z.1]
  walk_at "rd"
  rw [e0]
  exact ⟨_,.inl (.inl hp),_,YC (j:=1) rfl,Vj _ _,Xb rfl ⟨few (by decide),qe en H1 s1⟩⟩
 ·have fl:(Wd r).length≤r.length:=(List.takeWhile_sublist (l:=r) (· != 61)).length_le
  walk_at "rd"
  rw [e0]
  refine ⟨_,.inl (.inl hp),_,YC (j:=1) rfl,Vj _ _,YH (fun c=>by have:=Xi (V.str.inj c);cases this) ⟨_,.inl (.inl hp),_,YC (j:=0) rfl,Wd r,rfl,by omega,fun H2 s2=>⟨_,rfl,YG (fun c=>?_) fun c=>?_⟩⟩⟩
  ·refine ⟨few (by decide),qe ?_ H2 (s1.trans s2)⟩
   rw [pdr,if_neg fun z=>?_]
   have:Rd.labOk (Wd r)=false:=c
   rw [z.2] at this
   cases this
  ·have hlab:Rd.labOk (Wd r)=true:=by
    have:Rd.labOk (Wd r)≠false:=c
    simpa using this
   have ep:pdr r=(WV (aft r)).map fun s=>(Wd r,s):=by rw [pdr,if_pos ⟨h61,hlab⟩]
   have hp2:=s2 _ _ hp
   refine ⟨_,.inl (.inl hp2),_,YC (j:=0) rfl,_,.inl (.inl hp2),_,YC (j:=2) rfl,_,rfl,.inr ⟨aft r,rfl,by omega,fun z=>(z hk).elim,fun _ _ e H3 s3=>qe (by rw [ep,e];rfl) H3 ((s1.trans s2).trans s3),fun s v H3 _ _ e sa s3=>⟨few (by decide),fun p4 h4=>?_⟩⟩⟩
   have u4:=Same.upd_new h4 (.tup [V.str (S (Wd r)),v])
   exact q (Wd r,s) _ _ (by rw [ep,e];rfl) (((s1.trans s2).trans s3).trans u4) ⟨p4,v,rfl,Ye,sa.keep (.of u4)⟩
section
variable {src:List (Option Nat)} {te:TE} {σ:St} {H:Hp} {Q:VK}
theorem VM {K:PySem.W.Frag} {tl:TE} {b:Addr} {xs:List V} (ps:List (V×V)) (ys:List V) (ha:∀ R:V→Hp→Prop,R (.ref b) H→tl σ H R) (hS:SqL K H b xs) (hp:∀ (i:Nat) x p,xs[i]?=some x→ps[i]?=some p→∃ T,x = .ref T∧SqT K H T [p.1,p.2]) (hl:ps.length=xs.length) (hl2:ys.length=xs.length) (hlen:xs.length≤100000)
  (step:∀ (i:Nat) p y H',ps[i]?=some p→ys[i]?=some y→Same H H'→∀ R:VK,(∀ H'',Same H' H''→R y H'')→te (some p.1::some p.2::YD src σ) H' R)
  (fin:∀ D H',H D=none→Same H H'→H' D=some (.lst ys)→Q (.ref D) H'):tLC (none::none::src) (WZ K tl) (XA K 2 (YQ (Ys 0) (YQ (Ys 1) Xz))) XS te σ H Q:=by
 refine ha _ ⟨b,rfl,⟨xs,hS⟩,fun D hD=>?_⟩
 have h6:100000<sizeLine:=by decide
 refine US (Wm.imp fun H' (e:Same H H')=>e.seq hS) (fun i zs σ' H'=>zs=ys.take i∧(∃ o o',σ'=o::o'::YD src σ)∧Same H H'∧H' D=some (.lst zs)) ⟨by simp,⟨none,none,rfl⟩,.upd_new hD _,Ye⟩ (fun i zs σ' H' p=>⟨p.2.2.1,p.2.2.2⟩) (W9 K 0 1) ?_ ?_
 ·rintro i zs σ' H' x hx ⟨rfl,⟨o,o',rfl⟩,sm,hd⟩
  have hi:=(List.getElem?_eq_some_iff.mp hx).1
  have hy:ys[i]?=some (ys[i]'(by omega)):=List.getElem?_eq_getElem _
  have hpi:ps[i]?=some (ps[i]'(by omega)):=List.getElem?_eq_getElem _
  obtain ⟨T,rfl,hT⟩:=hp i x _ hx hpi
  refine ⟨T,_,rfl,sm.tup hT,rfl,_,_,rfl,_,_,rfl,rfl,?_⟩
  refine step i _ _ H' hpi hy sm _ fun H'' s2=>⟨s2 _ _ hd,?_,(XF hy).symm,⟨_,_,rfl⟩,.upd_over hD (sm.trans s2) _,Ye⟩
  rw [List.length_take];omega
 ·rintro zs σ' H' ⟨rfl,_,sm,hd⟩
  rw [← hl2,List.take_length] at hd
  exact fin D H' hD sm hd
end
theorem Ut {K:PySem.W.Frag} {H:Hp}:∀ {us:List V} {bk:List (List Nat×Sh)},us.length=bk.length→(∀ (i:Nat) v p,us[i]?=some v→bk[i]?=some p→∃ b w,v = .ref b∧H b=some (.tup [.str (S p.1),w])∧SA H p.2 w)→∃ ps:List (V×V),ps.length=us.length∧(∀ (i:Nat) x p,us[i]?=some x→ps[i]?=some p→∃ T,x = .ref T∧SqT K H T [p.1,p.2])∧(∀ (i:Nat) p y,ps[i]?=some p→bk[i]?=some y→p.1 = .str (S y.1)∧SA H y.2 p.2)
 | [],_,_,_=>⟨[],rfl,fun i x p a=>(by simp at a),fun i p y a=>(by simp at a)⟩
 | v::us,[],hl,_=>by simp at hl
 | v::us,pr::bk,hl,h=>by
  obtain ⟨ps,h1,h2,h3⟩:=Ut (us:=us) (bk:=bk) (by simpa using hl) fun i v p a b=>h (i+1) v p (by simpa using a) (by simpa using b)
  obtain ⟨b,w,rfl,h4,h5⟩:=h 0 v pr rfl rfl
  refine ⟨(.str (S pr.1),w)::ps,by simp [h1],fun i x p a e=>?_,fun i p y a e=>?_⟩
  ·cases i with
   | zero=>cases a;cases e;exact ⟨b,rfl,SqT.of h4⟩
   | succ i=>exact h2 i x p (by simpa using a) (by simpa using e)
  ·cases i with
   | zero=>cases a;cases e;exact ⟨rfl,h5⟩
   | succ i=>exact h3 i p y (by simpa using a) (by simpa using e)
def UE (bk:List (List Nat×Sh)):Prop:=bk.length≤1000∧∀ p∈bk,Gd p.2∧dp p.2≤8∧(wi p.2).length≤12000000
def Bk2 (bk:List (List Nat×Sh)):Prop:=(∀ p∈bk,X0 p.2)∧(bk.map (·.1)).Nodup
def Z2c (K:PySem.W.Frag) (CT:Addr):Sp:=fun vs H Q E=>∃ (B:Addr) (bk:List (List Nat×Sh)),vs=[.ref B]∧Xn H B bk∧UE bk∧(Bk2 bk→∀ H',Same H H'→Q .non H')∧(¬ Bk2 bk→∀ H',Same H H'→E (.ref CT) none H')
theorem Z2k {k:Nat} {Z1 Z2 Z3 Z6 Z4 Z5 Z0:Addr} (R:g.Raw "refuse_twice_in_book" "refuse_twice_in_book" Z0a ["book"]) (Z50:g.FnX k "refuse_twice" ["draft"] (Z2q g.K Z6)) (b_len:g.mg "len"=none) (b_set:g.mg "set"=none) (x_Twice:g.mg "Twice"=some (.ref Z6)) (r_Twice:PySem.W.excIn g.K Z6 YY "ValueError.__new__"=true):g.FnX (k+1) "refuse_twice_in_book" ["book"] (Z2c g.K Z6):=by
 refine R.fnX Z07 (fun vs H Q E h=>by obtain ⟨B,bk,rfl,hB,hk,q,qe⟩:=h;rfl) fun f_ cdv A outer s H vs Q E hr h=>?_
 obtain ⟨B,bk,rfl,hB,hk,q,qe⟩:=h
 refine ⟨_,(@Yc _ _ _ _ _ (@Xg _ _ _ _ _ _ _ _ PassesOwn.leaving rfl (@Y3 _ _ _ _ (pv 0)) (@Xq _ _ _ _ _ (2) rfl (@YJ _ _ _ _ _ (@Yq _ _ (1) _ Z07.nd rfl (.inl rfl) (by first | exact .inl rfl | exact .inr rfl | assumption)) (@YJ _ _ _ _ _ (@Yq _ _ (2) _ Z07.nd rfl (.inl rfl) (by first | exact .inl rfl | exact .inr rfl | assumption)) Xf (by rfl)) (by rfl)) (by rfl) (by rfl)) (@Yd _ _ _ (@YZ _ _ _ _ (@YI _ _ _ _ _ _ _ _ _ _ _ _ _ Z50 hr YS (@Ya _ _ _ _ _ (pv 2) Yb (by rfl)) (by omega) (by rfl) (by rfl) (by decide) (by rfl) (by rfl)) (by rfl))) (by intro _;rfl)) (@Yd _ _ _ (@Yp _ _ _ _ _ _ _ _ (@Yk _ _ _ _ _ _ _ _ QT (@YL _ _ _ _ _ _ _ _ _ _ b_len WG (@Ya _ _ _ _ _ (@Xy _ _ _ _ _ _ _ _ _ _ b_set VS (@Ya _ _ _ _ _ (@XG _ _ _ _ _ _ _ ([none,none]) ((["name","shape"]:List Str)) _ (XA g.K 2 (YQ (Ys 0) (YQ (Ys 1) Xz))) _ _ (.own (.own .nil)) rfl (@Y3 _ _ _ _ (pv 0)) (fun cl C s₀ H₀ fp pn=>(@Xq _ _ _ _ _ (2) rfl (@YJ _ _ _ _ _ (@Yq _ _ (0) _ (show List.Nodup (["name","shape"]:List Str) by decide +kernel) rfl (.inl rfl) (.inr rfl)) (@YJ _ _ _ _ _ (@Yq _ _ (1) _ (show List.Nodup (["name","shape"]:List Str) by decide +kernel) rfl (.inl rfl) (.inr rfl)) Xf (by rfl)) (by rfl)) (by rfl) (by rfl))) (fun cl C s₀ H₀ fp pn=>Y0) (fun cl C s₀ H₀ fp pn=>(pv 0)) (by intro x hx;simp at hx) (by rfl) (by decide) (by decide +kernel) (by intro _;rfl)) Yb (by rfl)) (by decide +kernel) (by rfl) (by rfl) (by decide) (by decide) (by rfl) (by rfl)) Yb (by rfl)) (by decide +kernel) (by rfl) (by rfl) (by decide) (by decide) (by rfl) (by rfl)) (@YL _ _ _ _ _ _ _ _ _ _ b_len YW (@Ya _ _ _ _ _ (pv 0) Yb (by rfl)) (by decide +kernel) (by rfl) (by rfl) (by decide) (by decide) (by rfl) (by rfl)) (Yo _)) (@Yd _ _ _ (@YN _ _ _ _ _ _ _ _ _ _ _ ⟨x_Twice,r_Twice⟩ YX (@Ya _ _ _ _ _ Yg Yb (by rfl)) (by rfl) (by rfl) (by rfl) (by decide) (by rfl) (by rfl))) Yi))),?_⟩
 obtain ⟨us,h1,h2,h3⟩:=id hB
 refine Y9 (fun σ H'=>Same H H'∧(∀ p∈bk,X0 p.2)∧∃ o1 o2,σ=[some (.ref B),o1,o2]) ?_ ?_
 rotate_left
 ·intro N hN
  refine XT (K:=g.K) (a:=B) (xs:=us) (fun i σ H1=>Same H H1∧(∀ (j:Nat) p,j<i→bk[j]?=some p→X0 p.2)∧∃ o1 o2,σ=[some (.ref B),o1,o2]) (fun R r=>by walk_at "rd";exact r) ⟨.refl _,fun j r h=>by omega,none,none,rfl⟩ ?_ ?_ ?_
  ·rintro i σ H1 _ ⟨s,_⟩
   exact SqL.of (s _ _ h1)
  ·rintro i v σ H1 hv ⟨s,hj,o1,o2,rfl⟩
   have hi:=(List.getElem?_eq_some_iff.mp hv).1
   have hp:bk[i]?=some (bk[i]'(by omega)):=List.getElem?_eq_getElem _
   generalize bk[i]'(by omega)=pr at hp
   obtain ⟨b,w,rfl,h4,h5⟩:=h3 i v _ hv hp
   have hm:=List.mem_of_getElem? hp
   obtain ⟨k1,k2,k3⟩:=hk.2 pr hm
   walk_at "rd"
   refine ⟨_,.inl (.inl (s _ _ h4)),rfl,_,_,rfl,_,_,rfl,rfl,pr.2,w,rfl,h5.keep (.of s),k1,k2,k3,fun ap H2 s2=>⟨s.trans s2,fun j p hj' hp'=>?_⟩,fun na H2 s2=>qe (fun z=>na (z.1 pr hm)) H2 (s.trans s2)⟩
   by_cases c:j<i
   ·exact hj j p c hp'
   ·have:j=i:=by omega
    subst this
    rw [hp] at hp'
    cases hp'
    exact ap
  ·rintro σ H1 ⟨s,hj,o1,o2,rfl⟩
   refine hN _ _ ⟨s,fun p hp=>?_,_,_,rfl⟩
   obtain ⟨j,hj'⟩:=List.mem_iff_getElem?.mp hp
   exact hj j p (by have:=(List.getElem?_eq_some_iff.mp hj').1;omega) hj'
 rintro σ H1 ⟨s1,ha,o1,o2,rfl⟩
 have hB1:=hB.keep s1
 obtain ⟨us1,u1,u2,u3⟩:=hB1
 have hus:us1=us:=by rw [s1 _ _ h1] at u1;cases u1;rfl
 subst hus
 obtain ⟨ps,g1,g2,g3⟩:=Ut (K:=g.K) u2 u3
 have hl9:=hk.1
 walk_at "rd"
 refine VM (K:=g.K) (b:=B) (xs:=us1) ps (((bk.map (·.1)).map S).map V.str) (fun R r=>by walk_at "rd";exact r) (SqL.of u1) g2 g1 (by simp [u2]) (by omega) ?_ ?_
 ·intro j p y H2 hp hy sm R r
  rw [List.getElem?_map,List.getElem?_map,List.getElem?_map] at hy
  have hj:=(List.getElem?_eq_some_iff.mp hp).1
  have hkj:bk[j]?=some (bk[j]'(by omega)):=List.getElem?_eq_getElem _
  rw [hkj] at hy
  have hy':=Option.some.inj hy
  subst hy'
  obtain ⟨z1,_⟩:=g3 j p _ hp hkj
  walk_at "rd"
  rw [z1]
  exact r H2 (.refl _)
 ·intro D H2 hD sm hd
  have hml:((bk.map (·.1)).map S).length=bk.length:=by simp
  refine ⟨D,rfl,(bk.map (·.1)).map S,SqL.of hd,by omega,fun a2 ha2=>?_⟩
  have u:=Same.upd_new ha2 (VB a2 (met (fun i=>((bk.map (·.1)).map S).getD i "") ((bk.map (·.1)).map S).length).length)
  have s3:=sm.trans u
  refine ⟨_,Ye,us1,.inl (SqL.of (s3 _ _ u1)),YG (fun c1=>⟨few (by decide),qe (fun z=>?_) _ (s1.trans s3)⟩) fun c1=>q ⟨ha,?_⟩ _ (s1.trans s3)⟩
  ·have:=mt Uo.mp (fun w=>w (Up.mpr z.2))
   omega
  ·refine Classical.byContradiction fun z=>c1 ?_
   have:=Uo.mpr (fun w=>z (Up.mp w))
   omega
def W3 (bk:List (List Nat×Sh)):Prop:=∀ p∈bk,∀ x∈nmu p.2,Y4 bk x≠none
def Z4J (K:PySem.W.Frag) (CN:Addr):Sp:=fun vs H Q E=>∃ (B:Addr) (bk:List (List Nat×Sh)),vs=[.ref B]∧Xn H B bk∧UE bk∧(W3 bk→∀ H',Same H H'→Q .non H')∧(¬ W3 bk→∀ H',Same H H'→E (.ref CN) none H')
theorem Z3M {k:Nat} {Z1 Z2 Z3 Z6 Z4 Z5 Z0:Addr} (R:g.Raw "refuse_no_name" "refuse_no_name" Z0Y ["book"]) (Z2d:g.Fn k "names_used" ["shape"] (Z1R g.K)) (Z0v:g.FnX k "shape_of" ["book","name"] (Z0P Z5)):g.FnX (k+1) "refuse_no_name" ["book"] (Z4J g.K Z5):=by
 refine R.fnX Z0e (fun vs H Q E h=>by obtain ⟨B,bk,rfl,hB,hk,q,qe⟩:=h;rfl) fun f_ cdv A outer s H vs Q E hr h=>?_
 obtain ⟨B,bk,rfl,hB,hk,q,qe⟩:=h
 refine ⟨_,(@Yd _ _ _ (@Xg _ _ _ _ _ _ _ _ PassesOwn.leaving rfl (@Y3 _ _ _ _ (pv 0)) (@Xq _ _ _ _ _ (2) rfl (@YJ _ _ _ _ _ (@Yq _ _ (1) _ Z0e.nd rfl (.inl rfl) (by first | exact .inl rfl | exact .inr rfl | assumption)) (@YJ _ _ _ _ _ (@Yq _ _ (2) _ Z0e.nd rfl (.inl rfl) (by first | exact .inl rfl | exact .inr rfl | assumption)) Xf (by rfl)) (by rfl)) (by rfl) (by rfl)) (@Yd _ _ _ (@Xg _ _ _ _ _ _ _ _ PassesOwn.leaving rfl (@Y3 _ _ _ _ (@YE _ _ _ _ _ _ _ _ _ _ _ _ Z2d hr (@Ya _ _ _ _ _ (pv 2) Yb (by rfl)) (by omega) (by rfl) (by rfl) (by decide) (by rfl) (by rfl))) (@Yq _ _ (3) _ Z0e.nd rfl (.inl rfl) (by first | exact .inl rfl | exact .inr rfl | assumption)) (@Yd _ _ _ (@YZ _ _ _ _ (@YI _ _ _ _ _ _ _ _ _ _ _ _ _ Z0v hr YS (@Ya _ _ _ _ _ (pv 0) (@Ya _ _ _ _ _ (pv 3) Yb (by rfl)) (by rfl)) (by omega) (by rfl) (by rfl) (by decide) (by rfl) (by rfl)) (by rfl))) (by intro _;rfl))) (by intro _;rfl))),?_⟩
 obtain ⟨us,h1,h2,h3⟩:=id hB
 refine XT (K:=g.K) (a:=B) (xs:=us) (fun i σ H1=>Same H H1∧(∀ (j:Nat) p,j<i→bk[j]?=some p→∀ x∈nmu p.2,Y4 bk x≠none)∧∃ o1 o2 o3,σ=[some (.ref B),o1,o2,o3]) (fun R r=>by walk_at "rd";exact r) ⟨.refl _,fun j r h=>by omega,none,none,none,rfl⟩ ?_ ?_ ?_
 ·rintro i σ H1 _ ⟨s,_⟩
  exact SqL.of (s _ _ h1)
 ·rintro i v σ H1 hv ⟨s,hj,o1,o2,o3,rfl⟩
  have hi:=(List.getElem?_eq_some_iff.mp hv).1
  have hp:bk[i]?=some (bk[i]'(by omega)):=List.getElem?_eq_getElem _
  generalize bk[i]'(by omega)=pr at hp
  obtain ⟨b,w,rfl,h4,h5⟩:=h3 i v _ hv hp
  have hm:=List.mem_of_getElem? hp
  obtain ⟨k1,k2,k3⟩:=hk.2 pr hm
  walk_at "rd"
  refine ⟨_,.inl (.inl (s _ _ h4)),rfl,_,_,rfl,_,_,rfl,rfl,?_⟩
  refine Ub (K:=g.K) (fun c xs H2=>Same H H2∧H2 c=some (.lst xs)∧xs=vst (nmu pr.2)) (fun R r=>?_) ?_
  ·walk_at "rd"
   exact ⟨pr.2,w,rfl,h5.keep (.of s),k1,k2,k3,fun p' H2 s2 _ hp2=>r p' _ H2 ⟨s.trans s2,hp2,rfl⟩⟩
  ·rintro c xs H2 ⟨s2,hc,rfl⟩
   refine ⟨fun k σ' H'=>Same H H'∧H' c=some (.lst (vst (nmu pr.2)))∧(∀ (j:Nat) x,j<k→(nmu pr.2)[j]?=some x→Y4 bk x≠none)∧∃ o,σ'=[some (.ref B),some (.str (S pr.1)),some w,o],⟨s2,hc,fun j x h=>by omega,_,rfl⟩,fun k σ' H' _ ⟨_,h,_⟩=>SqL.of h,?_,?_⟩
   ·rintro k v σ' H' hv ⟨s3,hc3,hj3,o,rfl⟩
    rw [vst,List.getElem?_map] at hv
    obtain ⟨x,hx,rfl⟩:=Option.map_eq_some_iff.mp hv
    walk_at "rd"
    refine ⟨B,bk,x,rfl,hB.keep s3,hk.1,fun z v' e _=>⟨s3,hc3,fun j y hjk hy=>?_⟩,fun e=>qe (fun z=>z pr hm x (List.mem_of_getElem? hx) e) H' s3⟩
    by_cases c':j<k
    ·exact hj3 j y c' hy
    ·have:j=k:=by omega
     subst this
     rw [hx] at hy
     cases hy
     rw [e]
     intro z
     cases z
   ·rintro σ' H' ⟨s3,hc3,hj3,o,rfl⟩
    refine ⟨s3,fun j p hj' hp' x hx=>?_,_,_,_,rfl⟩
    by_cases c':j<i
    ·exact hj j p c' hp' x hx
    ·have:j=i:=by omega
     subst this
     rw [hp] at hp'
     cases hp'
     obtain ⟨k,hk'⟩:=List.mem_iff_getElem?.mp hx
     exact hj3 k x (by rw [vst,List.length_map];exact (List.getElem?_eq_some_iff.mp hk').1) hk'
 ·rintro σ H1 ⟨s,hj,o1,o2,o3,rfl⟩
  refine q (fun p hp=>?_) H1 s
  obtain ⟨j,hj'⟩:=List.mem_iff_getElem?.mp hp
  exact hj j p (by have:=(List.getElem?_eq_some_iff.mp hj').1;omega) hj'
def bkT (bk:List (List Nat×Sh)):List (List Nat):=bk.map fun p=>p.1++61::tt p.2
theorem YaP:∀ (xs:List (List Nat)),(∀ x∈xs,x.length≤2009)→((xs.map S).map (·.length)).sum≤2009*xs.length
 | [],_=>Nat.le_refl _
 | x::xs,h=>by
  have h1:=h x (.head _)
  have h2:=YaP xs fun y hy=>h y (.tail _ hy)
  simp only [List.map_cons,List.sum_cons,List.length_cons,Yw]
  omega
def Z2e (K:PySem.W.Frag):Sp:=fun vs H Q _=>∃ (B:Addr) (bk:List (List Nat×Sh)),vs=[.ref B]∧Xn H B bk∧UE bk∧bk.length≤8∧(∀ p∈bk,p.1.length≤8∧(tt p.2).length≤2000)∧∀ H',Same H H'→Q (.str (S (YM [10] (bkT bk)))) H'
theorem YaQ {k:Nat} {Z1 Z2 Z3 Z6 Z4 Z5 Z0:Addr} (R:g.Raw "show_book" "show_book" Z2z ["book"]) (Z1e:g.Fn k "show_shape" ["shape"] (Us g.K 9)):g.Fn (k+1) "show_book" ["book"] (Z2e g.K):=by
 refine R.fn Yam (fun vs H Q E h=>by obtain ⟨B,bk,rfl,hB,hk,h8,hl,q⟩:=h;rfl) fun f_ cdv A outer s H vs Q E hr h=>?_
 obtain ⟨B,bk,rfl,hB,hk,h8,hl,q⟩:=h
 refine ⟨_,(@Yd _ _ _ (@Yj _ _ _ _ (@Xx _ _ _ _ _ _ _ _ _ _ _ _ PySem.F.plainAttrs_str PySem.F.slot_str_join PySem.F.type_str_join Vi Yg (@Ya _ _ _ _ _ (@XG _ _ _ _ _ _ _ ([none,none]) ((["name","shape"]:List Str)) _ (XA g.K 2 (YQ (Ys 0) (YQ (Ys 1) Xz))) _ _ (.own (.own .nil)) rfl (@Y3 _ _ _ _ (pv 0)) (fun cl C s₀ H₀ fp pn=>(@Xq _ _ _ _ _ (2) rfl (@YJ _ _ _ _ _ (@Yq _ _ (0) _ (show List.Nodup (["name","shape"]:List Str) by decide +kernel) rfl (.inl rfl) (.inr rfl)) (@YJ _ _ _ _ _ (@Yq _ _ (1) _ (show List.Nodup (["name","shape"]:List Str) by decide +kernel) rfl (.inl rfl) (.inr rfl)) Xf (by rfl)) (by rfl)) (by rfl) (by rfl))) (fun cl C s₀ H₀ fp pn=>Y0) (fun cl C s₀ H₀ fp pn=>(@Yl _ _ _ _ _ _ _ _ Yu (@Yl _ _ _ _ _ _ _ _ Yu (pv 0) Yg) (@YE _ _ _ _ _ _ _ _ _ _ _ _ Z1e hr (@Ya _ _ _ _ _ (pv 1) Yb (by rfl)) (by omega) (by rfl) (by rfl) (by decide) (by rfl) (by rfl)))) (by intro x hx;simp at hx) (by rfl) (by decide) (by decide +kernel) (by intro _;rfl)) Yb (by rfl)) (by rfl) (by rfl) (by rfl) (by rfl) (by rfl)))),?_⟩
 obtain ⟨us,h1,h2,h3⟩:=id hB
 obtain ⟨ps,g1,g2,g3⟩:=Ut (K:=g.K) h2 h3
 have e10:Str.ofString "\n"=S [10]:=by decide +kernel
 walk_at "rd"
 refine ⟨rfl,VM (K:=g.K) (b:=B) (xs:=us) ps (((bkT bk).map S).map V.str) (fun R r=>by walk_at "rd";exact r) (SqL.of h1) g2 g1 (by simp [bkT,h2]) (by omega) ?_ ?_⟩
 ·intro j p y H2 hp hy sm R r
  rw [List.getElem?_map,List.getElem?_map,bkT,List.getElem?_map] at hy
  have hj:=(List.getElem?_eq_some_iff.mp hp).1
  have hkj:bk[j]?=some (bk[j]'(by omega)):=List.getElem?_eq_getElem _
  generalize bk[j]'(by omega)=pr at hkj
  rw [hkj] at hy
  have hy':=Option.some.inj hy
  subst hy'
  have hm:=List.mem_of_getElem? hkj
  obtain ⟨k1,k2,k3⟩:=hk.2 pr hm
  obtain ⟨l1,l2⟩:=hl pr hm
  obtain ⟨z1,z2⟩:=g3 j p _ hp hkj
  walk_at "rd"
  rw [z1,Ycs]
  refine ⟨_,rfl,few (by rw [Yw,Yw];simp only [List.length_cons,List.length_nil];omega),pr.2,p.2,rfl,z2.keep (.of sm),k1,by omega,by omega,fun H3 s3=>⟨_,rfl,few (by rw [Yy,Yw,Yw];simp only [List.length_append,List.length_cons,List.length_nil];omega),?_⟩⟩
  rw [Yy,Yy,List.append_assoc]
  exact r H3 s3
 ·intro D H2 hD sm hd
  refine ⟨_,D,(bkT bk).map S,rfl,rfl,SqL.of hd,?_,?_⟩
  ·have hs:=YaP (bkT bk) (fun x hx=>?_)
   ·have hlen:(bkT bk).length=bk.length:=by rw [bkT,List.length_map]
    have e1:(Str.ofString "\n").length=1:=by decide
    rw [e1,List.length_map]
    omega
   ·obtain ⟨pr,hm,rfl⟩:=List.mem_map.mp hx
    obtain ⟨l1,l2⟩:=hl pr hm
    simp only [List.length_append,List.length_cons]
    omega
  ·rw [e10,XM]
   exact q H2 sm
section
variable {src:List (Option Nat)} {te:TE} {σ:St} {H:Hp} {Q:VK}
theorem Yct {K:PySem.W.Frag} {tl:TE} {tt:TT} {b:Addr} {xs:List V} {α:Type} (bk:List α) (G:α→V→V→Prop) (p:α→Bool) (f:α→V) (ha:∀ R:V→Hp→Prop,R (.ref b) H→tl σ H R) (hS:SqL K H b xs) (hp:∀ (i:Nat) x a,xs[i]?=some x→bk[i]?=some a→∃ T u w,x = .ref T∧SqT K H T [u,w]∧G a u w) (hl:bk.length=xs.length) (hlen:xs.length≤100000)
  (test:∀ a u w H',a∈bk→G a u w→Same H H'→∀ R:Bool→Hp→Prop,(∀ H'',Same H' H''→R (p a) H'')→tt (some u::some w::YD src σ) H' R)
  (step:∀ a u w H',a∈bk→G a u w→p a=true→Same H H'→∀ R:VK,(∀ H'',Same H' H''→R (f a) H'')→te (some u::some w::YD src σ) H' R)
  (fin:∀ D H',H D=none→Same H H'→H' D=some (.lst ((bk.filter p).map f))→Q (.ref D) H'):tLC (none::none::src) (WZ K tl) (XA K 2 (YQ (Ys 0) (YQ (Ys 1) Xz))) tt te σ H Q:=by
 refine ha _ ⟨b,rfl,⟨xs,hS⟩,fun D hD=>?_⟩
 have h6:100000<sizeLine:=by decide
 refine Ycb (Wm.imp fun H' (e:Same H H')=>e.seq hS) (fun i zs σ' H'=>zs=((bk.take i).filter p).map f∧(∃ o o',σ'=o::o'::YD src σ)∧Same H H'∧H' D=some (.lst zs)) ⟨by simp,⟨none,none,rfl⟩,.upd_new hD _,Ye⟩ (fun i zs σ' H' q=>⟨q.2.2.1,q.2.2.2⟩) ?_ ?_
 ·rintro i zs σ' H' x hx ⟨rfl,⟨o,o',rfl⟩,sm,hd⟩
  have hi:=(List.getElem?_eq_some_iff.mp hx).1
  have hb:bk[i]?=some (bk[i]'(by omega)):=List.getElem?_eq_getElem _
  generalize bk[i]'(by omega)=a at hb
  have hm:=List.mem_of_getElem? hb
  obtain ⟨T,u,w,rfl,hT,hG⟩:=hp i x a hx hb
  refine ⟨T,_,rfl,sm.tup hT,rfl,_,_,rfl,_,_,rfl,rfl,?_⟩
  refine test a u w H' hm hG sm _ fun H2 s2=>?_
  cases e:p a with
  | true =>
   refine Wa ?_
   refine step a u w H2 hm hG e (sm.trans s2) _ fun H3 s3=>⟨s3 _ _ (s2 _ _ hd),?_,?_,⟨_,_,rfl⟩,.upd_over hD ((sm.trans s2).trans s3) _,Ye⟩
   ·have h7:=List.length_filter_le p (bk.take i)
    rw [List.length_map]
    rw [List.length_take] at h7
    omega
   ·rw [XF hb,List.filter_append,List.map_append]
    simp [List.filter,e]
  | false =>
   refine Vw ?_
   refine ⟨?_,⟨_,_,rfl⟩,sm.trans s2,s2 _ _ hd⟩
   rw [XF hb,List.filter_append]
   simp [List.filter,e]
 ·rintro zs σ' H' ⟨rfl,_,sm,hd⟩
  rw [← hl,List.take_length] at hd
  exact fin D H' hD sm hd
end
def lb (bk:List (List Nat×Sh)) (x:List Nat):Nat→List Nat→Bool
 | 0,_=>false
 | n+1,r=>match Y4 bk r with
  | some (.use w)=>if w=x then true else lb bk x n w
  | _=>false
def Vm (bk:List (List Nat×Sh)):List (List Nat):=(bk.filter fun p=>lb bk p.1 bk.length p.1).map (·.1)
theorem Uf {x:List Nat} {s:Sh}:∀ {bk:List (List Nat×Sh)},Y4 bk x=some s→(x,s)∈bk
 | (l,z)::r,h=>by
  rw [Y4] at h
  by_cases c:l=x
  ·rw [if_pos c] at h
   cases h
   exact c ▸ .head _
  ·rw [if_neg c] at h
   exact .tail _ (Uf h)
theorem W4 {p:List Nat×Sh}:∀ {bk:List (List Nat×Sh)},p∈bk→Y4 bk p.1≠none
 | (l,z)::r,h=>by
  rw [Y4]
  by_cases c:l=p.1
  ·rw [if_pos c];intro z;cases z
  ·rw [if_neg c]
   rcases List.mem_cons.mp h with rfl | h
   ·exact (c rfl).elim
   ·exact W4 h
theorem Yfr (w:List Nat):nmu (.use w)=[w]:=by simp [nmu,wi,Xa,Y8]
def Z3n (K:PySem.W.Frag):Sp:=fun vs H Q _=>∃ (B:Addr) (bk:List (List Nat×Sh)) (x:List Nat),vs=[.ref B,.str (S x)]∧Xn H B bk∧UE bk∧W3 bk∧Y4 bk x≠none∧Q (.bl (lb bk x bk.length x)) H
theorem QR {k:Nat} {Z1 Z2 Z3 Z6 Z4 Z5 Z0:Addr} (R:g.Raw "leads_back" "leads_back" Z28 ["book","name"]) (Z0v:g.FnX k "shape_of" ["book","name"] (Z0P Z5)) (b_len:g.mg "len"=none) (ZW:g.mg "range"=none):g.Fn (k+1) "leads_back" ["book","name"] (Z3n g.K):=by
 refine R.fn Z0w (fun vs H Q E h=>by obtain ⟨B,bk,x,rfl,hB,hk,hn,hx,q⟩:=h;rfl) fun f_ cdv A outer s H vs Q E hr h=>?_
 obtain ⟨B,bk,x,rfl,hB,hk,hn,hx,q⟩:=h
 refine ⟨_,(@Yc _ _ _ _ _ (@Yv _ _ (2) _ _ _ _ Z0w.nd rfl (.inl rfl) (pv 1) (by rfl) (by first | exact .inl rfl | exact .inr rfl | assumption)) (@Yc _ _ _ _ _ (@Xg _ _ _ _ _ _ _ _ PassesOwn.never rfl (@We _ _ _ _ _ _ rfl ZW (@Ya _ _ _ _ _ (@YL _ _ _ _ _ _ _ _ _ _ b_len YW (@Ya _ _ _ _ _ (pv 0) Yb (by rfl)) (by decide +kernel) (by rfl) (by rfl) (by decide) (by decide) (by rfl) (by rfl)) Yb (by rfl)) (by rfl)) (@Yq _ _ (3) _ Z0w.nd rfl (.inl rfl) (by first | exact .inl rfl | exact .inr rfl | assumption)) (@Yc _ _ _ _ _ (@Yv _ _ (4) _ _ _ _ Z0w.nd rfl (.inl rfl) (@YI _ _ _ _ _ _ _ _ _ _ _ _ _ Z0v hr UX (@Ya _ _ _ _ _ (pv 0) (@Ya _ _ _ _ _ (pv 2) Yb (by rfl)) (by rfl)) (by omega) (by rfl) (by rfl) (by decide) (by rfl) (by rfl)) (by rfl) (by first | exact .inl rfl | exact .inr rfl | assumption)) (@Yc _ _ _ _ _ (@Yp _ _ _ _ _ _ _ _ (@Yk _ _ _ _ _ _ _ _ Uk (@Ym _ _ _ _ _ _ _ Yn (pv 4) Yf (fun _ _=>rfl)) Yg (Yo _)) (@Yd _ _ _ (@Yj _ _ _ _ X6)) Yi) (@Yc _ _ _ _ _ (@Yv _ _ (2) _ _ _ _ Z0w.nd rfl (.inl rfl) (@Ym _ _ _ _ _ _ _ Yn (pv 4) Yf (fun _ _=>rfl)) (by rfl) (by first | exact .inl rfl | exact .inr rfl | assumption)) (@Yd _ _ _ (@Yp _ _ _ _ _ _ _ _ (@Yk _ _ _ _ _ _ _ _ YF (pv 2) (pv 1) (Yo _)) (@Yd _ _ _ (@Yj _ _ _ _ X6)) Yi))))) (by intro _;rfl)) (@Yd _ _ _ (@Yj _ _ _ _ X6)))),?_⟩
 have hl9:=hk.1
 refine Y9 (fun σ H'=>H'=H∧σ=[some (.ref B),some (.str (S x)),some (.str (S x)),none,none]) ?_ ?_
 rotate_left
 ·intro N hN
  walk_at "rd"
  exact hN _ _ ⟨rfl,rfl⟩
 rintro σ H1 ⟨e1,rfl⟩
 subst e1
 refine Y9 (fun σ H'=>H'=H1∧lb bk x bk.length x=false∧∃ o1 o2 o3,σ=[some (.ref B),some (.str (S x)),o1,o2,o3]) ?_ ?_
 ·rintro σ H2 ⟨e2,e3,o1,o2,o3,rfl⟩
  subst e2
  rw [e3] at q
  walk_at "rd"
  exact q
 intro N hN
 obtain ⟨us,h1,h2,h3⟩:=id hB
 refine W8 (n:=bk.length) (fun i σ' H'=>H'=H1∧∃ (r:List Nat) (o1 o2:Option V),σ'=[some (.ref B),some (.str (S x)),some (.str (S r)),o1,o2]∧Y4 bk r≠none∧lb bk x bk.length x=lb bk x (bk.length - i) r) (fun R r=>by walk_at "rd";exact ⟨_,.inl (SqL.of h1),by rw [h2];exact r⟩) (by omega) ⟨rfl,x,none,none,rfl,hx,by rw [Nat.sub_zero]⟩ ?_ ?_
 ·rintro i σ' H' hi ⟨e2,r,o1,o2,rfl,hrr,he⟩
  subst e2
  have e4:bk.length - i=(bk.length - (i+1))+1:=by omega
  rw [e4,lb] at he
  walk_at "rd"
  refine ⟨B,bk,r,rfl,hB,hl9,fun s v e hs=>?_,fun e=>(hrr e).elim⟩
  have hm:=Uf e
  have hg:=(hk.2 _ hm).1
  rw [e] at he
  obtain ⟨a,m,rs,rfl,ha,hc⟩:=hs.use hg
  walk_at "rd"
  rcases hc with ⟨n1,n2⟩ | ⟨w,rfl,rfl,rfl⟩
  ·have he':lb bk x bk.length x=false:=by
    rw [he]
    cases s<;>first | rfl | cases n2
   rw [he'] at q
   refine ⟨_,SqT.of ha,_,YC (j:=0) rfl,rfl,Xb (fun c=>?_) q⟩
   have:=V.str.inj c
   rw [Ycm,Xu] at this
   exact n1 this
  ·have he':lb bk x bk.length x=if w=x then true else lb bk x (bk.length - (i+1)) w:=he
   refine ⟨_,SqT.of ha,_,rfl,rfl,YH (fun z=>z rfl) ⟨_,SqT.of ha,_,rfl,Vj _ _,YG (fun c=>?_) fun c=>?_⟩⟩
   ·have c':w=x:=Xi (V.str.inj c)
    rw [if_pos c'] at he'
    rw [he'] at q
    exact q
   ·have c':w≠x:=fun z=>c (by rw [z])
    rw [if_neg c'] at he'
    exact ⟨w,rfl,hn _ hm w (by rw [Yfr];exact .head _),he'⟩
 ·rintro σ' H' ⟨e2,r,o1,o2,rfl,hr,he⟩
  subst e2
  rw [Nat.sub_self,lb] at he
  exact hN _ _ ⟨rfl,he,_,_,_,rfl⟩
def Z3w (K:PySem.W.Frag):Sp:=fun vs H Q _=>∃ (B:Addr) (bk:List (List Nat×Sh)),vs=[.ref B]∧Xn H B bk∧UE bk∧W3 bk∧Vm bk=[]∧∀ H',Same H H'→Q .non H'
theorem Z3r {k:Nat} {Z1 Z2 Z3 Z6 Z4 Z5 Z0:Addr} (R:g.Raw "refuse_no_ground" "refuse_no_ground" Z0B ["book"]) (F_leads_back:g.Fn k "leads_back" ["book","name"] (Z3n g.K)) (b_len:g.mg "len"=none):g.Fn (k+1) "refuse_no_ground" ["book"] (Z3w g.K):=by
 refine R.fn Z1p (fun vs H Q E h=>by obtain ⟨B,bk,rfl,hB,hk,hn,hri,q⟩:=h;rfl) fun f_ cdv A outer s H vs Q E hr h=>?_
 obtain ⟨B,bk,rfl,hB,hk,hn,hri,q⟩:=h
 refine ⟨_,(@Yc _ _ _ _ _ (@Vk _ (1) _ _ _ _ _ _ _ _ _ ([none,none,some 0]) ((["name","shape","book"]:List Str)) _ (XA g.K 2 (YQ (Ys 0) (YQ (Ys 1) Xz))) _ _ Z1p.nd rfl (.inl rfl) (.own (.own (.cap (i:=0) rfl rfl (by first | exact .inl rfl | exact .inr rfl) .nil))) rfl (@Y3 _ _ _ _ (pv 0)) (fun cl C s₀ H₀ fp pn=>(@Xq _ _ _ _ _ (2) rfl (@YJ _ _ _ _ _ (@Yq _ _ (0) _ (show List.Nodup (["name","shape","book"]:List Str) by decide +kernel) rfl (.inl rfl) (.inr rfl)) (@YJ _ _ _ _ _ (@Yq _ _ (1) _ (show List.Nodup (["name","shape","book"]:List Str) by decide +kernel) rfl (.inl rfl) (.inr rfl)) Xf (by rfl)) (by rfl)) (by rfl) (by rfl))) (fun cl C s₀ H₀ fp pn=>(@Qb _ _ _ (@YU _ _ _ (@YE _ _ _ _ _ _ _ _ _ _ _ _ F_leads_back hr (@Ya _ _ _ _ _ (pv 2) (@Ya _ _ _ _ _ (pv 0) Yb (by rfl)) (by rfl)) (by omega) (by rfl) (by rfl) (by decide) (by rfl) (by rfl)) (by intro _;rfl)))) (fun cl C s₀ H₀ fp pn=>(pv 0)) (by intro x hx;simp at hx;first | (subst hx;exact .inl rfl) | (rcases hx with rfl | rfl<;>exact .inl rfl) | (rcases hx with rfl | rfl | rfl<;>exact .inl rfl) | (rcases hx with rfl | rfl | rfl | rfl<;>exact .inl rfl) | (rcases hx with rfl | rfl | rfl | rfl | rfl<;>exact .inl rfl)) (by rfl) (by decide) (by decide +kernel) (by intro _;rfl) (by rfl) (by first | exact .inl rfl | exact .inr rfl | assumption)) (@Yd _ _ _ (@Yp _ _ _ _ _ _ _ _ (@Yk _ _ _ _ _ _ _ _ UJ (@YL _ _ _ _ _ _ _ _ _ _ b_len YW (@Ya _ _ _ _ _ (pv 1) Yb (by rfl)) (by decide +kernel) (by rfl) (by rfl) (by decide) (by decide) (by rfl) (by rfl)) Yf (Yo _)) (@Yd _ _ _ YdI) Yi))),?_⟩
 have hl9:=hk.1
 obtain ⟨us,h1,h2,h3⟩:=id hB
 walk_at "rd"
 refine Yct (K:=g.K) (b:=B) (xs:=us) bk (fun p u w=>u = .str (S p.1)) (fun p=>lb bk p.1 bk.length p.1) (fun p => .str (S p.1)) (fun R r=>by walk_at "rd";exact r) (SqL.of h1) (fun i x a hx ha=>?_) h2.symm (by omega) ?_ ?_ ?_
 ·obtain ⟨b,w,e,h4,_⟩:=h3 i x a hx ha
  exact ⟨b,_,w,e,SqT.of h4,rfl⟩
 ·rintro a u w H' hm rfl sm R r
  walk_at "rd"
  exact ⟨B,bk,a.1,rfl,hB.keep sm,hk,hn,W4 hm,_,rfl,r H' (.refl _)⟩
 ·rintro a u w H' hm rfl _ sm R r
  walk_at "rd"
  exact r H' (.refl _)
 ·intro D H' hD sm hd
  have e0:(bk.filter fun p=>lb bk p.1 bk.length p.1).map (fun p=>V.str (S p.1))=[]:=by
   have:(Vm bk).map (fun x=>V.str (S x))=[]:=by rw [hri];rfl
   rw [Vm,List.map_map] at this
   exact this
  rw [e0] at hd
  walk_at "rd"
  exact ⟨_,.inl (SqL.of hd),YH (by simp) (q H' sm)⟩
def spl:List Nat→List (List Nat)
 | []=>[[]]
 | c::t=>if c=10 then []::spl t else match spl t with
  | []=>[[c]]
  | r::rs=>(c::r)::rs
theorem QH:∀ {r:List Nat},10∉r→spl r=[r]
 | [],_=>rfl
 | c::r,h=>by
  have h0:c≠10:=fun z=>h (z ▸ .head _)
  rw [spl,if_neg h0,QH fun z=>h (.tail _ z)]
theorem YbQ:∀ {r t:List Nat},10∉r→spl (r++10::t)=r::spl t
 | [],t,_=>by rw [List.nil_append,spl,if_pos rfl]
 | c::r,t,h=>by
  have h0:c≠10:=fun z=>h (z ▸ .head _)
  rw [List.cons_append,spl,if_neg h0,YbQ fun z=>h (.tail _ z)]
theorem UF:∀ {xs:List (List Nat)},xs≠[]→(∀ r∈xs,10∉r)→spl (YM [10] xs)=xs
 | [],h,_=>(h rfl).elim
 | [x],_,h=>QH (h x (.head _))
 | x::y::r,_,h=>by
  have e:YM [10] (x::y::r)=x++10::YM [10] (y::r):=by
   show x++[10]++YM [10] (y::r)=_
   rw [List.append_assoc];rfl
  rw [e,YbQ (h x (.head _)),UF (by simp) fun z hz=>h z (.tail _ hz)]
theorem Ydx:∀ l:List Str,(l.map fun x=>x.cps.toList).map S=l
 | []=>rfl
 | x::l=>by
  rw [List.map_cons,List.map_cons,Ydx l]
  congr 1
theorem YaR:∀ a:List Nat,0≤PyProof.Rows.cnt 10 a
 | []=>by rw [PyProof.Rows.cnt_nil];omega
 | x::a=>by
  have:=YaR a
  rw [PyProof.Rows.cnt_cons]
  split<;>omega
theorem Ydy (t:List Nat):Txt.split (S t) ⟨#[10]⟩=(spl t).map S:=by
 have hlen:=PyProof.Rows.split_len (S t) 10
 have hjoin:=StrLaws.join_split (S t) ⟨#[10]⟩
 have hfree:=StrLaws.split_free (S t) 10
 rw [YV] at hlen
 generalize Txt.split (S t) ⟨#[10]⟩=ps at *
 have h0:ps≠[]:=by
  rintro rfl
  have:=YaR t
  simp at hlen
  omega
 have e1:=Ydx ps
 generalize hy:(ps.map fun x=>x.cps.toList)=ys at e1
 have hys:ys≠[]:=by rw [← hy];simpa using h0
 have hfr:∀ r∈ys,10∉r:=fun r hr=>by
  rw [← hy] at hr
  obtain ⟨x,hx,rfl⟩:=List.mem_map.mp hr
  exact hfree x hx
 have e2:Txt.join (S [10]) (ys.map S)=Str.join (S [10]) (ys.map S):=eq_of_beq (PyProof.Rows.join_plain_closes _ _)
 rw [XM] at e2
 rw [← e1] at hjoin
 have e3:S (YM [10] ys)=S t:=e2.trans hjoin
 have e4:=Xi e3
 rw [← e4,UF hys hfr,e1]
theorem YbR:∀ t:List Nat,(spl t).length≤t.length+1∧∀ r∈spl t,r.length≤t.length
 | []=>⟨Nat.le_refl _,fun r h=>by rw [spl] at h;simp at h;subst h;exact Nat.le_refl _⟩
 | c::t=>by
  obtain ⟨h1,h2⟩:=YbR t
  rw [spl]
  split
  ·refine ⟨by simp;omega,fun r h=>?_⟩
   rcases List.mem_cons.mp h with rfl | h
   ·simp
   ·have:=h2 r h;simp;omega
  ·cases e:spl t with
   | nil=>simp
   | cons r rs =>
    rw [e] at h1 h2
    refine ⟨by simp at h1 ⊢;omega,fun z h=>?_⟩
    rcases List.mem_cons.mp h with rfl | h
    ·have:=h2 r (.head _);simp;omega
    ·have:=h2 z (.tail _ h);simp;omega
def bkd:List (List Nat)→Option (List (List Nat×Sh))
 | []=>some []
 | r::rs=>match pdr r,bkd rs with
  | some p,some b=>some (p::b)
  | _,_=>none
theorem YaS:∀ {rs:List (List Nat)} {r:List Nat},r∈rs→pdr r=none→bkd rs=none
 | x::rs,r,h,e=>by
  rw [bkd]
  rcases List.mem_cons.mp h with rfl | h
  ·rw [e]
  ·rw [YaS h e]
   cases pdr x<;>rfl
theorem YaT {H:Hp}:∀ {rs:List (List Nat)} {us:List V},us.length=rs.length→(∀ (i:Nat) v r,us[i]?=some v→rs[i]?=some r→∃ p,pdr r=some p∧WW H p v)→∃ bk,bkd rs=some bk∧us.length=bk.length∧∀ (i:Nat) v p,us[i]?=some v→bk[i]?=some p→WW H p v
 | [],[],_,_=>⟨[],rfl,rfl,fun i v p h=>by simp at h⟩
 | r::rs,[],hl,_=>by simp at hl
 | [],u::us,hl,_=>by simp at hl
 | r::rs,u::us,hl,h=>by
  obtain ⟨bk,e,h1,h2⟩:=YaT (rs:=rs) (us:=us) (by simpa using hl) fun i v r a b=>h (i+1) v r (by simpa using a) (by simpa using b)
  obtain ⟨p,e1,h3⟩:=h 0 u r rfl rfl
  refine ⟨p::bk,by rw [bkd,e1,e],by simp [h1],fun i v q a b=>?_⟩
  cases i with
  | zero=>cases a;cases b;exact h3
  | succ i=>exact h2 i v q (by simpa using a) (by simpa using b)
theorem Ygf {r:List Nat} {p:List Nat×Sh} (h:pdr r=some p):Gd p.2∧dp p.2≤8∧(wi p.2).length≤12000000:=by
 unfold pdr at h
 split at h
 ·obtain ⟨s,hs,rfl⟩:=Option.map_eq_some_iff.mp h
  obtain ⟨hg,hd⟩:=Yfl hs
  exact ⟨hg,Nat.le_trans hd (by decide),YaJ hd hg⟩
 ·cases h
theorem Ydz:∀ {rs:List (List Nat)} {bk:List (List Nat×Sh)},bkd rs=some bk→bk.length=rs.length∧∀ p∈bk,Gd p.2∧dp p.2≤8∧(wi p.2).length≤12000000
 | [],bk,h=>by cases h;exact ⟨rfl,fun p h=>by cases h⟩
 | r::rs,bk,h=>by
  rw [bkd] at h
  cases e1:pdr r with
  | none=>rw [e1] at h;cases h
  | some p =>
   cases e2:bkd rs with
   | none=>rw [e1,e2] at h;cases h
   | some b =>
    rw [e1,e2] at h
    cases h
    obtain ⟨h1,h2⟩:=Ydz e2
    refine ⟨by simp [h1],fun q hq=>?_⟩
    rcases List.mem_cons.mp hq with rfl | hq
    ·exact Ygf e1
    ·exact h2 q hq
def VN (rows:List (List Nat)):Prop:=rows.length≤8∧∀ r∈rows,VJ r
def Z2f (K:PySem.W.Frag) (CN CC CT CR CM:Addr):Sp:=fun vs H Q E=>∃ x:V,vs=[x]∧((Yas K H x∧E (.ref CN) none H)∨∃ t:List Nat,x = .str (S t)∧t.length≤50000 ∧
 (¬ VN (spl t)→∀ H',Same H H'→E (.ref CC) none H') ∧
 (VN (spl t)→bkd (spl t)=none→∀ H',Same H H'→E (.ref CN) none H') ∧
 (∀ bk,VN (spl t)→bkd (spl t)=some bk→¬ Bk2 bk→∀ H',Same H H'→E (.ref CT) none H') ∧
 (∀ bk,VN (spl t)→bkd (spl t)=some bk→Bk2 bk→¬ (∀ p∈bk,Range p.2)→∀ H',Same H H'→E (.ref CR) none H') ∧
 (∀ bk,VN (spl t)→bkd (spl t)=some bk→Bk2 bk→(∀ p∈bk,Range p.2)→¬ W3 bk→∀ H',Same H H'→E (.ref CM) none H') ∧
 (∀ bk,VN (spl t)→bkd (spl t)=some bk→Bk2 bk→(∀ p∈bk,Range p.2)→W3 bk→Vm bk=[]) ∧
 (∀ bk F H',VN (spl t)→bkd (spl t)=some bk→Bk2 bk→(∀ p∈bk,Range p.2)→W3 bk→Same H H'→H F=none→Xn H' F bk→Q (.ref F) H'))
theorem YaU {k:Nat} {Z1 Z2 Z3 Z6 Z4 Z5 Z0:Addr} (R:g.Raw "read_book" "read_book" Z2y ["text"]) (Z3N:g.FnX k "refuse_no_range" ["draft"] (Z1L g.K Z4)) (Z2V:g.FnX k "refuse_crowded_rows" ["rows"] (Z2r Z3)) (Z51:g.FnX k "pair_drafted" ["row"] (Z2s g.K Z2)) (Z2G:g.FnX k "refuse_twice_in_book" ["book"] (Z2c g.K Z6)) (Z4i:g.FnX k "refuse_no_name" ["book"] (Z4J g.K Z5)) (Z3x:g.Fn k "refuse_no_ground" ["book"] (Z3w g.K)) (Z8:g.mg "isinstance"=none) (b_str:g.mg "str"=none) (x_NoNote:g.mg "NoNote"=some (.ref Z2)) (r_NoNote:PySem.W.excIn g.K Z2 YY "ValueError.__new__"=true):g.FnX (k+1) "read_book" ["text"] (Z2f g.K Z2 Z3 Z6 Z4 Z5):=by
 refine R.fnX Z0C (fun vs H Q E h=>by obtain ⟨x,rfl,hx⟩:=h;rfl) fun f_ cdv A outer s H vs Q E hr h=>?_
 obtain ⟨x,rfl,hx⟩:=h
 refine ⟨_,(@Yc _ _ _ _ _ (@Yp _ _ _ _ _ _ _ _ (@Y7 _ _ _ _ (@YU _ _ _ (@YL _ _ _ _ _ _ _ _ _ _ Z8 Y2 (@Ya _ _ _ _ _ (pv 0) (@Ya _ _ _ _ _ (@Xt _ _ _ _ ("str") b_str (by decide +kernel) (by rfl) (by rfl) (by decide) (by decide)) Yb (by rfl)) (by rfl)) (by decide +kernel) (by rfl) (by rfl) (by decide) (by decide) (by rfl) (by rfl)) (by intro _;rfl))) (@Yd _ _ _ (@YN _ _ _ _ _ _ _ _ _ _ _ ⟨x_NoNote,r_NoNote⟩ YX (@Ya _ _ _ _ _ Yg Yb (by rfl)) (by rfl) (by rfl) (by rfl) (by decide) (by rfl) (by rfl))) Yi) (@Yc _ _ _ _ _ (PS.nox (@Yv _ _ (1) _ _ _ _ Z0C.nd rfl (.inl rfl) (@Xx _ _ _ _ _ _ _ _ _ _ _ _ PySem.F.plainAttrs_str PySem.F.slot_str_split PySem.F.type_str_split Yd4 (pv 0) (@Ya _ _ _ _ _ Yg Yb (by rfl)) (by rfl) (by rfl) (by rfl) (by rfl) (by rfl)) (by rfl) (by first | exact .inl rfl | exact .inr rfl | assumption))) (@Yc _ _ _ _ _ (@YZ _ _ _ _ (@YI _ _ _ _ _ _ _ _ _ _ _ _ _ Z2V hr YS (@Ya _ _ _ _ _ (pv 1) Yb (by rfl)) (by omega) (by rfl) (by rfl) (by decide) (by rfl) (by rfl)) (by rfl)) (@Yc _ _ _ _ _ (@Yd8 _ (2) _ _ _ _ _ _ _ _ _ ([none]) ((["row"]:List Str)) _ (Ys 0) _ _ _ Z0C.nd rfl (.inl rfl) Qi (.own .nil) rfl (@Y3 _ _ _ _ (pv 1)) (fun cl C s₀ H₀ fp pn=>(@Yq _ _ (0) _ (show List.Nodup (["row"]:List Str) by decide +kernel) rfl (.inl rfl) (.inr rfl))) (fun cl C s₀ H₀ fp pn=>Y0) (fun cl C s₀ H₀ fp pn=>(@YI _ _ _ _ _ _ _ _ _ _ _ _ _ Z51 hr Ycj (@Ya _ _ _ _ _ (pv 0) Yb (by rfl)) (by omega) (by rfl) (by rfl) (by decide) (by rfl) (by rfl))) (by intro x hx;simp at hx) (by rfl) (by decide) (by decide +kernel) (by intro _;rfl) (by rfl) (by first | exact .inl rfl | exact .inr rfl | assumption)) (@Yc _ _ _ _ _ (@YZ _ _ _ _ (@YI _ _ _ _ _ _ _ _ _ _ _ _ _ Z2G hr YS (@Ya _ _ _ _ _ (pv 2) Yb (by rfl)) (by omega) (by rfl) (by rfl) (by decide) (by rfl) (by rfl)) (by rfl)) (@Yc _ _ _ _ _ (@Xg _ _ _ _ _ _ _ _ PassesOwn.leaving rfl (@Y3 _ _ _ _ (pv 2)) (@Xq _ _ _ _ _ (2) rfl (@YJ _ _ _ _ _ (@Yq _ _ (3) _ Z0C.nd rfl (.inl rfl) (by first | exact .inl rfl | exact .inr rfl | assumption)) (@YJ _ _ _ _ _ (@Yq _ _ (4) _ Z0C.nd rfl (.inl rfl) (by first | exact .inl rfl | exact .inr rfl | assumption)) Xf (by rfl)) (by rfl)) (by rfl) (by rfl)) (@Yd _ _ _ (@YZ _ _ _ _ (@YI _ _ _ _ _ _ _ _ _ _ _ _ _ Z3N hr YS (@Ya _ _ _ _ _ (pv 4) Yb (by rfl)) (by omega) (by rfl) (by rfl) (by decide) (by rfl) (by rfl)) (by rfl))) (by intro _;rfl)) (@Yc _ _ _ _ _ (@YZ _ _ _ _ (@YI _ _ _ _ _ _ _ _ _ _ _ _ _ Z4i hr YS (@Ya _ _ _ _ _ (pv 2) Yb (by rfl)) (by omega) (by rfl) (by rfl) (by decide) (by rfl) (by rfl)) (by rfl)) (@Yc _ _ _ _ _ (PS.nox (@YZ _ _ _ _ (@YE _ _ _ _ _ _ _ _ _ _ _ _ Z3x hr (@Ya _ _ _ _ _ (pv 2) Yb (by rfl)) (by omega) (by rfl) (by rfl) (by decide) (by rfl) (by rfl)) (by rfl))) (@Yd _ _ _ (PS.nox (@Yj _ _ _ _ (pv 2)))))))))))),?_⟩
 have e10:Str.ofString "\n"=⟨#[10]⟩:=by decide +kernel
 refine Y9 (fun σ H'=>H'=H∧σ=[some x,none,none,none,none]∧∃ t,x = .str (S t)) ?_ ?_
 rotate_left
 ·intro N hN
  walk_at "rd"
  rcases hx with ⟨⟨ty,h1,h2⟩,qe⟩ | ⟨t,rfl,_⟩
  ·exact ⟨_,rfl,_,h1,false,h2,Xb rfl ⟨few (by decide),qe⟩⟩
  ·exact ⟨_,rfl,_,.str _,true,rfl,YH (by decide) (hN _ _ ⟨rfl,rfl,t,rfl⟩)⟩
 rintro σ H1 ⟨e1,rfl,t,rfl⟩
 subst e1
 rcases hx with ⟨⟨ty,h1,h2⟩,qe⟩ | ⟨t',e,hl,qc,qn,qt,qr,qm,hg,q⟩
 ·exfalso
  cases h1
  cases h2
 cases Xi (V.str.inj e)
 obtain ⟨sl1,sl2⟩:=YbR t
 refine UA (fun σ H'=>Same H1 H'∧VN (spl t)∧∃ R,σ=[some (.str (S t)),some (.ref R),none,none,none]∧H' R=some (.lst (vst (spl t)))) ?_ ?_
 rotate_left
 ·intro N hN
  have hvl:(Txt.split (S t) ⟨#[10]⟩).map V.str=vst (spl t):=by rw [Ydy,List.map_map];rfl
  walk_at "rd"
  rw [e10]
  refine ⟨rfl,S t,10,rfl,rfl,by rw [Yw];omega,fun l hl'=>?_⟩
  rw [hvl]
  have u:=Same.upd_new hl' (.lst (vst (spl t)))
  refine ⟨l,spl t,rfl,Ye,by omega,fun r hr=>by have:=sl2 r hr;omega,fun h8 hr H2 s2=>hN _ _ ⟨u.trans s2,⟨h8,hr⟩,l,rfl,s2 _ _ Ye⟩,fun hn H2 s2=>qc hn H2 (u.trans s2)⟩
 rintro σ H2 ⟨s2,hcr,R,rfl,hR⟩
 refine Y9 (fun σ H'=>Same H1 H'∧∃ F bk,H1 F=none∧bkd (spl t)=some bk∧Xn H' F bk∧σ=[some (.str (S t)),some (.ref R),some (.ref F),none,none]) ?_ ?_
 rotate_left
 ·intro N hN
  have hvs:(vst (spl t)).length=(spl t).length:=by rw [vst,List.length_map]
  walk_at "rd"
  refine Yd2 (K:=g.K) (b:=R) (xs:=vst (spl t)) (fun D i y H'=>∀ r,(spl t)[i]?=some r→∃ p,pdr r=some p∧WW H' p y) (fun D i y H' H'' h s r hr=>by obtain ⟨z,e1,e2⟩:=h r hr;exact ⟨z,e1,e2.keep s⟩) (fun D i y H' zs zs' h hD r hr=>?_) (fun R r=>by walk_at "rd";exact r) (SqL.of hR) (by have:=hcr.1;omega) ?_ ?_
  ·obtain ⟨z,e1,b,w,e2,h4,h5⟩:=h r hr
   have tk:Tk H' (upd H' D (.lst zs')):=fun a ys ha=>by rw [Yt (Wk ha hD (by intro z;cases z))];exact ha
   exact ⟨z,e1,b,w,e2,tk _ _ h4,h5.keep tk⟩
  ·intro D i x H' zs hx sm hD R' r
   rw [vst,List.getElem?_map] at hx
   obtain ⟨z,hz,rfl⟩:=Option.map_eq_some_iff.mp hx
   have hm:=List.mem_of_getElem? hz
   walk_at "rd"
   refine ⟨z,rfl,by have:=sl2 z hm;omega,hcr.2 z hm,fun p v H3 e s3 hp=>r v H3 s3 fun z' hz'=>?_,fun e H3 s3=>qn hcr (YaS hm e) H3 ((s2.trans sm).trans s3)⟩
   rw [hz] at hz'
   cases hz'
   exact ⟨p,e,hp⟩
  ·intro D ys H' hD sm hd hyl hys
   obtain ⟨bk,e,h1,h2⟩:=YaT (H:=H') (rs:=spl t) (us:=ys) (by omega) fun i v r a b=>hys i v a r b
   exact hN _ _ ⟨s2.trans sm,D,bk,s2.free hD,e,⟨ys,hd,h1,h2⟩,rfl⟩
 rintro σ H3 ⟨s3,F,bk,hF,ebk,hB,rfl⟩
 obtain ⟨bl,bo⟩:=Ydz ebk
 have hbk:UE bk:=⟨by have:=hcr.1;omega,bo⟩
 refine Y9 (fun σ H'=>Same H1 H'∧Xn H' F bk∧Bk2 bk∧σ=[some (.str (S t)),some (.ref R),some (.ref F),none,none]) ?_ ?_
 rotate_left
 ·intro N hN
  walk_at "rd"
  exact ⟨F,bk,rfl,hB,hbk,fun h2 H4 s4=>hN _ _ ⟨s3.trans s4,hB.keep s4,h2,rfl⟩,fun hn H4 s4=>qt bk hcr ebk hn H4 (s3.trans s4)⟩
 rintro σ H4 ⟨s4,hB4,h2b,rfl⟩
 refine Y9 (fun σ H'=>Same H1 H'∧Xn H' F bk∧(∀ p∈bk,Range p.2)∧∃ o1 o2,σ=[some (.str (S t)),some (.ref R),some (.ref F),o1,o2]) ?_ ?_
 rotate_left
 ·intro N hN
  obtain ⟨us,h1,h2,h3⟩:=id hB4
  refine XT (K:=g.K) (a:=F) (xs:=us) (fun i σ H5=>Same H4 H5∧(∀ (j:Nat) p,j<i→bk[j]?=some p→Range p.2)∧∃ o1 o2,σ=[some (.str (S t)),some (.ref R),some (.ref F),o1,o2]) (fun R r=>by walk_at "rd";exact r) ⟨.refl _,fun j r h=>by omega,none,none,rfl⟩ ?_ ?_ ?_
  ·rintro i σ H5 _ ⟨s,_⟩
   exact SqL.of (s _ _ h1)
  ·rintro i v σ H5 hv ⟨s,hj,o1,o2,rfl⟩
   have hi:=(List.getElem?_eq_some_iff.mp hv).1
   have hp:bk[i]?=some (bk[i]'(by omega)):=List.getElem?_eq_getElem _
   generalize bk[i]'(by omega)=pr at hp
   obtain ⟨b,w,rfl,h4,h5⟩:=h3 i v _ hv hp
   have hm:=List.mem_of_getElem? hp
   obtain ⟨k1,k2,k3⟩:=hbk.2 pr hm
   walk_at "rd"
   refine ⟨_,.inl (.inl (s _ _ h4)),rfl,_,_,rfl,_,_,rfl,rfl,pr.2,w,rfl,h5.keep (.of s),k1,k2,k3,fun ap H6 s6=>⟨s.trans s6,fun j p hj' hp'=>?_⟩,fun na H6 s6=>qr bk hcr ebk h2b (fun z=>na (z pr hm)) H6 ((s4.trans s).trans s6)⟩
   by_cases c:j<i
   ·exact hj j p c hp'
   ·have:j=i:=by omega
    subst this
    rw [hp] at hp'
    cases hp'
    exact ap
  ·rintro σ H5 ⟨s,hj,o1,o2,rfl⟩
   refine hN _ _ ⟨s4.trans s,hB4.keep s,fun p hp=>?_,_,_,rfl⟩
   obtain ⟨j,hj'⟩:=List.mem_iff_getElem?.mp hp
   exact hj j p (by have:=(List.getElem?_eq_some_iff.mp hj').1;omega) hj'
 rintro σ H5 ⟨s5,hB5,hrg,o1,o2,rfl⟩
 walk_at "rd"
 refine ⟨F,bk,rfl,hB5,hbk,fun hn H6 s6=>⟨F,bk,rfl,hB5.keep s6,hbk,hn,hg bk hcr ebk h2b hrg hn,fun H7 s7=>q bk F H7 hcr ebk h2b hrg hn ((s5.trans s6).trans s7) hF ((hB5.keep s6).keep s7)⟩,fun hn H6 s6=>qm bk hcr ebk h2b hrg hn H6 (s5.trans s6)⟩
def YbS (K:PySem.W.Frag):Sp:=fun vs H Q _=>∃ (a:Addr) (ns:List Int) (k:Nat),vs=[.ref a,.int k]∧SqL K H a (ns.map V.int)∧ns.length≤63∧Q (.int (ns.getD k 0)) H
theorem Z52 {Z1 Z2 Z3 Z6 Z4 Z5 Z0:Addr} (R:g.Raw "_law_cell_at" "_law_cell_at" Z1P ["_law_script","_law_k"]) (b_len:g.mg "len"=none):g.Fn (1) "_law_cell_at" ["_law_script","_law_k"] (YbS g.K):=by
 refine R.fn Z4V (fun vs H Q E h=>by obtain ⟨a,ns,k,rfl,hS,hl,q⟩:=h;rfl) fun f_ cdv A outer s H vs Q E hr h=>?_
 obtain ⟨a,ns,k,rfl,hS,hl,q⟩:=h
 refine ⟨_,(@Yc _ _ _ _ _ (@Yp _ _ _ _ _ _ _ _ (@Yk _ _ _ _ _ _ _ _ QT (pv 1) (@YL _ _ _ _ _ _ _ _ _ _ b_len YW (@Ya _ _ _ _ _ (pv 0) Yb (by rfl)) (by decide +kernel) (by rfl) (by rfl) (by decide) (by decide) (by rfl) (by rfl)) (Yo _)) (@Yd _ _ _ (@Yj _ _ _ _ (@Ym _ _ _ _ _ _ _ XD (pv 0) (pv 1) (fun _ _=>rfl)))) Yi) (@Yd _ _ _ (@Yj _ _ _ _ Yf))),?_⟩
 walk_at "rd"
 refine ⟨_,.inl hS,YG (fun c=>?_) fun c=>?_⟩
 ·rw [List.length_map] at c
  have hk:k<ns.length:=by omega
  have e:ns.getD k 0=ns[k]:=by simp [List.getD_eq_getElem?_getD,List.getElem?_eq_getElem hk]
  rw [e] at q
  exact ⟨_,hS,_,YC (by rw [List.getElem?_map,List.getElem?_eq_getElem hk];rfl),q⟩
 ·rw [List.length_map] at c
  have hk:ns.length≤k:=by omega
  have e:ns.getD k 0=0:=by simp [List.getD_eq_getElem?_getD,List.getElem?_eq_none hk]
  rw [e] at q
  exact q
def Z48 (K:PySem.W.Frag):Sp:=fun vs H Q _=>∃ (c:Int) (n:Nat),vs=[.int c,.int (n:Nat)]∧n≤100∧∀ (w:List Nat),w.length=n→(∀ x∈w,Rd.isSmall x=true)→Q (.str (S w)) H
def abc:List Nat:=(List.range 26).map (97+·)
theorem Qo:Str.ofString "abcdefghijklmnopqrstuvwxyz"=S abc:=by decide +kernel
theorem YbT {k:Nat} (h:k<26):abc[k]?=some (97+k):=by
 rw [abc,List.getElem?_map,List.getElem?_range h]
 rfl
theorem QI {k:Nat} (h:k<26):Rd.isSmall (97+k)=true:=by
 simp [Rd.isSmall]
 omega
theorem Ybi {Z1 Z2 Z3 Z6 Z4 Z5 Z0:Addr} (R:g.Raw "_law_word" "_law_word" Z34 ["_law_cell","_law_size"]) (ZW:g.mg "range"=none):g.Fn (1) "_law_word" ["_law_cell","_law_size"] (Z48 g.K):=by
 refine R.fn Z0y (fun vs H Q E h=>by obtain ⟨c,n,rfl,hn,q⟩:=h;rfl) fun f_ cdv A outer s H vs Q E hr h=>?_
 obtain ⟨c,n,rfl,hn,q⟩:=h
 refine ⟨_,(@Yc _ _ _ _ _ (@Yv _ _ (2) _ _ _ _ Z0y.nd rfl (.inl rfl) Yg (by rfl) (by first | exact .inl rfl | exact .inr rfl | assumption)) (@Yc _ _ _ _ _ (@Yv _ _ (3) _ _ _ _ Z0y.nd rfl (.inl rfl) (@Yl _ _ _ _ _ _ _ _ X3 (@Yl _ _ _ _ _ _ _ _ YR (pv 0) Yf) Yf) (by rfl) (by first | exact .inl rfl | exact .inr rfl | assumption)) (@Yc _ _ _ _ _ (@Xg _ _ _ _ _ _ _ _ PassesOwn.never rfl (@We _ _ _ _ _ _ rfl ZW (@Ya _ _ _ _ _ (pv 1) Yb (by rfl)) (by rfl)) (@Yq _ _ (4) _ Z0y.nd rfl (.inl rfl) (by first | exact .inl rfl | exact .inr rfl | assumption)) (@Yc _ _ _ _ _ (@Yv _ _ (3) _ _ _ _ Z0y.nd rfl (.inl rfl) (@Yl _ _ _ _ _ _ _ _ YR (@Yl _ _ _ _ _ _ _ _ Ybx (pv 3) Yf) Yf) (by rfl) (by first | exact .inl rfl | exact .inr rfl | assumption)) (@Yd _ _ _ (@Yv _ _ (2) _ _ _ _ Z0y.nd rfl (.inl rfl) (@Yl _ _ _ _ _ _ _ _ Yu (pv 2) (@Ym _ _ _ _ _ _ _ UN Yg (@Yl _ _ _ _ _ _ _ _ YR (@Yl _ _ _ _ _ _ _ _ Wu (pv 3) Yf) Yf) (fun _ _=>rfl))) (by rfl) (by first | exact .inl rfl | exact .inr rfl | assumption)))) (by intro _;rfl)) (@Yd _ _ _ (@Yj _ _ _ _ (pv 2)))))),?_⟩
 have en:Str.ofString ""=S []:=by decide +kernel
 walk_at "rd"
 rw [en]
 refine ⟨by decide,?_⟩
 refine W8 (n:=n) (fun i σ' H'=>H'=H∧∃ (z:Int) (ac:List Nat) (o:Option V),σ'=[some (.int c),some (.int (n:Nat)),some (.str (S ac)),some (.int z),o]∧ac.length=i∧(∀ x∈ac,Rd.isSmall x=true)∧z.natAbs<2^40) (fun R r=>by walk_at "rd";exact r) (by omega) ⟨rfl,_,[],none,rfl,rfl,fun x h=>(by cases h),?_⟩ ?_ ?_
 ·have h1:=Int.emod_nonneg c (show (2147483646:Int)≠0 by decide)
  have h2:=Int.emod_lt_of_pos c (show (0:Int)<2147483646 by decide)
  have:(2:Nat)^40=1099511627776:=rfl
  omega
 ·rintro i σ' H' hi ⟨rfl,z,ac,o,rfl,h1,h2,h3⟩
  obtain ⟨k,hk,hk2⟩:=XZ (z*48271%2147483647 / 1000) (j:=26) (by decide)
  have hk3:k<26:=by omega
  have hac:=Yw ac
  have hs1:(S [97+k]).length=1:=Yw _
  walk_at "rd"
  rw [Qo]
  refine ⟨.inl (cm (m:=40) (n:=20) h3 (by decide)),by decide,Wh (by decide) (by decide),by decide,?_⟩
  rw [hk]
  refine ⟨_,_,97+k,rfl,rfl,few (by decide),?_,S [97+k],rfl,few (by omega),rfl,_,ac++[97+k],Yy _ _,rfl,by rw [List.length_append,List.length_singleton];omega,fun x hx=>?_,?_⟩
  ·rw [YV]
   exact YC (YbT hk3)
  ·rcases List.mem_append.mp hx with hx | hx
   ·exact h2 x hx
   ·have:x=97+k:=by simpa using hx
    rw [this]
    exact QI hk3
  ·have h1:=Int.emod_nonneg (z*48271) (show (2147483647:Int)≠0 by decide)
   have h2:=Int.emod_lt_of_pos (z*48271) (show (0:Int)<2147483647 by decide)
   have:(2:Nat)^40=1099511627776:=rfl
   omega
 ·rintro σ' H' ⟨rfl,z,ac,o,rfl,h1,h2,h3⟩
  walk_at "rd"
  exact q ac h1 h2
theorem Yed:∀ k:Nat,k<26→Txt.find (S abc) (S [97+k])=(k:Int):=by decide +kernel
theorem YdA {x:Nat} (h:Rd.isSmall x=true):∃ k,k<26∧x=97+k:=by
 simp [Rd.isSmall] at h
 exact ⟨x - 97,by omega,by omega⟩
theorem YaV {w:List Nat} (h1:1≤w.length) (h2:w.length≤8) (h3:∀ x∈w,Rd.isSmall x=true):Rd.labOk w=true:=by
 unfold Rd.labOk
 rw [decide_eq_true h1,decide_eq_true h2,List.all_eq_true.mpr h3]
 rfl
theorem nodup_range {n:Nat} {f:Nat→List Nat} (h:∀ i j,i<n→j<n→f i=f j→i=j):((List.range n).map f).Nodup:=by
 rw [List.nodup_iff_pairwise_ne,List.pairwise_map]
 refine List.Pairwise.imp_of_mem (R:=fun a b=>a≠b) (fun {a b} ha hb hab e=>hab (h a b (List.mem_range.mp ha) (List.mem_range.mp hb) e)) ?_
 exact List.nodup_range
theorem W5 {s:Sh} (h:pts s=[]) (ha:Ap s):X0 s:=fun z hz=>by
 rw [X8,h] at hz
 simp at hz
 rw [hz];exact ha
theorem W6 {s:Sh} (h:pts s=[]) (ha:Rg s):Range s:=fun z hz=>by
 rw [X8,h] at hz
 simp at hz
 rw [hz];exact ha
theorem XH {s:Sh} (ha:Ap s) (h:∀ z∈pts s,X0 z):X0 s:=fun z hz=>by
 rw [X8] at hz
 rcases List.mem_cons.mp hz with rfl | hz
 ·exact ha
 ·obtain ⟨y,hy,hz⟩:=List.mem_flatMap.mp hz
  exact h y hy z hz
theorem XI {s:Sh} (ha:Rg s) (h:∀ z∈pts s,Range z):Range s:=fun z hz=>by
 rw [X8] at hz
 rcases List.mem_cons.mp hz with rfl | hz
 ·exact ha
 ·obtain ⟨y,hy,hz⟩:=List.mem_flatMap.mp hz
  exact h y hy z hz
theorem UG (c:Nat):∀ ys:List (List Nat),(YM [c] ys).length≤(ys.map List.length).sum+ys.length
 | []=>by simp [YM]
 | [x]=>by simp [YM]
 | x::y::r=>by
  have:=UG c (y::r)
  show (x++[c]++YM [c] (y::r)).length≤x.length+((y::r).map List.length).sum+((y::r).length+1)
  rw [List.length_append,List.length_append,List.length_singleton]
  omega
theorem XQ {s:Sh} (hg:Gd s) (hu:∀ w,s ≠ .use w):(tt s).length≤(mc (kd s)).length+2+((shn s).map List.length).sum+(shn s).length:=by
 have:=UG 44 (shn s)
 rw [Q2 hg hu]
 simp only [List.length_append,List.length_cons,List.length_nil]
 omega
theorem Vo {i:Int} (h:i.natAbs<10^60):(dg i).length≤61:=by
 have hl:=UW (k:=60) (by decide) h
 rcases Int.natAbs_eq i with e | e
 ·rw [e];omega
 ·by_cases h0:i.natAbs=0
  ·have:i=0:=by omega
   subst this
   exact Nat.le_trans hl (by decide)
  ·have:=V5 (n:=i.natAbs) (by omega)
   rw [← e] at this
   rw [this,List.length_cons];omega
def Kids.of:List (List Nat×Sh)→Kids
 | [] => .nil
 | p::r => .cons p.1 p.2 (.of r)
theorem Yfs {l:List (List Nat×Sh)}:((l.map fun p=>p.1++58::tt p.2).map List.length).sum=(l.map fun p=>p.1.length+1).sum+((l.map (·.2)).map fun s=>(tt s).length).sum:=by
 induction l with
 | nil=>rfl
 | cons p l ih =>
  simp only [List.map_cons,List.sum_cons,ih,List.length_append,List.length_cons]
  omega
def Z3o (K:PySem.W.Frag):Sp:=fun vs H Q _=>∃ (c:Int) (n:Nat),vs=[.int c,.int (n:Nat)]∧1≤n∧n≤8∧∀ (p:Addr) (ls:List (List Nat)) H',Same H H'→H p=none→H' p=some (.lst (vst ls))→ls.length=n→(∀ l∈ls,Rd.labOk l=true)→ls.Nodup→Q (.ref p) H'
theorem YaW {k:Nat} {Z1 Z2 Z3 Z6 Z4 Z5 Z0:Addr} (R:g.Raw "_law_names" "_law_names" Z2A ["_law_cell","_law_many"]) (F_law_word:g.Fn k "_law_word" ["_law_cell","_law_size"] (Z48 g.K)) (b_len:g.mg "len"=none) (ZW:g.mg "range"=none):g.Fn (k+1) "_law_names" ["_law_cell","_law_many"] (Z3o g.K):=by
 refine R.fn Z0p (fun vs H Q E h=>by obtain ⟨c,n,rfl,hn1,hn2,q⟩:=h;rfl) fun f_ cdv A outer s H vs Q E hr h=>?_
 obtain ⟨c,n,rfl,hn1,hn2,q⟩:=h
 refine ⟨_,(@Yc _ _ _ _ _ (@Yv _ _ (2) _ _ _ _ Z0p.nd rfl (.inr rfl) (@YE _ _ _ _ _ _ _ _ _ _ _ _ F_law_word hr (@Ya _ _ _ _ _ (@Yl _ _ _ _ _ _ _ _ Wu (pv 0) Yf) (@Ya _ _ _ _ _ Yf Yb (by rfl)) (by rfl)) (by omega) (by rfl) (by rfl) (by decide) (by rfl) (by rfl)) (by rfl) (by first | exact .inl rfl | exact .inr rfl | assumption)) (@Yc _ _ _ _ _ (@Yp _ _ _ _ _ _ _ _ (@Yk _ _ _ _ _ _ _ _ YF (@Yl _ _ _ _ _ _ _ _ YR (pv 0) Yf) Yf (Yo _)) (@Yd _ _ _ (@Yj _ _ _ _ (@XG _ _ _ _ _ _ _ ([none,some 2,some 1]) ((["_law_k","_law_base","_law_many"]:List Str)) _ (Ys 0) _ _ (.own (.cap (i:=2) rfl rfl (by first | exact .inl rfl | exact .inr rfl) (.cap (i:=1) rfl rfl (by first | exact .inl rfl | exact .inr rfl) .nil))) rfl (@We _ _ _ _ _ _ rfl ZW (@Ya _ _ _ _ _ (pv 1) Yb (by rfl)) (by rfl)) (fun cl C s₀ H₀ fp pn=>(@Yq _ _ (0) _ (show List.Nodup (["_law_k","_law_base","_law_many"]:List Str) by decide +kernel) rfl (.inl rfl) (.inr rfl))) (fun cl C s₀ H₀ fp pn=>Y0) (fun cl C s₀ H₀ fp pn=>(@X9 _ _ _ _ _ _ _ _ _ _ WS (pv 1) Vf (@XW _ _ _ (@Yl _ _ _ _ _ _ _ _ YcG (pv 2) (pv 0))))) (by intro x hx;simp at hx;first | (subst hx;exact .inl rfl) | (rcases hx with rfl | rfl<;>exact .inl rfl) | (rcases hx with rfl | rfl | rfl<;>exact .inl rfl) | (rcases hx with rfl | rfl | rfl | rfl<;>exact .inl rfl) | (rcases hx with rfl | rfl | rfl | rfl | rfl<;>exact .inl rfl)) (by rfl) (by decide) (by decide +kernel) (by intro _;rfl)))) Yi) (@Yc _ _ _ _ _ (@Yv _ _ (2) _ _ _ _ Z0p.nd rfl (.inr rfl) (@X9 _ _ _ _ _ _ _ _ _ _ WS (pv 2) Vf (@XW _ _ _ (@Yl _ _ _ _ _ _ _ _ X3 Yf (@Yl _ _ _ _ _ _ _ _ YR (@Yl _ _ _ _ _ _ _ _ Wu (pv 0) Yf) Yf)))) (by rfl) (by first | exact .inl rfl | exact .inr rfl | assumption)) (@Yc _ _ _ _ _ (@Yv _ _ (3) _ _ _ _ Z0p.nd rfl (.inr rfl) (@Yl _ _ _ _ _ _ _ _ YR (@Yl _ _ _ _ _ _ _ _ Wu (pv 0) Yf) (@YL _ _ _ _ _ _ _ _ _ _ b_len Xl (@Ya _ _ _ _ _ (pv 2) Yb (by rfl)) (by decide +kernel) (by rfl) (by rfl) (by decide) (by decide) (by rfl) (by rfl))) (by rfl) (by first | exact .inl rfl | exact .inr rfl | assumption)) (@Yc _ _ _ _ _ (@Yv _ _ (4) _ _ _ _ Z0p.nd rfl (.inr rfl) Yg (by rfl) (by first | exact .inl rfl | exact .inr rfl | assumption)) (@Yc _ _ _ _ _ (@Yv _ _ (5) _ _ _ _ Z0p.nd rfl (.inr rfl) (@Xx _ _ _ _ _ _ _ _ _ _ _ _ PySem.F.plainAttrs_str PySem.F.slot_str_index PySem.F.type_str_index Yc9 (pv 4) (@Ya _ _ _ _ _ (@Ym _ _ _ _ _ _ _ UN (pv 2) (pv 3) (fun _ _=>rfl)) Yb (by rfl)) (by rfl) (by rfl) (by rfl) (by rfl) (by rfl)) (by rfl) (by first | exact .inl rfl | exact .inr rfl | assumption)) (@Yd _ _ _ (@Yj _ _ _ _ (@XG _ _ _ _ _ _ _ ([none,some 2,some 4,some 3,some 5]) ((["_law_k","_law_base","_law_letters","_law_at","_law_here"]:List Str)) _ (Ys 0) _ _ (.own (.cap (i:=2) rfl rfl (by first | exact .inl rfl | exact .inr rfl) (.cap (i:=4) rfl rfl (by first | exact .inl rfl | exact .inr rfl) (.cap (i:=3) rfl rfl (by first | exact .inl rfl | exact .inr rfl) (.cap (i:=5) rfl rfl (by first | exact .inl rfl | exact .inr rfl) .nil))))) rfl (@We _ _ _ _ _ _ rfl ZW (@Ya _ _ _ _ _ (pv 1) Yb (by rfl)) (by rfl)) (fun cl C s₀ H₀ fp pn=>(@Yq _ _ (0) _ (show List.Nodup (["_law_k","_law_base","_law_letters","_law_at","_law_here"]:List Str) by decide +kernel) rfl (.inl rfl) (.inr rfl))) (fun cl C s₀ H₀ fp pn=>Y0) (fun cl C s₀ H₀ fp pn=>(@Yl _ _ _ _ _ _ _ _ Yu (@Yl _ _ _ _ _ _ _ _ Yu (@X9 _ _ _ _ _ _ _ _ _ _ WS (pv 1) Vf (@XW _ _ _ (pv 3))) (@Ym _ _ _ _ _ _ _ UN (pv 2) (@Yl _ _ _ _ _ _ _ _ YR (@Yl _ _ _ _ _ _ _ _ X3 (pv 4) (pv 0)) Yf) (fun _ _=>rfl))) (@X9 _ _ _ _ _ _ _ _ _ _ WS (pv 1) (@XW _ _ _ (@Yl _ _ _ _ _ _ _ _ X3 (pv 3) Yf)) Vf))) (by intro x hx;simp at hx;first | (subst hx;exact .inl rfl) | (rcases hx with rfl | rfl<;>exact .inl rfl) | (rcases hx with rfl | rfl | rfl<;>exact .inl rfl) | (rcases hx with rfl | rfl | rfl | rfl<;>exact .inl rfl) | (rcases hx with rfl | rfl | rfl | rfl | rfl<;>exact .inl rfl)) (by rfl) (by decide) (by decide +kernel) (by intro _;rfl)))))))))),?_⟩
 refine Y9 (fun σ H'=>H'=H∧∃ w:List Nat,σ=[some (.int c),some (.int (n:Nat)),some (.str (S w)),none,none,none]∧w.length=8∧∀ x∈w,Rd.isSmall x=true) ?_ ?_
 rotate_left
 ·intro N hN
  walk_at "rd"
  exact ⟨Wh (by decide) (by decide),c / 648,8,rfl,by decide,fun w h1 h2=>hN _ _ ⟨rfl,w,rfl,h1,h2⟩⟩
 rintro σ H' ⟨rfl,w,rfl,hw,hsm⟩
 have hsw:=Yw w
 refine Y9 (fun σ H2=>H2=H'∧σ=[some (.int c),some (.int (n:Nat)),some (.str (S w)),none,none,none]) ?_ ?_
 rotate_left
 ·intro N hN
  walk_at "rd"
  refine ⟨by decide,YG (fun c2=>?_) fun c2=>hN _ _ ⟨rfl,rfl⟩⟩
  refine VA (n:=n) (vst ((List.range n).map fun k=>w.take (n - k))) (fun R r=>by walk_at "rd";exact r) (by simp [vst]) (by omega) ?_ ?_
  ·intro i y H2 hi hy sm R r
   rw [vst,List.getElem?_map,List.getElem?_map,List.getElem?_range hi] at hy
   have hy':=Option.some.inj hy
   subst hy'
   walk_at "rd"
   refine ⟨_,rfl,few (by omega),?_⟩
   have:=Qe w (n - i)
   rw [show ((n:Int) - (i:Int))=((n - i:Nat):Int) by omega,this]
   exact r H2 (.refl _)
  ·intro D H2 hD sm hd
   refine q D _ H2 sm hD hd (by simp) (fun l hl=>?_) (nodup_range fun i j hi hj e=>?_)
   ·obtain ⟨k,hk,rfl⟩:=List.mem_map.mp hl
    have hk':=List.mem_range.mp hk
    refine YaV (by rw [List.length_take];omega) (by rw [List.length_take];omega) fun x hx=>hsm x (List.mem_of_mem_take hx)
   ·have:=congrArg List.length e
    rw [List.length_take,List.length_take] at this
    omega
 rintro σ H2 ⟨rfl,rfl⟩
 obtain ⟨e,he,he2⟩:=XZ (c / 9) (j:=8) (by decide)
 have htk:=Qe w (1+e)
 generalize hb:w.take (1+e)=b at htk
 have hbl:b.length=1+e:=by rw [← hb,List.length_take];omega
 have hbs:∀ x∈b,Rd.isSmall x=true:=fun x hx=>hsm x (List.mem_of_mem_take (by rw [hb];exact hx))
 have hsb:=Yw b
 obtain ⟨a,ha,ha2⟩:=XZ (c / 72) (j:=((S b).length:Int)) (by omega)
 have hab:a<b.length:=by omega
 obtain ⟨k0,hk0,hx0⟩:=YdA (hbs b[a] (List.getElem_mem hab))
 have hf:=Yed k0 hk0
 have l26:(S abc).length=26:=Yw _
 refine cut4 (fun σ H3=>H3=H2∧σ=[some (.int c),some (.int (n:Nat)),some (.str (S b)),some (.int (a:Nat)),some (.str (S abc)),some (.int (k0:Nat))]) ?_ ?_
 rotate_left
 ·intro N hN
  walk_at "rd"
  rw [Qo]
  refine ⟨Wh (by decide) (by decide),by decide,_,rfl,few (by omega),?_⟩
  rw [he,show (1+(e:Int))=((1+e:Nat):Int) by omega,htk]
  refine ⟨Wh (by decide) (by decide),S b,rfl,few (by omega),by omega,?_⟩
  rw [ha]
  refine ⟨rfl,_,_,b[a],rfl,rfl,few (by omega),?_,?_⟩
  ·rw [YV]
   exact YC (List.getElem?_eq_getElem hab)
  ·refine ⟨_,_,rfl,rfl,?_,?_⟩
   ·rw [hx0]
    show 0≤Txt.find (S abc) (S [97+k0])
    rw [hf];omega
   ·rw [hx0]
    have:Txt.find (S abc) ⟨#[97+k0]⟩=(k0:Int):=hf
    rw [this]
    exact hN _ _ ⟨rfl,rfl⟩
 rintro σ H3 ⟨rfl,rfl⟩
 walk_at "rd"
 have mkl:∀ k:Nat,(b.take a++[97+(k0+k)%26]++b.drop (a+1)).length=1+e:=fun k=>by
  rw [List.length_append,List.length_append,List.length_take,List.length_drop,List.length_singleton]
  omega
 refine VA (n:=n) (vst ((List.range n).map fun k=>b.take a++[97+(k0+k)%26]++b.drop (a+1))) (fun R r=>by walk_at "rd";exact r) (by simp [vst]) (by omega) ?_ ?_
 ·intro i y H2 hi hy sm R r
  rw [vst,List.getElem?_map,List.getElem?_map,List.getElem?_range hi] at hy
  have hy':=Option.some.inj hy
  subst hy'
  have hlt:(k0+i)%26<26:=Nat.mod_lt _ (by decide)
  have e1:=Qe b a
  have e2:=Ybt b (a+1)
  have l1:=Yw (b.take a)
  have l2:=Yw (b.drop (a+1))
  have l3:(S [97+(k0+i)%26]).length=1:=Yw _
  have l4:(b.take a).length≤8:=by rw [List.length_take];omega
  have l5:(b.drop (a+1)).length≤8:=by rw [List.length_drop];omega
  walk_at "rd"
  refine ⟨_,rfl,few (by omega),by decide,?_⟩
  rw [show ((k0:Int)+(i:Int))%26=(((k0+i)%26:Nat):Int) by omega,e1]
  refine ⟨_,_,97+(k0+i)%26,rfl,rfl,few (by omega),?_,S (b.take a),rfl,S [97+(k0+i)%26],rfl,few (by omega),_,rfl,few (by omega),?_⟩
  ·rw [YV]
   exact YC (YbT hlt)
  ·rw [show ((a:Int)+1)=((a+1:Nat):Int) by omega,e2]
   refine ⟨_,rfl,?_,?_⟩
   ·rw [Yy,Yw,List.length_append,List.length_singleton]
    exact few (by omega)
   ·rw [Yy,Yy]
    exact r H2 (.refl _)
 ·intro D H2 hD sm hd
  refine q D _ H2 sm hD hd (by simp) (fun l hl=>?_) (nodup_range fun i j hi hj ee=>?_)
  ·obtain ⟨k,hk,rfl⟩:=List.mem_map.mp hl
   refine YaV (by rw [mkl];omega) (by rw [mkl];omega) fun x hx=>?_
   rcases List.mem_append.mp hx with hx | hx
   ·rcases List.mem_append.mp hx with hx | hx
    ·exact hbs x (List.mem_of_mem_take hx)
    ·have:x=97+(k0+k)%26:=by simpa using hx
     rw [this]
     exact QI (Nat.mod_lt _ (by decide))
   ·exact hbs x (List.mem_of_mem_drop hx)
  ·have h1:=List.append_cancel_right ee
   have h2:=List.append_cancel_left h1
   have h3:97+(k0+i)%26=97+(k0+j)%26:=by simpa using h2
   omega
structure BSh (ls:List (List Nat)) (s:Sh):Prop where
 gd:Gd s
 bd:bd s≤6
 ap:X0 s
 rg:Range s
 nm:∀ x∈nmu s,x∈ls
 nu:Xa s=none
 len:(tt s).length≤200
theorem YaX:∀ (l acc:List (List Nat)) {x:List Nat},x∈l.foldl Y8 acc→x∈acc∨x∈l
 | [],acc,x,h => .inl h
 | a::l,acc,x,h=>by
  rw [List.foldl_cons] at h
  rcases YaX l _ h with h | h
  ·unfold Y8 at h
   split at h
   ·exact .inl h
   ·rcases List.mem_append.mp h with h | h
    ·exact .inl h
    ·exact .inr (by simp at h;rw [h];exact .head _)
  ·exact .inr (.tail _ h)
theorem Wx {s:Sh} {x:List Nat} (h:x∈nmu s):x∈(wi s).filterMap Xa:=(YaX _ _ h).resolve_left (by simp)
def QJ (K:PySem.W.Frag):Sp:=fun vs H Q _=>∃ (N:Addr) (ls:List (List Nat)) (o t:Int) (k:Nat),vs=[.ref N,.int o,.int t,.int k]∧H N=some (.lst (vst ls))∧1≤ls.length∧ls.length≤8∧(∀ l∈ls,Rd.labOk l=true)∧k<7∧∀ s v H',Same H H'→SA H' s v→BSh ls s→Q v H'
theorem YdB {ls:List (List Nat)} {i j:Int} (h1:i.natAbs<10^60) (h2:j.natAbs<10^60) (h:i≤j):BSh ls (.whole i j):=by
 have hg:Gd (.whole i j):=⟨h1,h2⟩
 refine ⟨hg,by simp [bd],W5 rfl trivial,W6 rfl h,fun x hx=>?_,rfl,?_⟩
 ·have:=Wx hx
  simp [wi,Xa] at this
 ·have l1:=XQ hg (by simp)
  have l2:=Vo h1
  have l3:=Vo h2
  have l4:=(Xv .whole).2
  simp only [kd,shn,List.map_cons,List.map_nil,List.sum_cons,List.sum_nil,List.length_cons,List.length_nil] at l1
  omega
theorem UH {ls:List (List Nat)} {w:List Nat} (h1:1≤w.length) (h2:w.length≤62) (h3:w.all Rd.isLF=true) (h4:w.Nodup):BSh ls (.text w):=by
 have hg:Gd (.text w):=⟨h1,h2,h3⟩
 refine ⟨hg,by simp [bd],W5 rfl h4,W6 rfl trivial,fun x hx=>?_,rfl,?_⟩
 ·have:=Wx hx
  simp [wi,Xa] at this
 ·have l1:=XQ hg (by simp)
  have l4:=(Xv .text).2
  simp only [kd,shn,List.map_cons,List.map_nil,List.sum_cons,List.sum_nil,List.length_cons,List.length_nil] at l1
  omega
theorem Vp (w:List Nat):X0 (.use w):=W5 rfl trivial
theorem Vq (w:List Nat):Range (.use w):=W6 rfl trivial
theorem Wj {w:List Nat} (h:Rd.labOk w=true):(tt (.use w)).length≤8:=by rw [Ue];exact (XO h).1
theorem Qp {ls:List (List Nat)} {m:Mk} {w:List Nat} (hm:is1 m) (hw:w∈ls) (hl:Rd.labOk w=true):BSh ls (.one m (.use w)):=by
 have hg:Gd (.one m (.use w)):=⟨hm,hl⟩
 refine ⟨hg,by simp [bd],XH trivial fun z hz=>?_,XI trivial fun z hz=>?_,fun x hx=>?_,rfl,?_⟩
 ·simp [pts] at hz;rw [hz];exact Vp _
 ·simp [pts] at hz;rw [hz];exact Vq _
 ·have:=Wx hx
  simp [wi,Xa] at this
  rw [← this];exact hw
 ·have l1:=XQ hg (by simp)
  have l4:=(Xv m).2
  have l5:=Wj hl
  simp only [kd,shn,List.map_cons,List.map_nil,List.sum_cons,List.sum_nil,List.length_cons,List.length_nil] at l1
  omega
theorem YdC {ls:List (List Nat)} {t:Nat} {w:List Nat} (h1:1≤t) (h6:t≤6) (hw:w∈ls) (hl:Rd.labOk w=true):BSh ls (.alike (.use w) t):=by
 have hg:Gd (.alike (.use w) t):=⟨h1,h6,hl⟩
 refine ⟨hg,by simp [bd],XH trivial fun z hz=>?_,XI trivial fun z hz=>?_,fun x hx=>?_,rfl,?_⟩
 ·simp [pts] at hz;rw [hz];exact Vp _
 ·simp [pts] at hz;rw [hz];exact Vq _
 ·have:=Wx hx
  simp [wi,Xa] at this
  rw [← this];exact hw
 ·have l1:=XQ hg (by simp)
  have l4:=(Xv .alike).2
  have l5:=Wj hl
  have l6:=Vo (i:=(t:Int)) (by rw [Int.natAbs_natCast];exact Nat.lt_of_le_of_lt h6 (by decide))
  simp only [kd,shn,List.map_cons,List.map_nil,List.sum_cons,List.sum_nil,List.length_cons,List.length_nil] at l1
  omega
def WX (a b:List Nat):Sh := .row (.cons [] (.use a) (.cons [] (.use b) .nil))
def WK (a b q:List Nat):Sh := .pick (.cons a (.use b) (.cons q (WX a b) .nil))
def VO (a b:List Nat):Sh := .row (.cons [] (.use a) (.cons [] (.one .many (.use b)) (.cons [] (.use a) .nil)))
def ris (b:List Nat):Sh := .one .rising (.row (.cons [] (.one .unlike (.use b)) (.cons [] (.row .nil) .nil)))
theorem YbU {a b:List Nat} (ha:Rd.labOk a=true) (hb:Rd.labOk b=true):Gd (WX a b):=⟨by simp [Kids.list],rfl,ha,rfl,hb,trivial⟩
theorem Yee {a b:List Nat} (ha:Rd.labOk a=true) (hb:Rd.labOk b=true):(tt (WX a b)).length≤30:=by
 have l1:=XQ (YbU ha hb) (by simp [WX])
 have l4:=(Xv .row).2
 have l5:=Wj ha
 have l6:=Wj hb
 simp only [WX,kd,shn,Kids.list,List.map_cons,List.map_nil,List.sum_cons,List.sum_nil,List.length_cons,List.length_nil] at l1 ⊢
 omega
theorem Yef {ls:List (List Nat)} {a b q:List Nat} (ha:a∈ls) (hb:b∈ls) (ha':Rd.labOk a=true) (hb':Rd.labOk b=true) (hq:Rd.labOk q=true) (hn:a≠q):BSh ls (WK a b q):=by
 have hg:Gd (WK a b q):=⟨by simp [Kids.list],by simp [Kids.list],ha',hb',hq,YbU ha' hb',trivial⟩
 have r2:X0 (WX a b):=XH trivial fun z hz=>by
  simp [WX,pts,Kids.list] at hz
  rcases hz with rfl | rfl<;>exact Vp _
 have r3:Range (WX a b):=XI trivial fun z hz=>by
  simp [WX,pts,Kids.list] at hz
  rcases hz with rfl | rfl<;>exact Vq _
 refine ⟨hg,by simp [WK,WX,bd,bds],XH (by show (mks _).Nodup;simp [mks,Kids.list,hn]) fun z hz=>?_,XI trivial fun z hz=>?_,fun x hx=>?_,rfl,?_⟩
 ·simp [WK,pts,Kids.list] at hz
  rcases hz with rfl | rfl
  ·exact Vp _
  ·exact r2
 ·simp [WK,pts,Kids.list] at hz
  rcases hz with rfl | rfl
  ·exact Vq _
  ·exact r3
 ·have:=Wx hx
  simp [WK,WX,wi,wis,Xa] at this
  rcases this with rfl | rfl | rfl<;>assumption
 ·have l1:=XQ hg (by simp [WK])
  have l4:=(Xv .pick).2
  have l5:=Yee ha' hb'
  have l6:=Wj hb'
  have l7:=(XO ha').1
  have l8:=(XO hq).1
  simp only [WK,kd,shn,Kids.list,List.map_cons,List.map_nil,List.sum_cons,List.sum_nil,List.length_cons,List.length_nil,List.length_append] at l1 ⊢
  omega
theorem Yeg {ls:List (List Nat)} {a b:List Nat} (ha:a∈ls) (hb:b∈ls) (ha':Rd.labOk a=true) (hb':Rd.labOk b=true):BSh ls (VO a b):=by
 have hm:=Qp (ls:=ls) (m := .many) (.inl rfl) hb hb'
 have hg:Gd (VO a b):=⟨by simp [Kids.list],rfl,ha',rfl,hm.gd,rfl,ha',trivial⟩
 refine ⟨hg,by simp [VO,bd,bds],XH trivial fun z hz=>?_,XI trivial fun z hz=>?_,fun x hx=>?_,rfl,?_⟩
 ·simp [VO,pts,Kids.list] at hz
  rcases hz with rfl | rfl | rfl
  ·exact Vp _
  ·exact hm.ap
  ·exact Vp _
 ·simp [VO,pts,Kids.list] at hz
  rcases hz with rfl | rfl | rfl
  ·exact Vq _
  ·exact hm.rg
  ·exact Vq _
 ·have:=Wx hx
  simp [VO,wi,wis,Xa] at this
  rcases this with rfl | rfl | rfl<;>assumption
 ·have l1:=XQ hg (by simp [VO])
  have l4:=(Xv .row).2
  have l5:=XQ hm.gd (by simp)
  have l6:=Wj hb'
  have l7:=Wj ha'
  have l8:=(Xv .many).2
  simp only [VO,kd,shn,Kids.list,List.map_cons,List.map_nil,List.sum_cons,List.sum_nil,List.length_cons,List.length_nil,List.length_append] at l1 l5 ⊢
  omega
theorem Yft {ls:List (List Nat)} {b:List Nat} (hb:b∈ls) (hb':Rd.labOk b=true):BSh ls (ris b):=by
 have hm:=Qp (ls:=ls) (m := .unlike) (.inr (.inr rfl)) hb hb'
 have h0:Gd (.row .nil):=⟨by simp [Kids.list],trivial⟩
 have hr:Gd (.row (.cons [] (.one .unlike (.use b)) (.cons [] (.row .nil) .nil))):=⟨by simp [Kids.list],rfl,hm.gd,rfl,h0,trivial⟩
 have hg:Gd (ris b):=⟨.inr (.inl rfl),hr⟩
 have a0:X0 (.row .nil):=W5 rfl trivial
 have r0:Range (.row .nil):=W6 rfl trivial
 refine ⟨hg,by simp [ris,bd,bds],XH trivial fun z hz=>?_,XI trivial fun z hz=>?_,fun x hx=>?_,rfl,?_⟩
 ·simp only [ris,pts,List.mem_singleton] at hz
  subst hz
  refine XH trivial fun z hz=>?_
  simp [pts,Kids.list] at hz
  rcases hz with rfl | rfl
  ·exact hm.ap
  ·exact a0
 ·simp only [ris,pts,List.mem_singleton] at hz
  subst hz
  refine XI trivial fun z hz=>?_
  simp [pts,Kids.list] at hz
  rcases hz with rfl | rfl
  ·exact hm.rg
  ·exact r0
 ·have:=Wx hx
  simp [ris,wi,wis,Xa] at this
  rw [← this];exact hb
 ·have l1:=XQ hg (by simp [ris])
  have l2:=XQ hr (by simp)
  have l3:=XQ h0 (by simp)
  have l5:=XQ hm.gd (by simp)
  have l4:=(Xv .rising).2
  have l6:=Wj hb'
  have l7:=(Xv .row).2
  have l8:=(Xv .unlike).2
  simp only [ris,kd,shn,Kids.list,List.map_cons,List.map_nil,List.sum_cons,List.sum_nil,List.length_cons,List.length_nil,List.length_append] at l1 l2 l3 l5 ⊢
  omega
theorem YaY {Z1 Z2 Z3 Z6 Z4 Z5 Z0:Addr} (R:g.Raw "_law_shape" "_law_shape" Z2B ["_law_names_here","_law_one","_law_other","_law_kind"]) (b_int:g.mg "int"=none) (b_len:g.mg "len"=none):g.Fn (1) "_law_shape" ["_law_names_here","_law_one","_law_other","_law_kind"] (QJ g.K):=by
 refine R.fn Z1c (fun vs H Q E h=>by obtain ⟨N,ls,o,t,k,rfl,hN,h1,h8,hlo,hk,q⟩:=h;rfl) fun f_ cdv A outer s H vs Q E hr h=>?_
 obtain ⟨N,ls,o,t,k,rfl,hN,h1,h8,hlo,hk,q⟩:=h
 refine ⟨_,(@Yc _ _ _ _ _ (@Yv _ _ (4) _ _ _ _ Z1c.nd rfl (.inl rfl) (@Ym _ _ _ _ _ _ _ XD (pv 0) (@Yl _ _ _ _ _ _ _ _ YR (pv 1) (@YL _ _ _ _ _ _ _ _ _ _ b_len YW (@Ya _ _ _ _ _ (pv 0) Yb (by rfl)) (by decide +kernel) (by rfl) (by rfl) (by decide) (by decide) (by rfl) (by rfl))) (fun _ _=>rfl)) (by rfl) (by first | exact .inl rfl | exact .inr rfl | assumption)) (@Yc _ _ _ _ _ (@Yv _ _ (5) _ _ _ _ Z1c.nd rfl (.inl rfl) (@Ym _ _ _ _ _ _ _ XD (pv 0) (@Yl _ _ _ _ _ _ _ _ YR (pv 2) (@YL _ _ _ _ _ _ _ _ _ _ b_len YW (@Ya _ _ _ _ _ (pv 0) Yb (by rfl)) (by decide +kernel) (by rfl) (by rfl) (by decide) (by decide) (by rfl) (by rfl))) (fun _ _=>rfl)) (by rfl) (by first | exact .inl rfl | exact .inr rfl | assumption)) (@Yc _ _ _ _ _ (@Yp _ _ _ _ _ _ _ _ (@Yk _ _ _ _ _ _ _ _ YF (@Yl _ _ _ _ _ _ _ _ YR (pv 3) Yf) Yf (Yo _)) (@Yd _ _ _ (@Yj _ _ _ _ (@Yx _ _ _ _ _ (@Ya _ _ _ _ _ Yg (@Ya _ _ _ _ _ (@Yl _ _ _ _ _ _ _ _ YcG (@Yl _ _ _ _ _ _ _ _ YR (pv 1) (@Yl _ _ _ _ _ _ _ _ WC Yf Yf)) (@Yl _ _ _ _ _ _ _ _ WC Yf Yf)) (@Ya _ _ _ _ _ (@Yl _ _ _ _ _ _ _ _ X3 (@Yl _ _ _ _ _ _ _ _ YR (pv 1) (@Yl _ _ _ _ _ _ _ _ WC Yf Yf)) (@Yl _ _ _ _ _ _ _ _ YR (pv 2) (@Yl _ _ _ _ _ _ _ _ WC Yf Yf))) Yb (by rfl)) (by rfl)) (by rfl))))) Yi) (@Yc _ _ _ _ _ (@Yp _ _ _ _ _ _ _ _ (@Yk _ _ _ _ _ _ _ _ YF (@Yl _ _ _ _ _ _ _ _ YR (pv 3) Yf) Yf (Yo _)) (@Yd _ _ _ (@Yj _ _ _ _ (@Yx _ _ _ _ _ (@Ya _ _ _ _ _ Yg (@Ya _ _ _ _ _ (@Yl _ _ _ _ _ _ _ _ Yu Yg (@Ym _ _ _ _ _ _ _ XD (@Xk _ _ _ _ (@Ya _ _ _ _ _ Yg (@Ya _ _ _ _ _ Yg (@Ya _ _ _ _ _ Yg Yb (by rfl)) (by rfl)) (by rfl))) (@Yl _ _ _ _ _ _ _ _ YR (pv 1) Yf) (fun _ _=>rfl))) Yb (by rfl)) (by rfl))))) Yi) (@Yc _ _ _ _ _ (@Yp _ _ _ _ _ _ _ _ (@Yk _ _ _ _ _ _ _ _ YF (@Yl _ _ _ _ _ _ _ _ YR (pv 3) Yf) Yf (Yo _)) (@Yc _ _ _ _ _ (@Yv _ _ (6) _ _ _ _ Z1c.nd rfl (.inl rfl) (@Ym _ _ _ _ _ _ _ XD (@Xk _ _ _ _ (@Ya _ _ _ _ _ Yg (@Ya _ _ _ _ _ Yg Yb (by rfl)) (by rfl))) (@Xy _ _ _ _ _ _ _ _ _ _ b_int YcI (@Ya _ _ _ _ _ (@XV _ _ _ _ _ _ _ _ YF (pv 4) Yg (Yo _)) Yb (by rfl)) (by decide +kernel) (by rfl) (by rfl) (by decide) (by decide) (by rfl) (by rfl)) (fun _ _=>rfl)) (by rfl) (by first | exact .inl rfl | exact .inr rfl | assumption)) (@Yd _ _ _ (@Yj _ _ _ _ (@Yx _ _ _ _ _ (@Ya _ _ _ _ _ Yg (@Ya _ _ _ _ _ (@Yx _ _ _ _ _ (@Ya _ _ _ _ _ (@Yx _ _ _ _ _ (@Ya _ _ _ _ _ (pv 4) (@Ya _ _ _ _ _ (@Yx _ _ _ _ _ (@Ya _ _ _ _ _ Yg (@Ya _ _ _ _ _ (pv 5) Yb (by rfl)) (by rfl))) Yb (YK _ _ _ _ _)) (by rfl))) (@Ya _ _ _ _ _ (@Yx _ _ _ _ _ (@Ya _ _ _ _ _ (pv 6) (@Ya _ _ _ _ _ (@Yx _ _ _ _ _ (@Ya _ _ _ _ _ Yg (@Ya _ _ _ _ _ (@Yx _ _ _ _ _ (@Ya _ _ _ _ _ (@Yx _ _ _ _ _ (@Ya _ _ _ _ _ Yg (@Ya _ _ _ _ _ (pv 4) Yb (by rfl)) (by rfl))) (@Ya _ _ _ _ _ (@Yx _ _ _ _ _ (@Ya _ _ _ _ _ Yg (@Ya _ _ _ _ _ (pv 5) Yb (by rfl)) (by rfl))) Yb (YK _ _ _ _ _)) (YK _ _ _ _ _))) Yb (YK _ _ _ _ _)) (by rfl))) Yb (YK _ _ _ _ _)) (by rfl))) Yb (YK _ _ _ _ _)) (YK _ _ _ _ _))) Yb (YK _ _ _ _ _)) (by rfl)))))) Yi) (@Yc _ _ _ _ _ (@Yp _ _ _ _ _ _ _ _ (@Yk _ _ _ _ _ _ _ _ YF (@Yl _ _ _ _ _ _ _ _ YR (pv 3) Yf) Yf (Yo _)) (@Yd _ _ _ (@Yj _ _ _ _ (@Yx _ _ _ _ _ (@Ya _ _ _ _ _ Yg (@Ya _ _ _ _ _ (@Yx _ _ _ _ _ (@Ya _ _ _ _ _ (@Yx _ _ _ _ _ (@Ya _ _ _ _ _ Yg (@Ya _ _ _ _ _ (pv 4) Yb (by rfl)) (by rfl))) (@Ya _ _ _ _ _ (@Yx _ _ _ _ _ (@Ya _ _ _ _ _ Yg (@Ya _ _ _ _ _ (@Yx _ _ _ _ _ (@Ya _ _ _ _ _ Yg (@Ya _ _ _ _ _ (pv 5) Yb (by rfl)) (by rfl))) Yb (YK _ _ _ _ _)) (by rfl))) (@Ya _ _ _ _ _ (@Yx _ _ _ _ _ (@Ya _ _ _ _ _ Yg (@Ya _ _ _ _ _ (pv 4) Yb (by rfl)) (by rfl))) Yb (YK _ _ _ _ _)) (YK _ _ _ _ _)) (YK _ _ _ _ _))) Yb (YK _ _ _ _ _)) (by rfl))))) Yi) (@Yc _ _ _ _ _ (@Yp _ _ _ _ _ _ _ _ (@Yk _ _ _ _ _ _ _ _ YF (@Yl _ _ _ _ _ _ _ _ YR (pv 3) Yf) Yf (Yo _)) (@Yd _ _ _ (@Yj _ _ _ _ (@Yx _ _ _ _ _ (@Ya _ _ _ _ _ Yg (@Ya _ _ _ _ _ (@Yx _ _ _ _ _ (@Ya _ _ _ _ _ Yg (@Ya _ _ _ _ _ (pv 4) Yb (by rfl)) (by rfl))) Yb (YK _ _ _ _ _)) (by rfl))))) Yi) (@Yc _ _ _ _ _ (@Yp _ _ _ _ _ _ _ _ (@Yk _ _ _ _ _ _ _ _ YF (@Yl _ _ _ _ _ _ _ _ YR (pv 3) Yf) Yf (Yo _)) (@Yd _ _ _ (@Yj _ _ _ _ (@Yx _ _ _ _ _ (@Ya _ _ _ _ _ Yg (@Ya _ _ _ _ _ (@Yx _ _ _ _ _ (@Ya _ _ _ _ _ Yg (@Ya _ _ _ _ _ (pv 4) Yb (by rfl)) (by rfl))) (@Ya _ _ _ _ _ (@Yl _ _ _ _ _ _ _ _ X3 Yf (@Yl _ _ _ _ _ _ _ _ YR (pv 2) Yf)) Yb (by rfl)) (YK _ _ _ _ _)) (by rfl))))) Yi) (@Yd _ _ _ (@Yj _ _ _ _ (@Yx _ _ _ _ _ (@Ya _ _ _ _ _ Yg (@Ya _ _ _ _ _ (@Yx _ _ _ _ _ (@Ya _ _ _ _ _ Yg (@Ya _ _ _ _ _ (@Yx _ _ _ _ _ (@Ya _ _ _ _ _ (@Yx _ _ _ _ _ (@Ya _ _ _ _ _ Yg (@Ya _ _ _ _ _ (@Yx _ _ _ _ _ (@Ya _ _ _ _ _ Yg (@Ya _ _ _ _ _ (pv 5) Yb (by rfl)) (by rfl))) Yb (YK _ _ _ _ _)) (by rfl))) (@Ya _ _ _ _ _ (@Yx _ _ _ _ _ (@Ya _ _ _ _ _ Yg (@Ya _ _ _ _ _ (@Yx _ _ _ _ _ Yb) Yb (YK _ _ _ _ _)) (by rfl))) Yb (YK _ _ _ _ _)) (YK _ _ _ _ _))) Yb (YK _ _ _ _ _)) (by rfl))) Yb (YK _ _ _ _ _)) (by rfl))))))))))))),?_⟩
 have hvl:(vst ls).length=ls.length:=by rw [vst,List.length_map]
 obtain ⟨oi,ho,ho2⟩:=XZ o (j:=(ls.length:Int)) (by omega)
 obtain ⟨ti,ht,ht2⟩:=XZ t (j:=(ls.length:Int)) (by omega)
 have hoi:oi<ls.length:=by omega
 have hti:ti<ls.length:=by omega
 have hA:(vst ls)[oi]?=some (.str (S ls[oi])):=by rw [vst,List.getElem?_map,List.getElem?_eq_getElem hoi];rfl
 have hC:(vst ls)[ti]?=some (.str (S ls[ti])):=by rw [vst,List.getElem?_map,List.getElem?_eq_getElem hti];rfl
 have hAm:ls[oi]∈ls:=List.getElem_mem hoi
 have hCm:ls[ti]∈ls:=List.getElem_mem hti
 have hAl:=hlo _ hAm
 have hCl:=hlo _ hCm
 generalize ls[oi]=A at hA hAm hAl
 generalize ls[ti]=C at hC hCm hCl
 refine UA (fun σ H'=>H'=H∧σ=[some (.ref N),some (.int o),some (.int t),some (.int k),some (.str (S A)),some (.str (S C)),none]) ?_ ?_
 rotate_left
 ·intro Nn hNn
  walk_at "rd"
  refine ⟨_,.inl (SqL.of hN),by omega,?_⟩
  rw [hvl,ho]
  refine ⟨_,SqL.of hN,_,YC hA,_,.inl (SqL.of hN),by omega,?_⟩
  rw [hvl,ht]
  exact ⟨_,SqL.of hN,_,YC hC,hNn _ _ ⟨rfl,rfl⟩⟩
 rintro σ H1 ⟨e1,rfl⟩
 subst e1
 refine Y9 (fun σ H'=>H'=H1∧σ=[some (.ref N),some (.int o),some (.int t),some (.int k),some (.str (S A)),some (.str (S C)),none]∧k≠0) ?_ ?_
 rotate_left
 ·intro Nn hNn
  walk_at "rd"
  refine ⟨by decide,YG (fun z=>?_) fun z=>hNn _ _ ⟨rfl,rfl,by omega⟩⟩
  have e59:(10:Int)^Int.toNat 59=((10^59:Nat):Int):=by decide +kernel
  have e58:(10:Int)^Int.toNat 58=((10^58:Nat):Int):=by decide +kernel
  rw [e59,e58]
  have hM:10^59=10*10^58:=by decide +kernel
  have hM6:10^60=100*10^58:=by decide +kernel
  have hM0:0<10^58:=by decide +kernel
  have fin:∀ x y:Int,0≤x→x<((10^59:Nat):Int)→0≤y→y<((10^59:Nat):Int)→BSh ls (.whole (x - ((10^58:Nat):Int)) (x+y)):=fun x y h1 h2 h3 h4=>by
   refine YdB ?_ ?_ ?_
   ·rw [hM6];rw [hM] at h2 h4;generalize 10^58=M at * ;omega
   ·rw [hM6];rw [hM] at h2 h4;generalize 10^58=M at * ;omega
   ·generalize 10^58=M at * ;omega
  have p9:(0:Int)<((10^59:Nat):Int):=by decide +kernel
  have g:=fin _ _ (Int.emod_nonneg o (Int.ne_of_gt p9)) (Int.emod_lt_of_pos o p9) (Int.emod_nonneg t (Int.ne_of_gt p9)) (Int.emod_lt_of_pos t p9)
  exact ⟨V8,p9,V8,V8,p9,V8,p9,few (by decide),fun p hp=>q (.whole _ _) _ _ (.upd_new hp _) ⟨p,rfl,Ye⟩ g⟩
 rintro σ H2 ⟨e2,rfl,n0⟩
 subst e2
 refine Y9 (fun σ H'=>H'=H2∧σ=[some (.ref N),some (.int o),some (.int t),some (.int k),some (.str (S A)),some (.str (S C)),none]∧k≠1) ?_ ?_
 rotate_left
 ·intro Nn hNn
  walk_at "rd"
  refine ⟨by decide,YG (fun z=>?_) fun z=>hNn _ _ ⟨rfl,rfl,by omega⟩⟩
  obtain ⟨r,hr3,hr4⟩:=XZ o (j:=3) (by decide)
  have ha:Str.ofString "aZ09"=S [97,90,48,57]:=by decide +kernel
  have hb:∃ w:List Nat,[V.str (Str.ofString ""),V.str (Str.ofString "b"),V.str (Str.ofString "yx")][r]?=some (.str (S w))∧w.length≤2∧BSh ls (.text ([97,90,48,57]++w)):=by
   have e0:Str.ofString ""=S []:=by decide +kernel
   have e1:Str.ofString "b"=S [98]:=by decide +kernel
   have e2:Str.ofString "yx"=S [121,120]:=by decide +kernel
   rw [e0,e1,e2]
   rcases (by omega:r=0∨r=1∨r=2) with rfl | rfl | rfl
   ·exact ⟨[],rfl,by decide,UH (by decide) (by decide) (by decide) (by decide)⟩
   ·exact ⟨[98],rfl,by decide,UH (by decide) (by decide) (by decide) (by decide)⟩
   ·exact ⟨[121,120],rfl,by decide,UH (by decide) (by decide) (by decide) (by decide)⟩
  obtain ⟨w,hw,hwl,hbs⟩:=hb
  rw [hr3]
  refine ⟨few (by decide),fun p0 hp0=>⟨by decide,_,SqL.of Ye,_,YC hw,_,rfl,few (by rw [ha,Yw,Yw];simp only [List.length_cons,List.length_nil];omega),few (by decide),fun p hp=>?_⟩⟩
  rw [ha,Yy]
  exact q (.text _) _ _ ((Same.upd_new hp0 _).trans (.upd_new hp _)) ⟨p,rfl,Ye⟩ hbs
 rintro σ H3 ⟨e2,rfl,n1⟩
 subst e2
 refine Y9 (fun σ H'=>H'=H3∧σ=[some (.ref N),some (.int o),some (.int t),some (.int k),some (.str (S A)),some (.str (S C)),none]∧k≠2) ?_ ?_
 rotate_left
 ·intro Nn hNn
  walk_at "rd"
  refine ⟨by decide,YG (fun z=>?_) fun z=>hNn _ _ ⟨rfl,rfl,by omega⟩⟩
  have hq:Str.ofString "q"=S [113]:=by decide +kernel
  have hr':Str.ofString "r"=S [114]:=by decide +kernel
  obtain ⟨mk,hat,hmk,hne⟩:∃ mk,atI [V.str (Str.ofString "q"),V.str (Str.ofString "r")] (if S A=Str.ofString "q" then 1 else 0)=some (.str (S mk))∧Rd.labOk mk=true∧A≠mk:=by
   by_cases c:A=[113]
   ·exact ⟨[114],by rw [hq,hr',if_pos (by rw [c])];exact YC (j:=1) rfl,by decide,by rw [c];decide⟩
   ·exact ⟨[113],by rw [hq,if_neg (fun z=>c (Xi z))];exact YC (j:=0) rfl,by decide,c⟩
  refine ⟨few (by decide),fun p0 hp0 => .inr ⟨_,SqL.of Ye,_,hat,few (by decide),fun p1 hp1=>⟨few (by decide),fun p2 hp2=>⟨few (by decide),fun p3 hp3=>⟨few (by decide),fun p4 hp4=>⟨few (by decide),fun p5 hp5=>⟨few (by decide),fun p6 hp6=>⟨few (by decide),fun p7 hp7=>⟨few (by decide),fun p8 hp8=>⟨few (by decide),fun p9 hp9=>?_⟩⟩⟩⟩⟩⟩⟩⟩⟩⟩
  have u0:=Same.upd_new hp0 (.lst [V.str (Str.ofString "q"),V.str (Str.ofString "r")])
  have u1:=Same.upd_new hp1 (.tup [V.str (Str.ofString "use"),V.str (S C)])
  have u2:=Same.upd_new hp2 (.tup [V.str (S A),V.ref p1])
  have u3:=Same.upd_new hp3 (.tup [V.str (Str.ofString "use"),V.str (S A)])
  have u4:=Same.upd_new hp4 (.tup [V.str (Str.ofString "use"),V.str (S C)])
  have u5:=Same.upd_new hp5 (.tup [V.ref p3,V.ref p4])
  have u6:=Same.upd_new hp6 (.tup [V.str (Str.ofString "row"),V.ref p5])
  have u7:=Same.upd_new hp7 (.tup [V.str (S mk),V.ref p6])
  have u8:=Same.upd_new hp8 (.tup [V.ref p2,V.ref p7])
  have u9:=Same.upd_new hp9 (.tup [V.str (Str.ofString "pick"),V.ref p8])
  have s7:=u8.trans u9
  have s6:=u7.trans s7
  have s5:=u6.trans s6
  have s4:=u5.trans s5
  have s3:=u4.trans s4
  have s2:=u3.trans s3
  have s1:=u2.trans s2
  exact q (WK A C mk) _ _ (u0.trans (u1.trans s1)) ⟨p9,p8,_,rfl,Ye,u9 _ _ Ye,p2,_,_,rfl,s2 _ _ Ye,⟨p1,rfl,s1 _ _ Ye⟩,p7,_,_,rfl,s7 _ _ Ye,⟨p6,p5,_,rfl,s6 _ _ Ye,s5 _ _ Ye,_,_,rfl,⟨p3,rfl,s3 _ _ Ye⟩,_,_,rfl,⟨p4,rfl,s4 _ _ Ye⟩,rfl⟩,rfl⟩ (Yef hAm hCm hAl hCl hmk hne)
 rintro σ H4 ⟨e2,rfl,n2⟩
 subst e2
 refine Y9 (fun σ H'=>H'=H4∧σ=[some (.ref N),some (.int o),some (.int t),some (.int k),some (.str (S A)),some (.str (S C)),none]∧k≠3) ?_ ?_
 rotate_left
 ·intro Nn hNn
  walk_at "rd"
  refine ⟨by decide,YG (fun z=>?_) fun z=>hNn _ _ ⟨rfl,rfl,by omega⟩⟩
  refine ⟨few (by decide),fun p1 hp1=>⟨few (by decide),fun p2 hp2=>⟨few (by decide),fun p3 hp3=>⟨few (by decide),fun p4 hp4=>⟨few (by decide),fun p5 hp5=>⟨few (by decide),fun p6 hp6=>?_⟩⟩⟩⟩⟩⟩
  have u1:=Same.upd_new hp1 (.tup [V.str (Str.ofString "use"),V.str (S A)])
  have u2:=Same.upd_new hp2 (.tup [V.str (Str.ofString "use"),V.str (S C)])
  have u3:=Same.upd_new hp3 (.tup [V.str (Str.ofString "many"),V.ref p2])
  have u4:=Same.upd_new hp4 (.tup [V.str (Str.ofString "use"),V.str (S A)])
  have u5:=Same.upd_new hp5 (.tup [V.ref p1,V.ref p3,V.ref p4])
  have u6:=Same.upd_new hp6 (.tup [V.str (Str.ofString "row"),V.ref p5])
  have s1:=(((u2.trans u3).trans u4).trans u5).trans u6
  have s2:=((u3.trans u4).trans u5).trans u6
  have s3:=(u4.trans u5).trans u6
  have s4:=u5.trans u6
  exact q (VO A C) _ _ (u1.trans s1) ⟨p6,p5,_,rfl,Ye,u6 _ _ Ye,_,_,rfl,⟨p1,rfl,s1 _ _ Ye⟩,_,_,rfl,⟨p3,_,rfl,s3 _ _ Ye,p2,rfl,s2 _ _ Ye⟩,_,_,rfl,⟨p4,rfl,s4 _ _ Ye⟩,rfl⟩ (Yeg hAm hCm hAl hCl)
 rintro σ H5 ⟨e2,rfl,n3⟩
 subst e2
 refine Y9 (fun σ H'=>H'=H5∧σ=[some (.ref N),some (.int o),some (.int t),some (.int k),some (.str (S A)),some (.str (S C)),none]∧k≠4) ?_ ?_
 rotate_left
 ·intro Nn hNn
  walk_at "rd"
  refine ⟨by decide,YG (fun z=>?_) fun z=>hNn _ _ ⟨rfl,rfl,by omega⟩⟩
  exact ⟨few (by decide),fun p1 hp1=>⟨few (by decide),fun p2 hp2=>q (.one .many (.use A)) _ _ ((Same.upd_new hp1 _).trans (.upd_new hp2 _)) ⟨p2,_,rfl,Ye,p1,rfl,(Same.upd_new hp2 _) _ _ Ye⟩ (Qp (.inl rfl) hAm hAl)⟩⟩
 rintro σ H6 ⟨e2,rfl,n4⟩
 subst e2
 refine Y9 (fun σ H'=>H'=H6∧σ=[some (.ref N),some (.int o),some (.int t),some (.int k),some (.str (S A)),some (.str (S C)),none]∧k≠5) ?_ ?_
 rotate_left
 ·intro Nn hNn
  walk_at "rd"
  refine ⟨by decide,YG (fun z=>?_) fun z=>hNn _ _ ⟨rfl,rfl,by omega⟩⟩
  have em:(1+t%6)=((1+(t%6).toNat:Nat):Int):=by omega
  rw [em]
  exact ⟨few (by decide),fun p1 hp1=>⟨by decide,few (by decide),fun p2 hp2=>q (.alike (.use A) (1+(t%6).toNat)) _ _ ((Same.upd_new hp1 _).trans (.upd_new hp2 _)) ⟨p2,_,rfl,Ye,p1,rfl,(Same.upd_new hp2 _) _ _ Ye⟩ (YdC (by omega) (by omega) hAm hAl)⟩⟩
 rintro σ H7 ⟨e2,rfl,n5⟩
 subst e2
 walk_at "rd"
 refine ⟨few (by decide),fun p1 hp1=>⟨few (by decide),fun p2 hp2=>⟨few (by decide),fun p3 hp3=>⟨few (by decide),fun p4 hp4=>⟨few (by decide),fun p5 hp5=>⟨few (by decide),fun p6 hp6=>⟨few (by decide),fun p7 hp7=>?_⟩⟩⟩⟩⟩⟩⟩
 have u1:=Same.upd_new hp1 (.tup [V.str (Str.ofString "use"),V.str (S C)])
 have u2:=Same.upd_new hp2 (.tup [V.str (Str.ofString "unlike"),V.ref p1])
 have u3:=Same.upd_new hp3 (.tup [])
 have u4:=Same.upd_new hp4 (.tup [V.str (Str.ofString "row"),V.ref p3])
 have u5:=Same.upd_new hp5 (.tup [V.ref p2,V.ref p4])
 have u6:=Same.upd_new hp6 (.tup [V.str (Str.ofString "row"),V.ref p5])
 have u7:=Same.upd_new hp7 (.tup [V.str (Str.ofString "rising"),V.ref p6])
 have s1:=((((u2.trans u3).trans u4).trans u5).trans u6).trans u7
 have s2:=(((u3.trans u4).trans u5).trans u6).trans u7
 have s3:=((u4.trans u5).trans u6).trans u7
 have s4:=(u5.trans u6).trans u7
 have s5:=u6.trans u7
 exact q (ris C) _ _ (u1.trans s1) ⟨p7,_,rfl,Ye,p6,p5,_,rfl,u7 _ _ Ye,s5 _ _ Ye,_,_,rfl,⟨p2,_,rfl,s2 _ _ Ye,p1,rfl,s1 _ _ Ye⟩,_,_,rfl,⟨p4,p3,_,rfl,s4 _ _ Ye,s3 _ _ Ye,rfl⟩,rfl⟩ (Yft hCm hCl)
def Z1I (K:PySem.W.Frag) (m:Nat):Sp:=fun vs H Q _=>∃ (s:Sh) (v:V),vs=[v]∧SA H s v∧Gd s∧dp s<m∧(tt s).length≤1000000∧∀ H',Same H H'→Q (.str (S (tt s))) H'
theorem Yfu {K:PySem.W.Frag} {vs:List V} {H:Hp} {Q:VK} {E:XK} (h:Z1I K 0 vs H Q E):False:=by
 obtain ⟨_,_,_,_,_,h,_⟩:=h
 omega
theorem Z2W:Str.ofString "whole("=S (mc .whole++[40]):=by decide +kernel
theorem YaZ:Str.ofString "text("=S (mc .text++[40]):=by decide +kernel
theorem Ycu:Str.ofString "row("=S (mc .row++[40]):=by decide +kernel
theorem Ya0:Str.ofString "pick("=S (mc .pick++[40]):=by decide +kernel
theorem Z2X:Str.ofString "alike("=S (mc .alike++[40]):=by decide +kernel
theorem XJ {a b:Str} {l l':List Nat} (ha:a=S l) (hb:b=S l') (h:l.length+l'.length≤2000000):a.length+b.length≤sizeLine:=by
 rw [ha,hb,Yw,Yw]
 exact Nat.le_trans h (by decide)
theorem Z00 {k:Nat} {Z1 Z2 Z3 Z6 Z4 Z5 Z0:Addr} (R:g.Raw "_law_text" "_law_text" Z35 ["_law_shape_here"]) (Z0G:g.Fn k "_law_text" ["_law_shape_here"] (Z1I g.K m)) (b_str:g.mg "str"=none):g.Fn (k+1) "_law_text" ["_law_shape_here"] (Z1I g.K (m+1)):=by
 refine R.fn Ybe (fun vs H Q E h=>by obtain ⟨s,v,rfl,hs,hg,hd,hl,q⟩:=h;rfl) fun f_ cdv A outer s H vs Q E hr h=>?_
 obtain ⟨s,v,rfl,hs,hg,hd,hl,q⟩:=h
 refine ⟨_,(@Yc _ _ _ _ _ (@Yp _ _ _ _ _ _ _ _ (@Yk _ _ _ _ _ _ _ _ YF (@Ym _ _ _ _ _ _ _ Yn (pv 0) Yf (fun _ _=>rfl)) Yg (Yo _)) (@Yd _ _ _ (@Yj _ _ _ _ (@Ym _ _ _ _ _ _ _ Yn (pv 0) Yf (fun _ _=>rfl)))) Yi) (@Yc _ _ _ _ _ (@Yp _ _ _ _ _ _ _ _ (@Yk _ _ _ _ _ _ _ _ YF (@Ym _ _ _ _ _ _ _ Yn (pv 0) Yf (fun _ _=>rfl)) Yg (Yo _)) (@Yd _ _ _ (@Yj _ _ _ _ (@Yl _ _ _ _ _ _ _ _ Yu (@Yl _ _ _ _ _ _ _ _ Yu (@Yl _ _ _ _ _ _ _ _ Yu (@Yl _ _ _ _ _ _ _ _ Yu Yg (@Xy _ _ _ _ _ _ _ _ _ _ b_str XC (@Ya _ _ _ _ _ (@Ym _ _ _ _ _ _ _ Yn (pv 0) Yf (fun _ _=>rfl)) Yb (by rfl)) (by decide +kernel) (by rfl) (by rfl) (by decide) (by decide) (by rfl) (by rfl))) Yg) (@Xy _ _ _ _ _ _ _ _ _ _ b_str XC (@Ya _ _ _ _ _ (@Ym _ _ _ _ _ _ _ Yn (pv 0) Yf (fun _ _=>rfl)) Yb (by rfl)) (by decide +kernel) (by rfl) (by rfl) (by decide) (by decide) (by rfl) (by rfl))) Yg))) Yi) (@Yc _ _ _ _ _ (@Yp _ _ _ _ _ _ _ _ (@Yk _ _ _ _ _ _ _ _ YF (@Ym _ _ _ _ _ _ _ Yn (pv 0) Yf (fun _ _=>rfl)) Yg (Yo _)) (@Yd _ _ _ (@Yj _ _ _ _ (@Yl _ _ _ _ _ _ _ _ Yu (@Yl _ _ _ _ _ _ _ _ Yu Yg (@Ym _ _ _ _ _ _ _ Yn (pv 0) Yf (fun _ _=>rfl))) Yg))) Yi) (@Yc _ _ _ _ _ (@Yp _ _ _ _ _ _ _ _ (@Yk _ _ _ _ _ _ _ _ YF (@Ym _ _ _ _ _ _ _ Yn (pv 0) Yf (fun _ _=>rfl)) Yg (Yo _)) (@Yd _ _ _ (@Yj _ _ _ _ (@Yl _ _ _ _ _ _ _ _ Yu (@Yl _ _ _ _ _ _ _ _ Yu Yg (@Xx _ _ _ _ _ _ _ _ _ _ _ _ PySem.F.plainAttrs_str PySem.F.slot_str_join PySem.F.type_str_join Vi Yg (@Ya _ _ _ _ _ (@XG _ _ _ _ _ _ _ ([none]) ((["_law_part"]:List Str)) _ (Ys 0) _ _ (.own .nil) rfl (@WA _ _ _ _ (@Ym _ _ _ _ _ _ _ Yn (pv 0) Yf (fun _ _=>rfl))) (fun cl C s₀ H₀ fp pn=>(@Yq _ _ (0) _ (show List.Nodup (["_law_part"]:List Str) by decide +kernel) rfl (.inl rfl) (.inr rfl))) (fun cl C s₀ H₀ fp pn=>Y0) (fun cl C s₀ H₀ fp pn=>(@YE _ _ _ _ _ _ _ _ _ _ _ _ Z0G hr (@Ya _ _ _ _ _ (pv 0) Yb (by rfl)) (by omega) (by rfl) (by rfl) (by decide) (by rfl) (by rfl))) (by intro x hx;simp at hx) (by rfl) (by decide) (by decide +kernel) (by intro _;rfl)) Yb (by rfl)) (by rfl) (by rfl) (by rfl) (by rfl) (by rfl))) Yg))) Yi) (@Yc _ _ _ _ _ (@Yp _ _ _ _ _ _ _ _ (@Yk _ _ _ _ _ _ _ _ YF (@Ym _ _ _ _ _ _ _ Yn (pv 0) Yf (fun _ _=>rfl)) Yg (Yo _)) (@Yd _ _ _ (@Yj _ _ _ _ (@Yl _ _ _ _ _ _ _ _ Yu (@Yl _ _ _ _ _ _ _ _ Yu Yg (@Xx _ _ _ _ _ _ _ _ _ _ _ _ PySem.F.plainAttrs_str PySem.F.slot_str_join PySem.F.type_str_join Vi Yg (@Ya _ _ _ _ _ (@XG _ _ _ _ _ _ _ ([none,none]) ((["_law_mark","_law_part"]:List Str)) _ (XA g.K 2 (YQ (Ys 0) (YQ (Ys 1) Xz))) _ _ (.own (.own .nil)) rfl (@WA _ _ _ _ (@Ym _ _ _ _ _ _ _ Yn (pv 0) Yf (fun _ _=>rfl))) (fun cl C s₀ H₀ fp pn=>(@Xq _ _ _ _ _ (2) rfl (@YJ _ _ _ _ _ (@Yq _ _ (0) _ (show List.Nodup (["_law_mark","_law_part"]:List Str) by decide +kernel) rfl (.inl rfl) (.inr rfl)) (@YJ _ _ _ _ _ (@Yq _ _ (1) _ (show List.Nodup (["_law_mark","_law_part"]:List Str) by decide +kernel) rfl (.inl rfl) (.inr rfl)) Xf (by rfl)) (by rfl)) (by rfl) (by rfl))) (fun cl C s₀ H₀ fp pn=>Y0) (fun cl C s₀ H₀ fp pn=>(@Yl _ _ _ _ _ _ _ _ Yu (@Yl _ _ _ _ _ _ _ _ Yu (pv 0) Yg) (@YE _ _ _ _ _ _ _ _ _ _ _ _ Z0G hr (@Ya _ _ _ _ _ (pv 1) Yb (by rfl)) (by omega) (by rfl) (by rfl) (by decide) (by rfl) (by rfl)))) (by intro x hx;simp at hx) (by rfl) (by decide) (by decide +kernel) (by intro _;rfl)) Yb (by rfl)) (by rfl) (by rfl) (by rfl) (by rfl) (by rfl))) Yg))) Yi) (@Yc _ _ _ _ _ (@Yp _ _ _ _ _ _ _ _ (@Yk _ _ _ _ _ _ _ _ YF (@Ym _ _ _ _ _ _ _ Yn (pv 0) Yf (fun _ _=>rfl)) Yg (Yo _)) (@Yd _ _ _ (@Yj _ _ _ _ (@Yl _ _ _ _ _ _ _ _ Yu (@Yl _ _ _ _ _ _ _ _ Yu (@Yl _ _ _ _ _ _ _ _ Yu (@Yl _ _ _ _ _ _ _ _ Yu Yg (@YE _ _ _ _ _ _ _ _ _ _ _ _ Z0G hr (@Ya _ _ _ _ _ (@Ym _ _ _ _ _ _ _ Yn (pv 0) Yf (fun _ _=>rfl)) Yb (by rfl)) (by omega) (by rfl) (by rfl) (by decide) (by rfl) (by rfl))) Yg) (@Xy _ _ _ _ _ _ _ _ _ _ b_str XC (@Ya _ _ _ _ _ (@Ym _ _ _ _ _ _ _ Yn (pv 0) Yf (fun _ _=>rfl)) Yb (by rfl)) (by decide +kernel) (by rfl) (by rfl) (by decide) (by decide) (by rfl) (by rfl))) Yg))) Yi) (@Yd _ _ _ (@Yj _ _ _ _ (@Yl _ _ _ _ _ _ _ _ Yu (@Yl _ _ _ _ _ _ _ _ Yu (@Yl _ _ _ _ _ _ _ _ Yu (@Ym _ _ _ _ _ _ _ Yn (pv 0) Yf (fun _ _=>rfl)) Yg) (@YE _ _ _ _ _ _ _ _ _ _ _ _ Z0G hr (@Ya _ _ _ _ _ (@Ym _ _ _ _ _ _ _ Yn (pv 0) Yf (fun _ _=>rfl)) Yb (by rfl)) (by omega) (by rfl) (by rfl) (by decide) (by rfl) (by rfl))) Yg))))))))),?_⟩
 have nq:∀ m m':Mk,m≠m'→¬ V.str (ms m)=V.str (ms m'):=fun m m' h z=>h (by have:=V.str.inj z;rwa [Xu] at this)
 by_cases hu:∃ w,s = .use w
 ·obtain ⟨w,rfl⟩:=hu
  obtain ⟨a,rfl,ha⟩:=hs
  have hq:=q H (.refl _)
  rw [Ue] at hq
  walk_at "rd"
  exact ⟨_,SqT.of ha,_,rfl,rfl,Xb rfl ⟨_,SqT.of ha,_,rfl,hq⟩⟩
 have hu':∀ w,s ≠ .use w:=fun w e=>hu ⟨w,e⟩
 have hsum:=WO hg hu'
 have he:=Q2 hg hu'
 have hml:=(Xv (kd s)).2
 have hjl:(mc (kd s)).length+1+(YM [44] (shn s)).length+1=(tt s).length:=by
  rw [he]
  simp only [List.length_append,List.length_cons,List.length_nil]
  omega
 have fin:∀ H',Same H H'→Q (.str (S ((mc (kd s)++[40])++YM [44] (shn s))++S [41])) H':=fun H' s'=>by
  have hq:=q H' s'
  rw [he] at hq
  rw [Yy]
  simpa using hq
 cases s with
 | use w=>exact (hu' w rfl).elim
 | whole i j =>
  obtain ⟨a,rfl,ha⟩:=hs
  have l1:=Vo hg.1
  have l2:=Vo hg.2
  walk_at "rd"
  refine ⟨_,SqT.of ha,_,rfl,rfl,YH (nq .whole .use (by decide)) ⟨_,SqT.of ha,_,rfl,rfl,Xb rfl ?_⟩⟩
  refine ⟨_,SqT.of ha,_,rfl,i,rfl,WN hg.1,?_,?_,_,SqT.of ha,_,rfl,j,rfl,WN hg.2,?_,?_,?_⟩
  all_goals rw [X4]
  ·exact XJ Z2W rfl (by simp only [kd] at hml;simp only [List.length_append,List.length_cons,List.length_nil];omega)
  ·rw [Z2W,ZE,Yy]
   exact XJ rfl rfl (by simp only [kd] at hml;simp only [List.length_append,List.length_cons,List.length_nil];omega)
  ·rw [X4,Z2W,ZE,Yy,Yy]
   exact XJ rfl rfl (by simp only [kd] at hml;simp only [List.length_append,List.length_cons,List.length_nil];omega)
  ·rw [X4,Z2W,ZE,Z02,Yy,Yy,Yy]
   exact XJ rfl rfl (by simp only [kd] at hml;simp only [List.length_append,List.length_cons,List.length_nil];omega)
  ·rw [X4,Z2W,ZE,Z02,Yy,Yy,Yy]
   have:=fin H (.refl _)
   simpa [kd,shn,YM] using this
 | text w =>
  obtain ⟨a,rfl,ha⟩:=hs
  have l1:=hg.2.1
  walk_at "rd"
  refine ⟨_,SqT.of ha,_,rfl,rfl,YH (nq .text .use (by decide)) ⟨_,SqT.of ha,_,rfl,rfl,YH (nq .text .whole (by decide)) ⟨_,SqT.of ha,_,rfl,rfl,Xb rfl ?_⟩⟩⟩
  refine ⟨_,SqT.of ha,_,rfl,_,rfl,?_,?_,?_⟩
  ·exact XJ YaZ rfl (by simp only [kd] at hml;simp only [List.length_append,List.length_cons,List.length_nil];omega)
  ·rw [YaZ,Z02,Yy]
   exact XJ rfl rfl (by simp only [kd] at hml;simp only [List.length_append,List.length_cons,List.length_nil];omega)
  ·rw [YaZ,Z02,Yy]
   have:=fin H (.refl _)
   simpa [kd,shn,YM] using this
 | row ks =>
  obtain ⟨a,b,us,rfl,ha,hb,hk⟩:=hs
  obtain ⟨k1,k2⟩:=KA.iff.mp hk
  have hl8:ks.list.length≤8:=hg.1
  walk_at "rd"
  refine ⟨_,SqT.of ha,_,rfl,rfl,YH (nq .row .use (by decide)) ⟨_,SqT.of ha,_,rfl,rfl,YH (nq .row .whole (by decide)) ⟨_,SqT.of ha,_,rfl,rfl,YH (nq .row .text (by decide)) ⟨_,SqT.of ha,_,rfl,rfl,Xb rfl ?_⟩⟩⟩⟩
  refine ⟨rfl,YdZ (K:=g.K) (xs:=us) (vst (shn (.row ks))) (fun R r=>by walk_at "rd";exact ⟨_,SqT.of ha,_,rfl,r b H (.refl _) (SqT.of hb)⟩) (by simp [vst,shn,k1]) (by omega) ?_ ?_⟩
  ·intro i x y H2 hx hy sm R r
   have hi:=(List.getElem?_eq_some_iff.mp hx).1
   have hki:ks.list[i]?=some (ks.list[i]'(by omega)):=List.getElem?_eq_getElem _
   generalize ks.list[i]'(by omega)=z at hki
   have hzm:=List.mem_of_getElem? hki
   have hpt:z.2∈pts (.row ks):=List.mem_map.mpr ⟨z,hzm,rfl⟩
   have e1:=Wr hg hpt
   have e2:=Xm hpt
   rw [vst,List.getElem?_map,shn,List.getElem?_map,hki] at hy
   have hy':=Option.some.inj hy
   subst hy'
   walk_at "rd"
   exact ⟨z.2,x,rfl,(k2 i x z hx hki).keep (.of sm),XN hg hpt,by omega,by omega,fun H3 s3=>r H3 s3⟩
  ·intro D H2 hD sm hd
   refine ⟨_,D,(shn (.row ks)).map S,rfl,rfl,SqL.of (hd.trans (by simp [vst])),?_,_,rfl,?_,?_,?_⟩
   ·rw [ZE,Yw,Qf,List.length_map]
    simp only [List.length_cons,List.length_nil]
    omega
   ·rw [ZE,XM,Ycu]
    exact XJ rfl rfl (by simp only [kd] at hml hjl;simp only [List.length_append,List.length_cons,List.length_nil];omega)
   ·rw [ZE,XM,Ycu,Z02,Yy]
    exact XJ rfl rfl (by simp only [kd] at hml hjl;simp only [List.length_append,List.length_cons,List.length_nil];omega)
   ·rw [ZE,XM,Ycu,Z02,Yy]
    exact fin H2 sm
 | pick ks =>
  obtain ⟨a,b,us,rfl,ha,hb,hk⟩:=hs
  have hl10:ks.list.length≤10:=hg.2.1
  have hul:=hk.len
  obtain ⟨ps,g1,g2,g3⟩:=KB.cols (K:=g.K) hk
  walk_at "rd"
  refine ⟨_,SqT.of ha,_,rfl,rfl,YH (nq .pick .use (by decide)) ⟨_,SqT.of ha,_,rfl,rfl,YH (nq .pick .whole (by decide)) ⟨_,SqT.of ha,_,rfl,rfl,YH (nq .pick .text (by decide)) ⟨_,SqT.of ha,_,rfl,rfl,YH (nq .pick .row (by decide)) ⟨_,SqT.of ha,_,rfl,rfl,Xb rfl ?_⟩⟩⟩⟩⟩
  refine ⟨rfl,Wp (K:=g.K) (b:=b) (xs:=us) ps (vst (shn (.pick ks))) (fun R r=>by walk_at "rd";exact ⟨_,SqT.of ha,_,rfl,r⟩) (SqT.of hb) g2 g1 (by simp [vst,shn,hul]) (by omega) ?_ ?_⟩
  ·intro j p y H2 hp hy sm R r
   have hj:=(List.getElem?_eq_some_iff.mp hp).1
   have hkj:ks.list[j]?=some (ks.list[j]'(by omega)):=List.getElem?_eq_getElem _
   generalize ks.list[j]'(by omega)=z at hkj
   rw [vst,List.getElem?_map,shn,List.getElem?_map,hkj] at hy
   have hy':=Option.some.inj hy
   subst hy'
   have hzm:=List.mem_of_getElem? hkj
   obtain ⟨z1,z2⟩:=g3 j p _ hp hkj
   have hpt:z.2∈pts (.pick ks):=List.mem_map.mpr ⟨z,hzm,rfl⟩
   have h1:=Wr hg hpt
   have h2:=Xm hpt
   have h3:=(XO (hg.2.2.mem hzm).1).1
   walk_at "rd"
   rw [z1,YbN]
   refine ⟨_,rfl,XJ rfl rfl (by simp only [List.length_cons,List.length_nil];omega),z.2,p.2,rfl,z2.keep (.of sm),XN hg hpt,by omega,by omega,fun H3 s3=>⟨_,rfl,?_,?_⟩⟩
   ·rw [Yy]
    exact XJ rfl rfl (by simp only [List.length_append,List.length_cons,List.length_nil];omega)
   ·rw [Yy,Yy,List.append_assoc]
    exact r H3 s3
  ·intro D H2 hD sm hd
   refine ⟨_,D,(shn (.pick ks)).map S,rfl,rfl,SqL.of (hd.trans (by simp [vst])),?_,_,rfl,?_,?_,?_⟩
   ·rw [ZE,Yw,Qf,List.length_map]
    simp only [List.length_cons,List.length_nil]
    omega
   ·rw [ZE,XM,Ya0]
    exact XJ rfl rfl (by simp only [kd] at hml hjl;simp only [List.length_append,List.length_cons,List.length_nil];omega)
   ·rw [ZE,XM,Ya0,Z02,Yy]
    exact XJ rfl rfl (by simp only [kd] at hml hjl;simp only [List.length_append,List.length_cons,List.length_nil];omega)
   ·rw [ZE,XM,Ya0,Z02,Yy]
    exact fin H2 sm
 | alike s t =>
  obtain ⟨a,w,rfl,ha,hw⟩:=hs
  have hpt:s∈pts (.alike s t):=by simp [pts]
  have h1:=Wr hg hpt
  have h2:=Xm hpt
  have ht:((t:Nat):Int).natAbs<10^60:=by rw [Int.natAbs_natCast];exact Nat.lt_of_le_of_lt hg.2.1 (by decide)
  have l2:=Vo ht
  walk_at "rd"
  refine ⟨_,SqT.of ha,_,rfl,rfl,YH (nq .alike .use (by decide)) ⟨_,SqT.of ha,_,rfl,rfl,YH (nq .alike .whole (by decide)) ⟨_,SqT.of ha,_,rfl,rfl,YH (nq .alike .text (by decide)) ⟨_,SqT.of ha,_,rfl,rfl,YH (nq .alike .row (by decide)) ⟨_,SqT.of ha,_,rfl,rfl,YH (nq .alike .pick (by decide)) ⟨_,SqT.of ha,_,rfl,rfl,Xb rfl ?_⟩⟩⟩⟩⟩⟩
  refine ⟨_,SqT.of ha,_,rfl,s,w,rfl,hw,hg.2.2,by omega,by omega,fun H2 s2=>⟨_,rfl,?_,?_,_,SqT.of (s2 _ _ ha),_,rfl,_,rfl,WN ht,?_,?_,?_⟩⟩
  ·exact XJ Z2X rfl (by simp only [kd] at hml;simp only [List.length_append,List.length_cons,List.length_nil];omega)
  ·rw [Z2X,ZE,Yy]
   exact XJ rfl rfl (by simp only [kd] at hml;simp only [List.length_append,List.length_cons,List.length_nil];omega)
  ·rw [X4,Z2X,ZE,Yy,Yy]
   exact XJ rfl rfl (by simp only [kd] at hml;simp only [List.length_append,List.length_cons,List.length_nil];omega)
  ·rw [X4,Z2X,ZE,Z02,Yy,Yy,Yy]
   exact XJ rfl rfl (by simp only [kd] at hml;simp only [List.length_append,List.length_cons,List.length_nil];omega)
  ·rw [X4,Z2X,ZE,Z02,Yy,Yy,Yy]
   have:=fin H2 s2
   simpa [kd,shn,YM] using this
 | one mk s =>
  obtain ⟨a,w,rfl,ha,hw⟩:=hs
  have hpt:s∈pts (.one mk s):=by simp [pts]
  have h1:=Wr hg hpt
  have h2:=Xm hpt
  have hm:ms mk≠ms .use∧ms mk≠ms .whole∧ms mk≠ms .text∧ms mk≠ms .row∧ms mk≠ms .pick∧ms mk≠ms .alike:=by
   rcases hg.1 with rfl | rfl | rfl<;>simp [Xu]
  walk_at "rd"
  refine ⟨_,SqT.of ha,_,rfl,rfl,YH (fun z=>hm.1 (V.str.inj z)) ⟨_,SqT.of ha,_,rfl,rfl,YH (fun z=>hm.2.1 (V.str.inj z)) ⟨_,SqT.of ha,_,rfl,rfl,YH (fun z=>hm.2.2.1 (V.str.inj z)) ⟨_,SqT.of ha,_,rfl,rfl,YH (fun z=>hm.2.2.2.1 (V.str.inj z)) ⟨_,SqT.of ha,_,rfl,rfl,YH (fun z=>hm.2.2.2.2.1 (V.str.inj z)) ⟨_,SqT.of ha,_,rfl,rfl,YH (fun z=>hm.2.2.2.2.2 (V.str.inj z)) ⟨_,SqT.of ha,_,rfl,_,rfl,?_,_,SqT.of ha,_,rfl,s,w,rfl,hw,hg.2,by omega,by omega,fun H2 s2=>⟨_,rfl,?_,?_,?_⟩⟩⟩⟩⟩⟩⟩⟩
  ·rw [Xo,WE]
   exact XJ rfl rfl (by simp only [kd] at hml;simp only [List.length_append,List.length_cons,List.length_nil];omega)
  ·rw [Xo,WE,Yy]
   exact XJ rfl rfl (by simp only [kd] at hml;simp only [List.length_append,List.length_cons,List.length_nil];omega)
  ·rw [Xo,WE,Z02,Yy,Yy]
   exact XJ rfl rfl (by simp only [kd] at hml;simp only [List.length_append,List.length_cons,List.length_nil];omega)
  ·rw [Xo,WE,Z02,Yy,Yy]
   have:=fin H2 s2
   simpa [kd,shn,YM] using this
def WY (s:Sh):List (List Nat):=(wi s).filterMap Xa
theorem Yfv {s:Sh} (h:Xa s=none):WY s=(pts s).flatMap WY:=by
 unfold WY
 have key:∀ l:List Sh,(l.flatMap wi).filterMap Xa=l.flatMap fun s=>(wi s).filterMap Xa:=fun l=>by
  induction l with
  | nil=>rfl
  | cons z l ih=>rw [List.flatMap_cons,List.flatMap_cons,List.filterMap_append,ih]
 rw [X8,List.filterMap_cons_none h,key]
theorem Yfw (acc c:List (List Nat)) (x:List Nat):Y8 (acc++c.filter fun y => !decide (y∈acc)) x=acc++(Y8 c x).filter fun y => !decide (y∈acc):=by
 by_cases h1:x∈c
 ·have e1:Y8 c x=c:=if_pos h1
  rw [e1]
  refine if_pos ?_
  by_cases h2:x∈acc
  ·exact List.mem_append_left _ h2
  ·exact List.mem_append_right _ (List.mem_filter.mpr ⟨h1,by simp [h2]⟩)
 ·have e1:Y8 c x=c++[x]:=if_neg h1
  rw [e1,List.filter_append]
  by_cases h2:x∈acc
  ·have:Y8 (acc++c.filter fun y => !decide (y∈acc)) x=acc++c.filter fun y => !decide (y∈acc):=if_pos (List.mem_append_left _ h2)
   rw [this]
   simp [h2]
  ·have hn:¬ x∈acc++c.filter fun y => !decide (y∈acc):=fun z=>by
    rcases List.mem_append.mp z with z | z
    ·exact h2 z
    ·exact h1 (List.mem_filter.mp z).1
   have:Y8 (acc++c.filter fun y => !decide (y∈acc)) x=acc++(c.filter fun y => !decide (y∈acc))++[x]:=if_neg hn
   rw [this]
   simp [h2]
theorem QK (acc:List (List Nat)):∀ (l c:List (List Nat)),l.foldl Y8 (acc++c.filter fun y => !decide (y∈acc))=acc++(l.foldl Y8 c).filter fun y => !decide (y∈acc)
 | [],c=>rfl
 | x::l,c=>by
  rw [List.foldl_cons,List.foldl_cons,Yfw,QK acc l]
theorem Yeh (acc l:List (List Nat)):l.foldl Y8 acc=acc++(l.foldl Y8 []).filter fun x => !decide (x∈acc):=by
 have:=QK acc l []
 simpa using this
theorem YeP:∀ {n:Nat} {s:Sh},dp s≤n→Gd s→(wi s).length≤(tt s).length:=fun {n s} hn hg=>by
 induction n generalizing s with
 | zero =>
  have:pts s=[]:=by
   cases e:pts s with
   | nil=>rfl
   | cons z r =>
    have:=Xm (s:=s) (z:=z) (by rw [e];simp)
    omega
  rw [X8,this]
  by_cases hu:∃ w,s = .use w
  ·obtain ⟨w,rfl⟩:=hu
   rw [Ue]
   have:=(Ycr hg).1
   simpa using this
  ·have:=WO hg fun w e=>hu ⟨w,e⟩
   simp
   omega
 | succ n ih =>
  by_cases hu:∃ w,s = .use w
  ·obtain ⟨w,rfl⟩:=hu
   rw [Ue]
   have:=(Ycr hg).1
   simpa [wi] using this
  ·have hu':∀ w,s ≠ .use w:=fun w e=>hu ⟨w,e⟩
   have h1:=WO hg hu'
   have h2:((pts s).flatMap wi).length≤((shn s).map List.length).sum:=by
    have key:∀ (l:List Sh),(∀ z∈l,(wi z).length≤(tt z).length)→(l.flatMap wi).length≤(l.map fun z=>(tt z).length).sum:=fun l h=>by
     induction l with
     | nil=>simp
     | cons a l ih2 =>
      have g1:=h a (by simp)
      have g2:=ih2 fun z hz=>h z (by simp [hz])
      rw [List.flatMap_cons,List.length_append,List.map_cons,List.sum_cons]
      omega
    have k1:=key (pts s) fun z hz=>ih (by have:=Xm hz;omega) (XN hg hz)
    refine Nat.le_trans k1 ?_
    cases s with
    | row ks=>simp [pts,shn,Function.comp_def]
    | pick ks =>
     simp only [pts,shn,Yfs]
     omega
    | one m s=>simp [pts,shn]
    | alike s t=>simp [pts,shn]
    | _=>simp [pts]
   rw [X8,List.length_cons]
   omega
theorem YbV {s:Sh} (hg:Gd s):(nmu s).length≤(tt s).length:=by
 have h1:=VI ((wi s).filterMap Xa) []
 have h2:=List.length_filterMap_le Xa (wi s)
 have h3:=YeP (Nat.le_refl _) hg
 unfold nmu
 simp only [List.length_nil] at h1
 omega
theorem Ya1 (acc l:List (List Nat)):((vst l).filter fun v => !inV v (vst acc))=vst (l.filter fun x => !decide (x∈acc)):=by
 unfold vst
 rw [List.filter_map]
 congr 1
 refine List.filter_congr fun x _=>?_
 show (!inV (V.str (S x)) (vst acc))=_
 rw [U7]
theorem Ya2:∀ l:List Sh,(l.flatMap WY).length≤(l.flatMap wi).length
 | []=>by simp
 | z::l=>by
  have:=Ya2 l
  have h2:=List.length_filterMap_le Xa (wi z)
  rw [List.flatMap_cons,List.flatMap_cons,List.length_append,List.length_append,show (WY z).length=((wi z).filterMap Xa).length from rfl]
  omega
def Z1f (K:PySem.W.Frag) (m:Nat):Sp:=fun vs H Q _=>∃ (s:Sh) (v:V),vs=[v]∧SA H s v∧Gd s∧dp s<m∧(tt s).length≤2000∧∀ p H',Same H H'→H' p=some (.lst (vst (nmu s)))→Q (.ref p) H'
theorem Yei {K:PySem.W.Frag} {vs:List V} {H:Hp} {Q:VK} {E:XK} (h:Z1f K 0 vs H Q E):False:=by
 obtain ⟨_,_,_,_,_,h,_⟩:=h
 omega
theorem UI (l:List (List Nat)):(vst l).all Wz=true:=by
 rw [List.all_eq_true]
 intro y hy
 obtain ⟨x,_,rfl⟩:=List.mem_map.mp hy
 rfl
theorem Z01 {k:Nat} {Z1 Z2 Z3 Z6 Z4 Z5 Z0:Addr} (R:g.Raw "_law_uses" "_law_uses" Z36 ["_law_shape_here"]) (Z39:g.Fn k "_law_uses" ["_law_shape_here"] (Z1f g.K m)) (b_list:g.mg "list"=none):g.Fn (k+1) "_law_uses" ["_law_shape_here"] (Z1f g.K (m+1)):=by
 refine R.fn Z06 (fun vs H Q E h=>by obtain ⟨s,v,rfl,hs,hg,hd,hl,q⟩:=h;rfl) fun f_ cdv A outer s H vs Q E hr h=>?_
 obtain ⟨s,v,rfl,hs,hg,hd,hl,q⟩:=h
 refine ⟨_,(@Yc _ _ _ _ _ (@Yp _ _ _ _ _ _ _ _ (@Yk _ _ _ _ _ _ _ _ YF (@Ym _ _ _ _ _ _ _ Yn (pv 0) Yf (fun _ _=>rfl)) Yg (Yo _)) (@Yd _ _ _ (@Yj _ _ _ _ (@Xk _ _ _ _ (@Ya _ _ _ _ _ (@Ym _ _ _ _ _ _ _ Yn (pv 0) Yf (fun _ _=>rfl)) Yb (by rfl))))) Yi) (@Yc _ _ _ _ _ (@Yv _ _ (1) _ _ _ _ Z06.nd rfl (.inl rfl) (@Xk _ _ _ _ Yb) (by rfl) (by first | exact .inl rfl | exact .inr rfl | assumption)) (@Yc _ _ _ _ _ (@Yp _ _ _ _ _ _ _ _ (@Yk _ _ _ _ _ _ _ _ YF (@Ym _ _ _ _ _ _ _ Yn (pv 0) Yf (fun _ _=>rfl)) Yg (Yo _)) (@Yd _ _ _ (@Yv _ _ (1) _ _ _ _ Z06.nd rfl (.inl rfl) (@Xy _ _ _ _ _ _ _ _ _ _ b_list VY (@Ya _ _ _ _ _ (@Ym _ _ _ _ _ _ _ Yn (pv 0) Yf (fun _ _=>rfl)) Yb (by rfl)) (by decide +kernel) (by rfl) (by rfl) (by decide) (by decide) (by rfl) (by rfl)) (by rfl) (by first | exact .inl rfl | exact .inr rfl | assumption))) Yi) (@Yc _ _ _ _ _ (@Yp _ _ _ _ _ _ _ _ (@Yk _ _ _ _ _ _ _ _ YF (@Ym _ _ _ _ _ _ _ Yn (pv 0) Yf (fun _ _=>rfl)) Yg (Yo _)) (@Yd _ _ _ (@Vk _ (1) _ _ _ _ _ _ _ _ _ ([none,none]) ((["_law_mark","_law_part"]:List Str)) _ (XA g.K 2 (YQ (Ys 0) (YQ (Ys 1) Xz))) _ _ Z06.nd rfl (.inl rfl) (.own (.own .nil)) rfl (@WA _ _ _ _ (@Ym _ _ _ _ _ _ _ Yn (pv 0) Yf (fun _ _=>rfl))) (fun cl C s₀ H₀ fp pn=>(@Xq _ _ _ _ _ (2) rfl (@YJ _ _ _ _ _ (@Yq _ _ (0) _ (show List.Nodup (["_law_mark","_law_part"]:List Str) by decide +kernel) rfl (.inl rfl) (.inr rfl)) (@YJ _ _ _ _ _ (@Yq _ _ (1) _ (show List.Nodup (["_law_mark","_law_part"]:List Str) by decide +kernel) rfl (.inl rfl) (.inr rfl)) Xf (by rfl)) (by rfl)) (by rfl) (by rfl))) (fun cl C s₀ H₀ fp pn=>Y0) (fun cl C s₀ H₀ fp pn=>(pv 1)) (by intro x hx;simp at hx) (by rfl) (by decide) (by decide +kernel) (by intro _;rfl) (by rfl) (by first | exact .inl rfl | exact .inr rfl | assumption))) Yi) (@Yc _ _ _ _ _ (@Yp _ _ _ _ _ _ _ _ (@Yk _ _ _ _ _ _ _ _ VX (@Ym _ _ _ _ _ _ _ Yn (pv 0) Yf (fun _ _=>rfl)) (@Yx _ _ _ _ _ (@Ya _ _ _ _ _ Yg (@Ya _ _ _ _ _ Yg (@Ya _ _ _ _ _ Yg (@Ya _ _ _ _ _ Yg Yb (by rfl)) (by rfl)) (by rfl)) (by rfl))) rfl) (@Yd _ _ _ (@Yv _ _ (1) _ _ _ _ Z06.nd rfl (.inl rfl) (@Xk _ _ _ _ (@Ya _ _ _ _ _ (@Ym _ _ _ _ _ _ _ Yn (pv 0) Yf (fun _ _=>rfl)) Yb (by rfl))) (by rfl) (by first | exact .inl rfl | exact .inr rfl | assumption))) Yi) (@Yc _ _ _ _ _ (@Yv _ _ (2) _ _ _ _ Z06.nd rfl (.inr rfl) (@Xk _ _ _ _ Yb) (by rfl) (by first | exact .inl rfl | exact .inr rfl | assumption)) (@Yc _ _ _ _ _ (@Xg _ _ _ _ _ _ _ _ PassesOwn.never rfl (@Y3 _ _ _ _ (pv 1)) (@Yq _ _ (3) _ Z06.nd rfl (.inl rfl) (by first | exact .inl rfl | exact .inr rfl | assumption)) (@Yd _ _ _ (@Yv _ _ (2) _ _ _ _ Z06.nd rfl (.inr rfl) (@Yl _ _ _ _ _ _ _ _ YfT (pv 2) (@XG _ _ _ _ _ _ _ ([none,some 2]) ((["_law_name","_law_names_here"]:List Str)) _ (Ys 0) _ _ (.own (.cap (i:=2) rfl rfl (by first | exact .inl rfl | exact .inr rfl) .nil)) rfl (@Y3 _ _ _ _ (@YE _ _ _ _ _ _ _ _ _ _ _ _ Z39 hr (@Ya _ _ _ _ _ (pv 3) Yb (by rfl)) (by omega) (by rfl) (by rfl) (by decide) (by rfl) (by rfl))) (fun cl C s₀ H₀ fp pn=>(@Yq _ _ (0) _ (show List.Nodup (["_law_name","_law_names_here"]:List Str) by decide +kernel) rfl (.inl rfl) (.inr rfl))) (fun cl C s₀ H₀ fp pn=>(@Qb _ _ _ (@Yk _ _ _ _ _ _ _ _ (VT (K:=g.K)) (pv 0) (pv 1) rfl))) (fun cl C s₀ H₀ fp pn=>(pv 0)) (by intro x hx;simp at hx;first | (subst hx;exact .inl rfl) | (rcases hx with rfl | rfl<;>exact .inl rfl) | (rcases hx with rfl | rfl | rfl<;>exact .inl rfl) | (rcases hx with rfl | rfl | rfl | rfl<;>exact .inl rfl) | (rcases hx with rfl | rfl | rfl | rfl | rfl<;>exact .inl rfl)) (by rfl) (by decide) (by decide +kernel) (by intro _;rfl))) (by rfl) (by first | exact .inl rfl | exact .inr rfl | assumption))) (by intro _;rfl)) (@Yd _ _ _ (@Yj _ _ _ _ (pv 2)))))))))),?_⟩
 have nq:∀ m m':Mk,m≠m'→¬ V.str (ms m)=V.str (ms m'):=fun m m' h z=>h (by have:=V.str.inj z;rwa [Xu] at this)
 by_cases hu:∃ w,s = .use w
 ·obtain ⟨w,rfl⟩:=hu
  obtain ⟨a,rfl,ha⟩:=hs
  walk_at "rd"
  exact ⟨_,SqT.of ha,_,rfl,rfl,Xb rfl ⟨_,SqT.of ha,_,rfl,few (by decide),fun p hp=>q p _ (.upd_new hp _) Ye⟩⟩
 have hu':∀ w,s ≠ .use w:=fun w e=>hu ⟨w,e⟩
 have hun:Xa s=none:=by cases s<;>first | rfl | exact (hu' _ rfl).elim
 have hnm:nmu s=((pts s).flatMap WY).foldl Y8 []:=by rw [← Yfv hun];rfl
 have hkd:∃ (a:Addr) (r:List V),v = .ref a∧H a=some (.tup (.str (ms (kd s))::r))∧kd s ≠ .use:=by
  cases s with
  | use w=>exact (hu' w rfl).elim
  | whole i j=>obtain ⟨a,e,h⟩:=hs;exact ⟨a,_,e,h,by simp [kd]⟩
  | text w=>obtain ⟨a,e,h⟩:=hs;exact ⟨a,_,e,h,by simp [kd]⟩
  | row ks=>obtain ⟨a,b,us,e,h,_⟩:=hs;exact ⟨a,_,e,h,by simp [kd]⟩
  | pick ks=>obtain ⟨a,b,us,e,h,_⟩:=hs;exact ⟨a,_,e,h,by simp [kd]⟩
  | one m s=>obtain ⟨a,w,e,h,_⟩:=hs;exact ⟨a,_,e,h,by rcases hg.1 with rfl | rfl | rfl<;>simp [kd]⟩
  | alike s t=>obtain ⟨a,w,e,h,_⟩:=hs;exact ⟨a,_,e,h,by simp [kd]⟩
 obtain ⟨a,rs,rfl,ha,hku⟩:=hkd
 refine UA (fun σ H'=>∃ c,σ=[some (.ref a),some (.ref c),none,none]∧Same H H'∧H' c=some (.lst [])) ?_ ?_
 rotate_left
 ·intro N hN
  walk_at "rd"
  exact ⟨_,SqT.of ha,_,YC (j:=0) rfl,rfl,YH (nq _ _ hku) ⟨few (by decide),fun p hp=>hN _ _ ⟨p,rfl,.upd_new hp _,Ye⟩⟩⟩
 rintro σ H1 ⟨c0,rfl,s1,hc0⟩
 refine Y9 (fun σ H'=>∃ c xs,σ=[some (.ref a),some (.ref c),none,none]∧Same H H'∧H' c=some (.lst xs)∧((kd s = .row∧SAs H' (pts s) xs)∨(kd s ≠ .row∧xs=[]))) ?_ ?_
 rotate_left
 ·intro N hN
  walk_at "rd"
  refine ⟨_,SqT.of (s1 _ _ ha),_,YC (j:=0) rfl,rfl,YG (fun z=>?_) fun z=>hN _ _ ⟨c0,[],rfl,s1,hc0,.inr ⟨fun e=>z (by rw [e];rfl),rfl⟩⟩⟩
  have hk:kd s = .row:=by have:=V.str.inj z;rwa [YeM,Xu] at this
  cases s with
  | row ks =>
   obtain ⟨a',b,us,e,h,hb,hka⟩:=hs
   cases e
   obtain ⟨k1,k2⟩:=KA.iff.mp hka
   refine ⟨_,SqT.of (s1 _ _ h),_,rfl,b,rfl,us,.inr (SqT.of (s1 _ _ hb)),fun p hp=>hN _ _ ⟨p,us,rfl,s1.trans (.upd_new hp _),Ye,.inl ⟨rfl,by simp [pts,k1],fun i u z a b=>?_⟩⟩⟩
   simp only [pts,List.getElem?_map] at b
   obtain ⟨y,hy,rfl⟩:=Option.map_eq_some_iff.mp b
   exact (k2 i u y a hy).keep (.of (s1.trans (.upd_new hp _)))
  | one m s=>rcases hg.1 with rfl | rfl | rfl<;>cases hk
  | _=>cases hk
 rintro σ H2 ⟨c1,xs1,rfl,s2,hc1,hr⟩
 refine Y9 (fun σ H'=>∃ c xs,σ=[some (.ref a),some (.ref c),none,none]∧Same H H'∧H' c=some (.lst xs)∧(((kd s = .row∨kd s = .pick)∧SAs H' (pts s) xs)∨(kd s ≠ .row∧kd s ≠ .pick∧xs=[]))) ?_ ?_
 rotate_left
 ·intro N hN
  walk_at "rd"
  refine ⟨_,SqT.of (s2 _ _ ha),_,YC (j:=0) rfl,rfl,YG (fun z=>?_) fun z=>hN _ _ ⟨c1,xs1,rfl,s2,hc1,?_⟩⟩
  ·have hk:kd s = .pick:=by have:=V.str.inj z;rwa [Yaz,Xu] at this
   cases s with
   | pick ks =>
    obtain ⟨a',b,us,e,h,hb,hkb⟩:=hs
    cases e
    have hl10:ks.list.length≤10:=hg.2.1
    have hul:=hkb.len
    have hkb2:=hkb.keep (Tk.of s2)
    obtain ⟨ps,g1,g2,g3⟩:=KB.cols (K:=g.K) hkb2
    refine Wp (K:=g.K) (b:=b) (xs:=us) ps (ps.map (·.2)) (fun R r=>by walk_at "rd";exact ⟨_,SqT.of (s2 _ _ h),_,rfl,r⟩) (SqT.of (s2 _ _ hb)) g2 g1 (by simp [g1]) (by omega) ?_ ?_
    ·intro j p y H3 hp hy sm R r
     rw [List.getElem?_map,hp] at hy
     have hy':=Option.some.inj hy
     subst hy'
     walk_at "rd"
     exact r H3 (.refl _)
    ·intro D H3 hD sm hd
     refine hN _ _ ⟨D,_,rfl,s2.trans sm,hd,.inl ⟨.inr rfl,by simp [pts,g1,hul],fun i u z a b=>?_⟩⟩
     simp only [pts,List.getElem?_map] at a b
     obtain ⟨y,hy,rfl⟩:=Option.map_eq_some_iff.mp b
     obtain ⟨p,hp,rfl⟩:=Option.map_eq_some_iff.mp a
     exact (g3 i p y hp hy).2.keep (.of sm)
   | one m s=>rcases hg.1 with rfl | rfl | rfl<;>cases hk
   | _=>cases hk
  ·rcases hr with ⟨h1,h2⟩ | ⟨h1,h2⟩
   ·exact .inl ⟨.inl h1,h2⟩
   ·exact .inr ⟨h1,fun e=>z (by rw [e];rfl),h2⟩
 rintro σ H3 ⟨c2,xs2,rfl,s3,hc2,hr2⟩
 refine Y9 (fun σ H'=>∃ c xs,σ=[some (.ref a),some (.ref c),none,none]∧Same H H'∧H' c=some (.lst xs)∧SAs H' (pts s) xs) ?_ ?_
 rotate_left
 ·intro N hN
  walk_at "rd"
  refine ⟨_,SqT.of (s3 _ _ ha),_,YC (j:=0) rfl,few (by decide),fun p hp=>⟨_,.inr (SqT.of Ye),rfl,rfl,?_⟩⟩
  have u:=Same.upd_new hp (HO.tup [V.str (Str.ofString "many"),V.str (Str.ofString "rising"),V.str (Str.ofString "unlike"),V.str (Str.ofString "alike")])
  have h34:=s3.trans u
  cases s with
  | use w=>exact (hu' w rfl).elim
  | whole i j =>
   refine YH (by simp only [kd];decide +kernel) (hN _ _ ⟨c2,[],rfl,h34,u _ _ ?_,.nil⟩)
   rcases hr2 with ⟨h | h,_⟩ | ⟨_,_,rfl⟩
   ·cases h
   ·cases h
   ·exact hc2
  | text w =>
   refine YH (by simp only [kd];decide +kernel) (hN _ _ ⟨c2,[],rfl,h34,u _ _ ?_,.nil⟩)
   rcases hr2 with ⟨h | h,_⟩ | ⟨_,_,rfl⟩
   ·cases h
   ·cases h
   ·exact hc2
  | row ks =>
   refine YH (by simp only [kd];decide +kernel) (hN _ _ ⟨c2,xs2,rfl,h34,u _ _ hc2,?_⟩)
   rcases hr2 with ⟨_,h⟩ | ⟨h,_⟩
   ·exact h.keep (.of u)
   ·exact (h rfl).elim
  | pick ks =>
   refine YH (by simp only [kd];decide +kernel) (hN _ _ ⟨c2,xs2,rfl,h34,u _ _ hc2,?_⟩)
   rcases hr2 with ⟨_,h⟩ | ⟨_,h,_⟩
   ·exact h.keep (.of u)
   ·exact (h rfl).elim
  | one m s =>
   obtain ⟨a',w,e,h,hw⟩:=hs
   cases e
   refine Xb (by simp only [kd];rcases hg.1 with rfl | rfl | rfl<;>decide +kernel) ⟨_,SqT.of (h34 _ _ h),_,rfl,few (by decide),fun p2 hp2=>hN _ _ ⟨p2,[w],rfl,h34.trans (.upd_new hp2 _),Ye,.one (hw.keep (.of (h34.trans (.upd_new hp2 _))))⟩⟩
  | alike s t =>
   obtain ⟨a',w,e,h,hw⟩:=hs
   cases e
   refine Xb (by simp only [kd];decide +kernel) ⟨_,SqT.of (h34 _ _ h),_,rfl,few (by decide),fun p2 hp2=>hN _ _ ⟨p2,[w],rfl,h34.trans (.upd_new hp2 _),Ye,.one (hw.keep (.of (h34.trans (.upd_new hp2 _))))⟩⟩
 rintro σ H4 ⟨c,xs,rfl,s4,hc,hxs⟩
 have hxl:=hxs.1
 have hpl:=YbJ hg
 refine Y9 (fun σ H'=>∃ p,σ=[some (.ref a),some (.ref c),some (.ref p),none]∧Same H H'∧H' c=some (.lst xs)∧SAs H' (pts s) xs∧H' p=some (.lst [])) ?_ ?_
 rotate_left
 ·intro N hN
  walk_at "rd"
  exact ⟨few (by decide),fun p hp=>hN _ _ ⟨p,rfl,s4.trans (.upd_new hp _),(Same.upd_new hp _) _ _ hc,hxs.keep (.of (.upd_new hp _)),Ye⟩⟩
 rintro σ H5 ⟨p0,rfl,s5,hc5,hxs5,hp0⟩
 refine Y9 (fun σ H'=>∃ p o,σ=[some (.ref a),some (.ref c),some (.ref p),o]∧Same H H'∧H' p=some (.lst (vst (nmu s)))) ?_ ?_
 ·rintro σ H6 ⟨p,o,rfl,s6,h6⟩
  walk_at "rd"
  exact q p H6 s6 h6
 ·intro N hN
  refine XT (K:=g.K) (a:=c) (xs:=xs) (fun i σ' H'=>∃ p o,σ'=[some (.ref a),some (.ref c),some (.ref p),o]∧Same H5 H'∧H' p=some (.lst (vst ((((pts s).take i).flatMap WY).foldl Y8 [])))) (fun R r=>by walk_at "rd";exact r) ⟨p0,none,rfl,.refl _,hp0⟩ (fun i σ' H' _ ⟨p,o,_,sm,_⟩=>SqL.of (sm _ _ hc5)) ?_ ?_
  ·rintro i x σ' H' hx ⟨p,o,rfl,sm,hp⟩
   have hi:=(List.getElem?_eq_some_iff.mp hx).1
   have hi':i<(pts s).length:=by omega
   have hz:(pts s)[i]?=some (pts s)[i]:=List.getElem?_eq_getElem hi'
   have htk:(pts s).take (i+1)=(pts s).take i++[(pts s)[i]]:=List.take_succ_eq_append_getElem hi'
   generalize (pts s)[i]=z at hz htk
   have hzm:=List.mem_of_getElem? hz
   have e1:=Wr hg hzm
   have e2:=Xm hzm
   have e3:=YbV (XN hg hzm)
   generalize hA:(((pts s).take i).flatMap WY).foldl Y8 []=acc at hp
   have hnx:(((pts s).take (i+1)).flatMap WY).foldl Y8 []=acc++(nmu z).filter fun x => !decide (x∈acc):=by
    rw [htk,List.flatMap_append,List.foldl_append,hA,Yeh]
    simp [nmu,WY]
   have hal:acc.length≤2000:=by
    have g1:=VI (((pts s).take i).flatMap WY) []
    rw [hA] at g1
    have g2:=Ya2 ((pts s).take i)
    have g3:=YeP (Nat.le_refl _) hg
    have g4:(((pts s).take i).flatMap wi).length≤((pts s).flatMap wi).length:=by
     have e:(pts s).flatMap wi=((pts s).take i).flatMap wi++((pts s).drop i).flatMap wi:=by rw [← List.flatMap_append,List.take_append_drop]
     rw [e,List.length_append]
     omega
    rw [X8,List.length_cons] at g3
    simp only [List.length_nil] at g1
    omega
   walk_at "rd"
   rw [hnx]
   refine YdW (K:=g.K) (xs:=vst (nmu z)) (fun v => !inV v (vst acc)) id (fun R r=>by walk_at "rd";exact ⟨z,x,rfl,(hxs5.2 i x z hx hz).keep (.of sm),XN hg hzm,by omega,by omega,fun p2 H6 s6 h6=>r p2 H6 s6 (SqL.of h6)⟩) (by rw [vst,List.length_map];omega) ?_ ?_ ?_
   ·intro y H6 hy s6 R r
    walk_at "rd"
    obtain ⟨l,_,rfl⟩:=List.mem_map.mp hy
    exact ⟨_,.inl (SqL.of (s6 _ _ hp)),rfl,UI acc,r H6 (.refl _)⟩
   ·intro y H6 hy hpy s6 R r
    walk_at "rd"
    exact r H6 (.refl _)
   ·intro D H6 hD s6 hd
    rw [List.map_id,Ya1] at hd
    refine ⟨D,rfl,_,s6 _ _ hp,_,hd,?_,fun p3 hp3=>⟨(sm.trans s6).trans (.upd_new hp3 _),Ye.trans ?_⟩⟩
    ·rw [vst,vst,List.length_map,List.length_map]
     have:=List.length_filter_le (fun x => !decide (x∈acc)) (nmu z)
     exact few (by omega)
    ·simp [vst]
  ·rintro σ' H' ⟨p,o,rfl,sm,hp⟩
   rw [hxl,List.take_length,← hnm] at hp
   exact hN _ _ ⟨p,o,rfl,s5.trans sm,hp⟩
def Vn (H:Hp):Nat→V→PyData→Prop
 | 0,_,_=>False
 | _+1,v,.none=>v = .non
 | _+1,v,.bool b=>v = .bl b
 | _+1,v,.int i=>v = .int i
 | _+1,v,.str x=>v = .str x
 | n+1,v,.tuple ds=>∃ (a:Addr) (vs:List V),v = .ref a∧H a=some (.tup vs)∧vs.length=ds.length∧ds.length≤3000∧∀ (i:Nat) v d,vs[i]?=some v→ds[i]?=some d→Vn H n v d
 | n+1,v,.list ds=>∃ (a:Addr) (vs:List V),v = .ref a∧H a=some (.lst vs)∧vs.length=ds.length∧ds.length≤3000∧∀ (i:Nat) v d,vs[i]?=some v→ds[i]?=some d→Vn H n v d
 | _+1,_,_=>False
theorem Vn.keep {H H':Hp} (t:Same H H'):∀ {n:Nat} {v:V} {d:PyData},Vn H n v d→Vn H' n v d
 | 0,_,_,h=>h
 | n+1,v,d,h=>by
  cases d<;>simp only [Vn] at h ⊢<;>first | exact h | skip
  all_goals
   obtain ⟨a,vs,h1,h2,h3,h4,h5⟩:=h
   exact ⟨a,vs,h1,t _ _ h2,h3,h4,fun i v d a b=>(h5 i v d a b).keep t⟩
theorem Vn.up {H:Hp}:∀ {n n':Nat} {v:V} {d:PyData},Vn H n v d→n≤n'→Vn H n' v d
 | n+1,0,_,_,_,hn=>by omega
 | n+1,n'+1,v,d,h,hn=>by
  cases d<;>simp only [Vn] at h ⊢<;>first | exact h | skip
  all_goals
   obtain ⟨a,vs,h1,h2,h3,h4,h5⟩:=h
   exact ⟨a,vs,h1,h2,h3,h4,fun i v d a b=>(h5 i v d a b).up (by omega)⟩
def Z0Q (K:PySem.W.Frag) (m:Nat):Sp:=fun vs H Q _=>∃ (v w:V) (d:PyData),vs=[v,w]∧Vn H m v d∧Vn H m w d∧∀ H',Same H H'→Q (.bl true) H'
theorem Yfx {K:PySem.W.Frag} {vs:List V} {H:Hp} {Q:VK} {E:XK} (h:Z0Q K 0 vs H Q E):False:=by
 obtain ⟨v,w,d,_,h,_⟩:=h
 exact h
theorem Ze {k:Nat} {Z1 Z2 Z3 Z6 Z4 Z5 Z0:Addr} (R:g.Raw "_law_same" "_law_same" Z37 ["_law_found","_law_due"]) (Z09:g.Fn k "_law_same" ["_law_found","_law_due"] (Z0Q g.K m)) (b_all:g.mg "all"=none) (b_bool:g.mg "bool"=none) (b_int:g.mg "int"=none) (Z8:g.mg "isinstance"=none) (b_len:g.mg "len"=none) (b_list:g.mg "list"=none) (b_str:g.mg "str"=none) (Za:g.mg "tuple"=none) (b_zip:g.mg "zip"=none):g.Fn (k+1) "_law_same" ["_law_found","_law_due"] (Z0Q g.K (m+1)):=by
 refine R.fn Ybf (fun vs H Q E h=>by obtain ⟨v,w,d,rfl,hv,hw,q⟩:=h;rfl) fun f_ cdv A outer s H vs Q E hr h=>?_
 obtain ⟨v,w,d,rfl,hv,hw,q⟩:=h
 refine ⟨_,(@Yc _ _ _ _ _ (@Yp _ _ _ _ _ _ _ _ (@Yk _ _ _ _ _ _ _ _ Q6 (pv 1) VU (Yo _)) (@Yd _ _ _ (@Yj _ _ _ _ (@XV _ _ _ _ _ _ _ _ Q6 (pv 0) VU (Yo _)))) Yi) (@Yc _ _ _ _ _ (@Yp _ _ _ _ _ _ _ _ (@YU _ _ _ (@YL _ _ _ _ _ _ _ _ _ _ Z8 V4 (@Ya _ _ _ _ _ (pv 1) (@Ya _ _ _ _ _ (@Yx _ _ _ _ _ (@Ya _ _ _ _ _ (@Xt _ _ _ _ ("list") b_list (by decide +kernel) (by rfl) (by rfl) (by decide) (by decide)) (@Ya _ _ _ _ _ (@Xt _ _ _ _ ("tuple") Za (by decide +kernel) (by rfl) (by rfl) (by decide) (by decide)) Yb (by rfl)) (by rfl))) Yb (YK _ _ _ _ _)) (by rfl)) (by decide +kernel) (by rfl) (by rfl) (by decide) (by decide) (by rfl) (by rfl)) (by intro _;rfl)) (@Yc _ _ _ _ _ (@Yp _ _ _ _ _ _ _ _ (@Uj _ _ _ _ _ _ _ (@Y7 _ _ _ _ (@YU _ _ _ (@YL _ _ _ _ _ _ _ _ _ _ Z8 V4 (@Ya _ _ _ _ _ (pv 0) (@Ya _ _ _ _ _ (@Yx _ _ _ _ _ (@Ya _ _ _ _ _ (@Xt _ _ _ _ ("list") b_list (by decide +kernel) (by rfl) (by rfl) (by decide) (by decide)) (@Ya _ _ _ _ _ (@Xt _ _ _ _ ("tuple") Za (by decide +kernel) (by rfl) (by rfl) (by decide) (by decide)) Yb (by rfl)) (by rfl))) Yb (YK _ _ _ _ _)) (by rfl)) (by decide +kernel) (by rfl) (by rfl) (by decide) (by decide) (by rfl) (by rfl)) (by intro _;rfl))) (@Vc _ _ _ _ (@Yk _ _ _ _ _ _ _ _ Uk (@YL _ _ _ _ _ _ _ _ _ _ Z8 Y2 (@Ya _ _ _ _ _ (pv 1) (@Ya _ _ _ _ _ (@Xt _ _ _ _ ("list") b_list (by decide +kernel) (by rfl) (by rfl) (by decide) (by decide)) Yb (by rfl)) (by rfl)) (by decide +kernel) (by rfl) (by rfl) (by decide) (by decide) (by rfl) (by rfl)) (@YL _ _ _ _ _ _ _ _ _ _ Z8 Y2 (@Ya _ _ _ _ _ (pv 0) (@Ya _ _ _ _ _ (@Xt _ _ _ _ ("list") b_list (by decide +kernel) (by rfl) (by rfl) (by decide) (by decide)) Yb (by rfl)) (by rfl)) (by decide +kernel) (by rfl) (by rfl) (by decide) (by decide) (by rfl) (by rfl)) (Yo _)))).pt (@Yd _ _ _ (@Yj _ _ _ _ X6)) Yi) (@Yd _ _ _ (@Yj _ _ _ _ (@X2 _ _ _ _ _ _ _ (@XV _ _ _ _ _ _ _ _ YF (@YL _ _ _ _ _ _ _ _ _ _ b_len YW (@Ya _ _ _ _ _ (pv 0) Yb (by rfl)) (by decide +kernel) (by rfl) (by rfl) (by decide) (by decide) (by rfl) (by rfl)) (@YL _ _ _ _ _ _ _ _ _ _ b_len YW (@Ya _ _ _ _ _ (pv 1) Yb (by rfl)) (by decide +kernel) (by rfl) (by rfl) (by decide) (by decide) (by rfl) (by rfl)) (Yo _)) (@X1 _ _ _ _ _ (@YL _ _ _ _ _ _ _ _ _ _ b_all (XX rfl) (@Ya _ _ _ _ _ (@XG _ _ _ _ _ _ _ ([none,none]) ((["_law_one","_law_other"]:List Str)) _ (XA g.K 2 (YQ (Ys 0) (YQ (Ys 1) Xz))) _ _ (.own (.own .nil)) rfl (@pi_or _ _ _ _ _ (@Ye5 _ _ _ _ _ _ _ _ _ rfl b_zip (@Ya _ _ _ _ _ (pv 0) (@Ya _ _ _ _ _ (pv 1) Yb (by rfl)) (by rfl)) (by rfl) (by rfl)) (@Ye4 _ _ _ _ _ _ _ _ _ rfl b_zip (@Ya _ _ _ _ _ (pv 0) (@Ya _ _ _ _ _ (pv 1) Yb (by rfl)) (by rfl)) (by rfl) (by rfl))) (fun cl C s₀ H₀ fp pn=>(@Xq _ _ _ _ _ (2) rfl (@YJ _ _ _ _ _ (@Yq _ _ (0) _ (show List.Nodup (["_law_one","_law_other"]:List Str) by decide +kernel) rfl (.inl rfl) (.inr rfl)) (@YJ _ _ _ _ _ (@Yq _ _ (1) _ (show List.Nodup (["_law_one","_law_other"]:List Str) by decide +kernel) rfl (.inl rfl) (.inr rfl)) Xf (by rfl)) (by rfl)) (by rfl) (by rfl))) (fun cl C s₀ H₀ fp pn=>Y0) (fun cl C s₀ H₀ fp pn=>(@YE _ _ _ _ _ _ _ _ _ _ _ _ Z09 hr (@Ya _ _ _ _ _ (pv 0) (@Ya _ _ _ _ _ (pv 1) Yb (by rfl)) (by rfl)) (by omega) (by rfl) (by rfl) (by decide) (by rfl) (by rfl))) (by intro x hx;simp at hx) (by rfl) (by decide) (by decide +kernel) (by intro _;rfl)) Yb (by rfl)) (by decide +kernel) (by rfl) (by rfl) (by decide) (by decide) (by rfl) (by rfl))))))) Yi) (@Yc _ _ _ _ _ (@Yp _ _ _ _ _ _ _ _ (@Uj _ _ _ _ _ _ _ (@YU _ _ _ (@YL _ _ _ _ _ _ _ _ _ _ Z8 Y2 (@Ya _ _ _ _ _ (pv 1) (@Ya _ _ _ _ _ (@Xt _ _ _ _ ("bool") b_bool (by decide +kernel) (by rfl) (by rfl) (by decide) (by decide)) Yb (by rfl)) (by rfl)) (by decide +kernel) (by rfl) (by rfl) (by decide) (by decide) (by rfl) (by rfl)) (by intro _;rfl)) (@Vc _ _ _ _ (@YU _ _ _ (@YL _ _ _ _ _ _ _ _ _ _ Z8 Y2 (@Ya _ _ _ _ _ (pv 0) (@Ya _ _ _ _ _ (@Xt _ _ _ _ ("bool") b_bool (by decide +kernel) (by rfl) (by rfl) (by decide) (by decide)) Yb (by rfl)) (by rfl)) (by decide +kernel) (by rfl) (by rfl) (by decide) (by decide) (by rfl) (by rfl)) (by intro _;rfl)))).pt (@Yd _ _ _ (@Yj _ _ _ _ (@X2 _ _ _ _ _ _ _ (@YL _ _ _ _ _ _ _ _ _ _ Z8 Y2 (@Ya _ _ _ _ _ (pv 1) (@Ya _ _ _ _ _ (@Xt _ _ _ _ ("bool") b_bool (by decide +kernel) (by rfl) (by rfl) (by decide) (by decide)) Yb (by rfl)) (by rfl)) (by decide +kernel) (by rfl) (by rfl) (by decide) (by decide) (by rfl) (by rfl)) (@X2 _ _ _ _ _ _ _ (@YL _ _ _ _ _ _ _ _ _ _ Z8 Y2 (@Ya _ _ _ _ _ (pv 0) (@Ya _ _ _ _ _ (@Xt _ _ _ _ ("bool") b_bool (by decide +kernel) (by rfl) (by rfl) (by decide) (by decide)) Yb (by rfl)) (by rfl)) (by decide +kernel) (by rfl) (by rfl) (by decide) (by decide) (by rfl) (by rfl)) (@X1 _ _ _ _ _ (@XV _ _ _ _ _ _ _ _ YF (pv 0) (pv 1) (Yo _))))))) Yi) (@Yc _ _ _ _ _ (@Yp _ _ _ _ _ _ _ _ (@YU _ _ _ (@YL _ _ _ _ _ _ _ _ _ _ Z8 Y2 (@Ya _ _ _ _ _ (pv 1) (@Ya _ _ _ _ _ (@Xt _ _ _ _ ("int") b_int (by decide +kernel) (by rfl) (by rfl) (by decide) (by decide)) Yb (by rfl)) (by rfl)) (by decide +kernel) (by rfl) (by rfl) (by decide) (by decide) (by rfl) (by rfl)) (by intro _;rfl)) (@Yd _ _ _ (@Yj _ _ _ _ (@X2 _ _ _ _ _ _ _ (@YL _ _ _ _ _ _ _ _ _ _ Z8 Y2 (@Ya _ _ _ _ _ (pv 0) (@Ya _ _ _ _ _ (@Xt _ _ _ _ ("int") b_int (by decide +kernel) (by rfl) (by rfl) (by decide) (by decide)) Yb (by rfl)) (by rfl)) (by decide +kernel) (by rfl) (by rfl) (by decide) (by decide) (by rfl) (by rfl)) (@X1 _ _ _ _ _ (@XV _ _ _ _ _ _ _ _ YF (pv 0) (pv 1) (Yo _)))))) Yi) (@Yd _ _ _ (@Yj _ _ _ _ (@X2 _ _ _ _ _ _ _ (@YL _ _ _ _ _ _ _ _ _ _ Z8 Y2 (@Ya _ _ _ _ _ (pv 0) (@Ya _ _ _ _ _ (@Xt _ _ _ _ ("str") b_str (by decide +kernel) (by rfl) (by rfl) (by decide) (by decide)) Yb (by rfl)) (by rfl)) (by decide +kernel) (by rfl) (by rfl) (by decide) (by decide) (by rfl) (by rfl)) (@X2 _ _ _ _ _ _ _ (@YL _ _ _ _ _ _ _ _ _ _ Z8 Y2 (@Ya _ _ _ _ _ (pv 1) (@Ya _ _ _ _ _ (@Xt _ _ _ _ ("str") b_str (by decide +kernel) (by rfl) (by rfl) (by decide) (by decide)) Yb (by rfl)) (by rfl)) (by decide +kernel) (by rfl) (by rfl) (by decide) (by decide) (by rfl) (by rfl)) (@X1 _ _ _ _ _ (@XV _ _ _ _ _ _ _ _ YF (pv 0) (pv 1) (Yo _))))))))))),?_⟩
 refine Y9 (fun σ H'=>σ=[some v,some w]∧H'=H∧d ≠ .none) ?_ ?_
 rotate_left
 ·intro N hN
  walk_at "rd"
  refine YG (fun c=>?_) fun c=>hN _ _ ⟨rfl,rfl,fun z=>?_⟩
  ·subst c
   have hd:d = .none:=by
    cases d<;>simp only [Vn] at hw<;>first | rfl | (cases hw;done) | (obtain ⟨_,_,e,_⟩:=hw;cases e) | exact hw.elim
   subst hd
   have hv':v = .non:=hv
   rw [decide_eq_true hv']
   exact q H (.refl _)
  ·subst z
   exact c hw
 rintro σ H0 ⟨rfl,e0,hd⟩
 subst e0
 refine Y9 (fun σ H'=>σ=[some v,some w]∧Same H0 H'∧((∃ b,v = .bl b∧w = .bl b)∨(∃ b,v = .int b∧w = .int b)∨∃ b,v = .str b∧w = .str b)) ?_ ?_
 ·rintro σ H1 ⟨rfl,s1,hvw⟩
  walk_at "rd"
  rcases hvw with ⟨b,rfl,rfl⟩ | ⟨b,rfl,rfl⟩ | ⟨b,rfl,rfl⟩
  ·exact ⟨_,rfl,_,.bl b,true,rfl,Wa ⟨_,rfl,_,.bl b,true,rfl,Wa ⟨_,rfl,_,.bl b,true,rfl,Wa ⟨by cases b<;>rfl,by rw [decide_eq_true rfl];exact q _ s1⟩⟩⟩⟩
  ·exact ⟨_,rfl,_,.int b,false,rfl,YH (by decide) ⟨_,rfl,_,.int b,false,rfl,YH (by decide) ⟨_,rfl,_,.int b,true,rfl,Wa ⟨_,rfl,_,.int b,true,rfl,Wa ⟨rfl,by rw [decide_eq_true rfl];exact q _ s1⟩⟩⟩⟩⟩
  ·exact ⟨_,rfl,_,.str b,false,rfl,YH (by decide) ⟨_,rfl,_,.str b,false,rfl,YH (by decide) ⟨_,rfl,_,.str b,false,rfl,YH (by decide) ⟨_,rfl,_,.str b,true,rfl,Wa ⟨_,rfl,_,.str b,true,rfl,Wa ⟨rfl,by rw [decide_eq_true rfl];exact q _ s1⟩⟩⟩⟩⟩⟩
 ·intro N hN
  walk_at "rd"
  refine ⟨few (by decide),fun p hp=>⟨["list","tuple"],Ye,?_⟩⟩
  have u1:=Same.upd_new hp (.tup [V.ty "list",V.ty "tuple"])
  cases d<;>simp only [Vn] at hv hw
  case none=>exact (hd rfl).elim
  case bool b =>
   subst hv hw
   exact ⟨_,.bl b,false,rfl,YH (by decide) (hN _ _ ⟨rfl,u1,.inl ⟨b,rfl,rfl⟩⟩)⟩
  case int b =>
   subst hv hw
   exact ⟨_,.int b,false,rfl,YH (by decide) (hN _ _ ⟨rfl,u1,.inr (.inl ⟨b,rfl,rfl⟩)⟩)⟩
  case str b =>
   subst hv hw
   exact ⟨_,.str b,false,rfl,YH (by decide) (hN _ _ ⟨rfl,u1,.inr (.inr ⟨b,rfl,rfl⟩)⟩)⟩
  case tuple ds =>
   obtain ⟨a,vs,rfl,ha,hvl,hd,hvs⟩:=hv
   obtain ⟨b,ws,rfl,hb,hwl,_,hws⟩:=hw
   refine ⟨_,.tup (u1 _ _ hb),true,rfl,Wa ⟨few (by decide),fun p1 hp1=>⟨["list","tuple"],Ye,?_⟩⟩⟩
   have u2:=u1.trans (Same.upd_new hp1 (.tup [V.ty "list",V.ty "tuple"]))
   refine ⟨_,.tup (u2 _ _ ha),true,rfl,YH (by decide) ⟨_,rfl,_,.tup (u2 _ _ hb),false,rfl,_,rfl,_,.tup (u2 _ _ ha),false,rfl,rfl,YH (by decide) ?_⟩⟩
   refine ⟨a,rfl,_,.inr (SqT.of (u2 _ _ ha)),b,rfl,_,.inr (SqT.of (u2 _ _ hb)),Xb (by rw [hvl,hwl]) (.inr (Yd0 (K:=g.K) (xs:=vs) (ys:=ws) (a:=a) (b:=b) ((List.replicate vs.length true).map V.bl) (fun R r=>by walk_at "rd";exact r) (SqT.of (u2 _ _ ha)) (SqT.of (u2 _ _ hb)) (by rw [hvl,hwl]) (by simp) (by omega) ?_ ?_))⟩
   ·intro i x y z H' hx hy hz sm R r
    have hi:i<ds.length:=by rw [← hvl];exact (List.getElem?_eq_some_iff.mp hx).1
    have hdi:ds[i]?=some ds[i]:=List.getElem?_eq_getElem hi
    have hz':V.bl true=z:=by
     rw [List.getElem?_map,List.getElem?_replicate,if_pos (by omega)] at hz
     exact Option.some.inj hz
    subst hz'
    walk_at "rd"
    exact ⟨x,y,ds[i],rfl,(hvs i x _ hx hdi).keep (u2.trans sm),(hws i y _ hy hdi).keep (u2.trans sm),fun H'' s''=>r H'' s''⟩
   ·intro D H' hD sm hd'
    refine ⟨D,rfl,List.replicate vs.length true,SqL.of hd',?_⟩
    rw [show (List.replicate vs.length true).all id=true by simp]
    exact q H' (u2.trans sm)
  case list ds =>
   obtain ⟨a,vs,rfl,ha,hvl,hd,hvs⟩:=hv
   obtain ⟨b,ws,rfl,hb,hwl,_,hws⟩:=hw
   refine ⟨_,.lst (u1 _ _ hb),true,rfl,Wa ⟨few (by decide),fun p1 hp1=>⟨["list","tuple"],Ye,?_⟩⟩⟩
   have u2:=u1.trans (Same.upd_new hp1 (.tup [V.ty "list",V.ty "tuple"]))
   refine ⟨_,.lst (u2 _ _ ha),true,rfl,YH (by decide) ⟨_,rfl,_,.lst (u2 _ _ hb),true,rfl,_,rfl,_,.lst (u2 _ _ ha),true,rfl,rfl,YH (by decide) ?_⟩⟩
   refine ⟨a,rfl,_,.inl (SqL.of (u2 _ _ ha)),b,rfl,_,.inl (SqL.of (u2 _ _ hb)),Xb (by rw [hvl,hwl]) (.inl (Yd1 (K:=g.K) (xs:=vs) (ys:=ws) (a:=a) (b:=b) ((List.replicate vs.length true).map V.bl) (fun R r=>by walk_at "rd";exact r) (SqL.of (u2 _ _ ha)) (SqL.of (u2 _ _ hb)) (by rw [hvl,hwl]) (by simp) (by omega) ?_ ?_))⟩
   ·intro i x y z H' hx hy hz sm R r
    have hi:i<ds.length:=by rw [← hvl];exact (List.getElem?_eq_some_iff.mp hx).1
    have hdi:ds[i]?=some ds[i]:=List.getElem?_eq_getElem hi
    have hz':V.bl true=z:=by
     rw [List.getElem?_map,List.getElem?_replicate,if_pos (by omega)] at hz
     exact Option.some.inj hz
    subst hz'
    walk_at "rd"
    exact ⟨x,y,ds[i],rfl,(hvs i x _ hx hdi).keep (u2.trans sm),(hws i y _ hy hdi).keep (u2.trans sm),fun H'' s''=>r H'' s''⟩
   ·intro D H' hD sm hd'
    refine ⟨D,rfl,List.replicate vs.length true,SqL.of hd',?_⟩
    rw [show (List.replicate vs.length true).all id=true by simp]
    exact q H' (u2.trans sm)
  all_goals exact hv.elim
theorem Ycv:∀ s:Sh,dp s≤bd s∧True:=fun s=>⟨by
 have key:∀ n,∀ s:Sh,dp s≤n→dp s≤bd s:=fun n=>by
  induction n with
  | zero=>intro s h;omega
  | succ n ih =>
   intro s h
   have kk:∀ ks:Kids,dps ks≤n→dps ks≤bds ks:=fun ks=>by
    induction ks using Kids.rec (motive_1:=fun _=>True) with
    | nil=>intro _;exact Nat.le_refl _
    | cons l s r _ ih2 =>
     intro h
     simp only [dps,bds] at h ⊢
     have h1:=ih s (by omega)
     have h2:=ih2 (by omega)
     omega
    | _=>trivial
   cases s with
   | row ks=>simp only [dp,bd] at h ⊢;have:=kk ks (by omega);omega
   | pick ks=>simp only [dp,bd] at h ⊢;have:=kk ks (by omega);omega
   | one m s=>simp only [dp,bd] at h ⊢;have:=ih s (by omega);omega
   | alike s t=>simp only [dp,bd] at h ⊢;have:=ih s (by omega);omega
   | _=>simp only [dp];omega
 exact key _ s (Nat.le_refl _),trivial⟩
mutual
def dt:Sh→PyData
 | .use w => .tuple [.str (ms .use),.str (S w)]
 | .whole i j => .tuple [.str (ms .whole),.int i,.int j]
 | .text w => .tuple [.str (ms .text),.str (S w)]
 | .row ks => .tuple [.str (ms .row),.tuple (dtR ks)]
 | .pick ks => .tuple [.str (ms .pick),.tuple (dtP ks)]
 | .one m s => .tuple [.str (ms m),dt s]
 | .alike s t => .tuple [.str (ms .alike),dt s,.int (t:Nat)]
def dtR:Kids→List PyData
 | .nil=>[]
 | .cons _ s r=>dt s::dtR r
def dtP:Kids→List PyData
 | .nil=>[]
 | .cons l s r => .tuple [.str (S l),dt s]::dtP r
end
theorem Ya3:∀ ks:Kids,dtR ks=ks.list.map fun p=>dt p.2
 | .nil=>rfl
 | .cons l s r=>by rw [dtR,Ya3 r];rfl
theorem Ya4:∀ ks:Kids,dtP ks=ks.list.map fun p => .tuple [.str (S p.1),dt p.2]
 | .nil=>rfl
 | .cons l s r=>by rw [dtP,Ya4 r];rfl
theorem vn2 {H:Hp} {n:Nat} {a:Addr} {x y:V} {d e:PyData} (h:H a=some (.tup [x,y])) (h1:Vn H n x d) (h2:Vn H n y e):Vn H (n+1) (.ref a) (.tuple [d,e]):=by
 refine ⟨a,_,rfl,h,rfl,by simp,fun i v d' a b=>?_⟩
 match i with
 | 0=>cases a;cases b;exact h1
 | 1=>cases a;cases b;exact h2
 | i+2=>simp at a
theorem vn3 {H:Hp} {n:Nat} {a:Addr} {x y z:V} {d e f:PyData} (h:H a=some (.tup [x,y,z])) (h1:Vn H n x d) (h2:Vn H n y e) (h3:Vn H n z f):Vn H (n+1) (.ref a) (.tuple [d,e,f]):=by
 refine ⟨a,_,rfl,h,rfl,by simp,fun i v d' a b=>?_⟩
 match i with
 | 0=>cases a;cases b;exact h1
 | 1=>cases a;cases b;exact h2
 | 2=>cases a;cases b;exact h3
 | i+3=>simp at a
theorem SA.vn {H:Hp}:∀ {n:Nat} {s:Sh} {v:V},SA H s v→Gd s→dp s≤n→Vn H (3*n+2) v (dt s):=fun {n s v} hs hg hd=>by
 induction n generalizing s v with
 | zero =>
  cases s with
  | use w=>obtain ⟨a,rfl,h⟩:=hs;exact vn2 h rfl rfl
  | whole i j=>obtain ⟨a,rfl,h⟩:=hs;exact vn3 h rfl rfl rfl
  | text w=>obtain ⟨a,rfl,h⟩:=hs;exact vn2 h rfl rfl
  | _=>simp only [dp] at hd;omega
 | succ n ih =>
  have e:3*(n+1)+2=3*n+2+1+1+1:=by omega
  rw [e]
  cases s with
  | use w=>obtain ⟨a,rfl,h⟩:=hs;exact vn2 h rfl rfl
  | whole i j=>obtain ⟨a,rfl,h⟩:=hs;exact vn3 h rfl rfl rfl
  | text w=>obtain ⟨a,rfl,h⟩:=hs;exact vn2 h rfl rfl
  | row ks =>
   obtain ⟨a,b,us,rfl,h,hb,hk⟩:=hs
   obtain ⟨k1,k2⟩:=KA.iff.mp hk
   simp only [dp] at hd
   refine vn2 h rfl ?_
   rw [Ya3]
   refine ⟨b,us,rfl,hb,by rw [List.length_map,k1],by rw [List.length_map];have:=hg.1;omega,fun i v d a b=>?_⟩
   rw [List.getElem?_map] at b
   obtain ⟨p,hp,rfl⟩:=Option.map_eq_some_iff.mp b
   have hm:=List.mem_of_getElem? hp
   exact (ih (k2 i v p a hp) (hg.2.mem hm).2 (by have:=U5 hm;omega)).up (by omega)
  | pick ks =>
   obtain ⟨a,b,us,rfl,h,hb,hk⟩:=hs
   obtain ⟨k1,k2⟩:=KB.iff.mp hk
   simp only [dp] at hd
   refine vn2 h rfl ?_
   rw [Ya4]
   refine ⟨b,us,rfl,hb,by rw [List.length_map,k1],by rw [List.length_map];have:=hg.2.1;omega,fun i v d a b=>?_⟩
   rw [List.getElem?_map] at b
   obtain ⟨p,hp,rfl⟩:=Option.map_eq_some_iff.mp b
   have hm:=List.mem_of_getElem? hp
   obtain ⟨c,w,rfl,h1,h2⟩:=k2 i v p a hp
   exact vn2 h1 rfl (ih h2 (hg.2.2.mem hm).2 (by have:=U5 hm;omega))
  | one m s =>
   obtain ⟨a,w,rfl,h,hw⟩:=hs
   simp only [dp] at hd
   exact vn2 h rfl ((ih hw hg.2 (by omega)).up (by omega))
  | alike s t =>
   obtain ⟨a,w,rfl,h,hw⟩:=hs
   simp only [dp] at hd
   exact vn3 h rfl ((ih hw hg.2.2 (by omega)).up (by omega)) rfl
theorem YdD {H:Hp} {p:Addr} {l:List (List Nat)} {n:Nat} (h:H p=some (.lst (vst l))) (hl:l.length≤3000):Vn H (n+2) (.ref p) (.list (l.map fun x => .str (S x))):=by
 refine ⟨p,_,rfl,h,by simp [vst],by simpa using hl,fun i v d a b=>?_⟩
 rw [vst,List.getElem?_map] at a
 rw [List.getElem?_map] at b
 obtain ⟨x,hx,rfl⟩:=Option.map_eq_some_iff.mp a
 rw [hx] at b
 cases b
 rfl
theorem Qq {c:Nat} (h:Rd.isSmall c=true):c≠10∧c≠61:=by
 simp [Rd.isSmall] at h
 omega
theorem ws10 {c:Nat} (h:Rd.isWS c=true):c≠10:=by
 rintro rfl
 exact absurd h (by decide)
theorem YdE {l w:List Nat} (hl:Rd.okL l) (hw:Rd.okW w):10∉Rd.head l w:=fun h=>by
 unfold Rd.head at h
 split at h
 ·exact ws10 (hw.2.2 _ h) rfl
 ·rcases List.mem_append.mp h with h | h
  ·exact (Qq (hl.2 _ h)).1 rfl
  ·rcases List.mem_cons.mp h with h | h
   ·exact absurd h (by decide)
   ·exact ws10 (hw.2.2 _ h) rfl
mutual
theorem Ycw:∀ {n:Rd.Note} {d:Nat},Rd.Ok d n→10∉Rd.txt n
 | .leaf l w,d,h=>by
  have h':Rd.okL l∧Rd.okW w:=by cases d<;>exact h
  exact YdE h'.1 h'.2
 | .node l w ks,0,h=>h.elim
 | .node l w ks,d+1,h=>fun z=>by
  rw [Rd.txt] at z
  rcases List.mem_append.mp z with z | z
  ·exact YdE h.1 h.2.1 z
  ·rcases List.mem_cons.mp z with z | z
   ·exact absurd z (by decide)
   ·rcases List.mem_append.mp z with z | z
    ·exact YdF h.2.2 z
    ·simp at z
theorem YdF:∀ {ks:Rd.Notes} {d:Nat},Rd.Oks d ks→10∉Rd.txts ks
 | .nil,d,_=>fun z=>by simp [Rd.txts] at z
 | .cons n .nil,d,h=>fun z=>by
  rw [Rd.txts] at z
  exact Ycw h.1 z
 | .cons n (.cons m r),d,h=>fun z=>by
  rw [Rd.txts] at z
  rcases List.mem_append.mp z with z | z
  ·exact Ycw h.1 z
  ·rcases List.mem_cons.mp z with z | z
   ·exact absurd z (by decide)
   ·exact YdF (ks := .cons m r) h.2 z
end
theorem tt10 {s:Sh} (hg:Gd s) (hb:bd s≤6):10∉tt s:=Ycw (Ur s [] 6 hg Wq hb)
theorem lab10 {l:List Nat} (h:Rd.labOk l=true):10∉l∧61∉l:=by
 have:=(XO h).2
 exact ⟨fun z=>(Qq (this _ z)).1 rfl,fun z=>(Qq (this _ z)).2 rfl⟩
structure BkL (ls:List (List Nat)) (bk:List (List Nat×Sh)):Prop where
 nm:bk.map (·.1)=ls
 sh:∀ p∈bk,BSh ls p.2
structure LsOk (ls:List (List Nat)):Prop where
 l1:1≤ls.length
 l8:ls.length≤8
 lab:∀ l∈ls,Rd.labOk l=true
 nd:ls.Nodup
section
 variable {ls:List (List Nat)} {bk:List (List Nat×Sh)} (o:LsOk ls) (b:BkL ls bk)
 include o b
theorem Ug:bk.length=ls.length:=by rw [← b.nm,List.length_map]
theorem Uh {p:List Nat×Sh} (h:p∈bk):p.1∈ls:=by rw [← b.nm];exact List.mem_map.mpr ⟨p,h,rfl⟩
theorem bl_ok:UE bk:=⟨by have:=Ug o b;have:=o.l8;omega,fun p hp=>by
 have h:=b.sh p hp
 have:=(Ycv p.2).1
 have:=h.bd
 exact ⟨h.gd,by omega,YaJ (by omega) h.gd⟩⟩
theorem Ya5 {p:List Nat×Sh} (h:p∈bk):aft (p.1++61::tt p.2)=tt p.2∧Wd (p.1++61::tt p.2)=p.1∧VJ (p.1++61::tt p.2)∧pdr (p.1++61::tt p.2)=some p∧10∉p.1++61::tt p.2:=by
 have hl:=o.lab _ (Uh o b h)
 have hs:=b.sh p h
 obtain ⟨h1,h2⟩:=lab10 hl
 obtain ⟨d1,d2⟩:=Yfo hs.gd hs.bd
 have e1:aft (p.1++61::tt p.2)=tt p.2:=YaO h2
 have e2:Wd (p.1++61::tt p.2)=p.1:=YbP h2
 refine ⟨e1,e2,⟨by rw [e1];have:=hs.len;omega,by rw [e1];exact d2⟩,?_,fun z=>?_⟩
 ·rw [pdr,if_pos ⟨by simp,by rw [e2];exact hl⟩,e1,e2,d1]
  rfl
 ·rcases List.mem_append.mp z with z | z
  ·exact h1 z
  ·rcases List.mem_cons.mp z with z | z
   ·exact absurd z (by decide)
   ·exact tt10 hs.gd hs.bd z
theorem Ygg:spl (YM [10] (bkT bk))=bkT bk:=by
 refine UF (fun z=>?_) fun r hr=>?_
 ·have h0:(bkT bk).length=0:=by rw [z];rfl
  rw [bkT,List.length_map] at h0
  have:=Ug o b
  have:=o.l1
  omega
 ·obtain ⟨p,hp,rfl⟩:=List.mem_map.mp hr
  exact (Ya5 o b hp).2.2.2.2
theorem bl_cr:VN (bkT bk):=⟨by rw [bkT,List.length_map,Ug o b];exact o.l8,fun r hr=>by
 obtain ⟨p,hp,rfl⟩:=List.mem_map.mp hr
 exact (Ya5 o b hp).2.2.1⟩
theorem YbW:∀ {b':List (List Nat×Sh)},(∀ p∈b',pdr (p.1++61::tt p.2)=some p)→bkd (bkT b')=some b'
 | [],_=>rfl
 | p::r,h=>by
  have e:=YbW (b':=r) fun q hq=>h q (.tail _ hq)
  show bkd ((p.1++61::tt p.2)::bkT r)=_
  rw [bkd,h p (.head _),e]
theorem Ygh:bkd (bkT bk)=some bk:=YbW o b fun p hp=>(Ya5 o b hp).2.2.2.1
theorem bl_2:Bk2 bk:=⟨fun p hp=>(b.sh p hp).ap,by rw [b.nm];exact o.nd⟩
theorem bl_rg:∀ p∈bk,Range p.2:=fun p hp=>(b.sh p hp).rg
theorem Yfy {x:List Nat} (h:x∈ls):Y4 bk x≠none:=by
 rw [← b.nm] at h
 obtain ⟨p,hp,rfl⟩:=List.mem_map.mp h
 exact W4 hp
theorem bl_nm:W3 bk:=fun p hp x hx=>Yfy o b ((b.sh p hp).nm x hx)
theorem bl_lb (x:List Nat) (n:Nat) (r:List Nat):lb bk x n r=false:=by
 cases n with
 | zero=>rfl
 | succ n =>
  rw [lb]
  split
  ·rename_i w e
   have:=(b.sh _ (Uf e)).nu
   cases this
  ·rfl
theorem Yfz:Vm bk=[]:=by
 unfold Vm
 have:(bk.filter fun p=>lb bk p.1 bk.length p.1)=[]:=by
  rw [List.filter_eq_nil_iff]
  intro p hp
  rw [bl_lb o b]
  decide
 rw [this]
 rfl
theorem YfA:(YM [10] (bkT bk)).length≤2000:=by
 have h1:=UG 10 (bkT bk)
 have key:∀ b':List (List Nat×Sh),(∀ p∈b',p.1.length≤8∧(tt p.2).length≤200)→((bkT b').map List.length).sum≤209*b'.length:=fun b' h=>by
  induction b' with
  | nil=>simp [bkT]
  | cons p r ih =>
   have g1:=h p (.head _)
   have g2:=ih fun q hq=>h q (.tail _ hq)
   have e:(bkT (p::r)).map List.length=(p.1++61::tt p.2).length::(bkT r).map List.length:=rfl
   rw [e,List.sum_cons,List.length_append,List.length_cons,List.length_cons]
   omega
 have h2:=key bk fun p hp=>⟨(XO (o.lab _ (Uh o b hp))).1,(b.sh p hp).len⟩
 have h3:(bkT bk).length=bk.length:=by rw [bkT,List.length_map]
 have h4:=Ug o b
 have h5:=o.l8
 omega
theorem YfB {p:List Nat×Sh} (h:p∈bk):Y4 bk p.1=some p.2:=by
 have nd:(bk.map (·.1)).Nodup:=by rw [b.nm];exact o.nd
 clear b
 induction bk with
 | nil=>cases h
 | cons q r ih =>
  rw [List.map_cons,List.nodup_cons] at nd
  rcases List.mem_cons.mp h with rfl | h
  ·show Y4 ((p.1,p.2)::r) p.1=_
   rw [Y4,if_pos rfl]
  ·show Y4 ((q.1,q.2)::r) p.1=_
   rw [Y4,if_neg (fun z=>nd.1 (by rw [z];exact List.mem_map.mpr ⟨p,h,rfl⟩))]
   exact ih h nd.2
end
def bkD (bk:List (List Nat×Sh)):PyData := .list (bk.map fun p => .tuple [.str (S p.1),dt p.2])
theorem Xn.vn {H:Hp} {B:Addr} {bk:List (List Nat×Sh)} (h:Xn H B bk) (hg:∀ p∈bk,Gd p.2∧dp p.2≤6) (hl:bk.length≤3000):Vn H 25 (.ref B) (bkD bk):=by
 obtain ⟨us,h1,h2,h3⟩:=h
 refine Vn.up (n:=22) ⟨B,us,rfl,h1,by rw [List.length_map];exact h2,by rw [List.length_map];exact hl,fun i v d a e=>?_⟩ (by decide)
 rw [List.getElem?_map] at e
 obtain ⟨p,hp,rfl⟩:=Option.map_eq_some_iff.mp e
 obtain ⟨b,w,rfl,h4,h5⟩:=h3 i v p a hp
 have hm:=hg p (List.mem_of_getElem? hp)
 exact vn2 h4 rfl (h5.vn (n:=6) hm.1 hm.2)
theorem YbX {α:Type} [DecidableEq α]:∀ {l l':List α},l.Nodup→(∀ x∈l,x∈l')→l.length≤l'.length
 | [],_,_,_=>Nat.zero_le _
 | a::l,l',hn,h=>by
  have ha:=h a (.head _)
  rw [List.nodup_cons] at hn
  have:=YbX (l:=l) (l':=l'.erase a) hn.2 fun x hx=>by
   have hne:x≠a:=fun z=>hn.1 (z▸hx)
   exact (List.mem_erase_of_ne hne).mpr (h x (.tail _ hx))
  rw [List.length_erase_of_mem ha] at this
  have:=List.length_pos_of_mem ha
  rw [List.length_cons]
  omega
def Z2Y (K:PySem.W.Frag):Sp:=fun vs H Q _=>∃ (B:Addr) (bk:List (List Nat×Sh)) (x:List Nat),vs=[.ref B,.str (S x)]∧Xn H B bk∧bk.length≤1000∧Y4 bk x=none∧∀ H',Same H H'→Q (.bl true) H'
theorem Z53 {k:Nat} {Z1 Z2 Z3 Z6 Z4 Z5 Z0:Addr} (R:g.Raw "_law_no_name" "_law_no_name" Z1Q ["_law_book","_law_name"]) (Z0v:g.FnX k "shape_of" ["book","name"] (Z0P Z5)) (Z0D:g.mg "ValueError"=none) (Z8:g.mg "isinstance"=none) (x_CountError:g.mg "CountError"=some (.ref Z1)) (x_NoName:g.mg "NoName"=some (.ref Z5)) (t_NoName:ExcT g.K Z5) (i_NoName_CountError:PySem.W.kitOne g.K (.ref Z5) (.ref Z1)=some true) (i_NoName_ValueError:PySem.W.kitOne g.K (.ref Z5) (.type "ValueError")=some true) (m_NoName_NoName:PySem.W.exmOne g.K (.ref Z5) (.ref Z5)=some true):g.Fn (k+1) "_law_no_name" ["_law_book","_law_name"] (Z2Y g.K):=by
 refine R.fn Z2Q (fun vs H Q E h=>by obtain ⟨B,bk,x,rfl,hB,hl,hn,q⟩:=h;rfl) fun f_ cdv A outer s H vs Q E hr h=>?_
 obtain ⟨B,bk,x,rfl,hB,hl,hn,q⟩:=h
 refine ⟨_,(@Yc _ _ _ _ _ (@Yff _ _ _ _ (2) _ _ _ _ _ _ _ _ _ _ _ _ _ _ _ _ _ _ Z0v hr Z2Q.nd rfl rfl (@Ya _ _ _ _ _ (pv 0) (@Ya _ _ _ _ _ (pv 1) Yb (by rfl)) (by rfl)) x_NoName (fun _=>(@Yd _ _ _ (@Yj _ _ _ _ (@X2 _ _ _ _ _ _ _ (@YL _ _ _ _ _ _ _ _ _ _ Z8 (VR (K:=g.K) t_NoName) (@Ya _ _ _ _ _ (pv 2) (@Ya _ _ _ _ _ (@YfZ _ _ _ _ _ x_CountError (by rfl) (by rfl) (by decide)) Yb (by rfl)) (by rfl)) (by decide +kernel) (by rfl) (by rfl) (by decide) (by decide) (by rfl) (by rfl)) (@X1 _ _ _ _ _ (@YL _ _ _ _ _ _ _ _ _ _ Z8 (VR (K:=g.K) t_NoName) (@Ya _ _ _ _ _ (pv 2) (@Ya _ _ _ _ _ (@Xt _ _ _ _ ("ValueError") Z0D (by decide +kernel) (by rfl) (by rfl) (by decide) (by decide)) Yb (by rfl)) (by rfl)) (by decide +kernel) (by rfl) (by rfl) (by decide) (by decide) (by rfl) (by rfl))))))) (by omega) (by rfl) (by rfl) (by rfl) (by rfl) (by rfl) (by decide) (by decide) (by rfl) (by rfl) (by rfl)) (@Yd _ _ _ (@Yj _ _ _ _ X6))),?_⟩
 walk_at "rd"
 unfold YeC
 walk_at "rd"
 refine ⟨B,bk,x,rfl,hB,hl,fun s v e _=>(by rw [hn] at e;cases e),fun _=>⟨m_NoName_NoName,fun a ha=>?_⟩⟩
 walk_at "rd"
 have hE:upd H a (WT a (.ref Z5)) a=some (WT a (.ref Z5)):=Ye
 exact ⟨_,rfl,hE,true,i_NoName_CountError,Xb rfl ⟨_,rfl,hE,true,i_NoName_ValueError,q _ (.upd_new ha _)⟩⟩
def VP (H:Hp) (us:List V) (bk:List (List Nat×Sh)):Prop:=us.length=bk.length∧∀ (i:Nat) v p,us[i]?=some v→bk[i]?=some p→∃ b w,v = .ref b∧H b=some (.tup [.str (S p.1),w])∧SA H p.2 w
theorem VP.keep {H H':Hp} {us:List V} {bk:List (List Nat×Sh)} (h:VP H us bk) (t:Tk H H'):VP H' us bk:=⟨h.1,fun i v p a b=>by
 obtain ⟨c,w,e,h4,h5⟩:=h.2 i v p a b
 exact ⟨c,w,e,t _ _ h4,h5.keep t⟩⟩
theorem VP.snoc {H:Hp} {us:List V} {bk:List (List Nat×Sh)} {b:Addr} {w:V} {p:List Nat×Sh} (h:VP H us bk) (h1:H b=some (.tup [.str (S p.1),w])) (h2:SA H p.2 w):VP H (us++[.ref b]) (bk++[p]):=by
 refine ⟨by simp [h.1],fun i v q a e=>?_⟩
 rcases Nat.lt_trichotomy i us.length with hi | hi | hi
 ·rw [List.getElem?_append_left hi] at a
  rw [List.getElem?_append_left (by rw [← h.1];exact hi)] at e
  exact h.2 i v q a e
 ·subst hi
  have ea:V.ref b=v:=by simpa using a
  have ee:p=q:=by rw [h.1] at e;simpa using e
  subst ea ee
  exact ⟨b,w,rfl,h1,h2⟩
 ·rw [List.getElem?_eq_none (by rw [List.length_append,List.length_singleton];omega)] at a;cases a
theorem VP.bk {H:Hp} {B:Addr} {us:List V} {bk:List (List Nat×Sh)} (h:VP H us bk) (hB:H B=some (.lst us)):Xn H B bk:=⟨us,hB,h⟩
def wds:List (List Nat):=[mc .whole,mc .text,mc .row,mc .many,mc .rising,mc .unlike,mc .alike,mc .pick]
theorem YfC:∀ w∈wds,Rd.labOk w=true:=by decide +kernel
theorem Ygi {i:Nat} (h:i<8):∃ w∈wds,[V.str (Str.ofString "whole"),V.str (Str.ofString "text"),V.str (Str.ofString "row"),V.str (Str.ofString "many"),V.str (Str.ofString "rising"),V.str (Str.ofString "unlike"),V.str (Str.ofString "alike"),V.str (Str.ofString "pick")][i]?=some (.str (S w)):=by
 have e:[V.str (Str.ofString "whole"),V.str (Str.ofString "text"),V.str (Str.ofString "row"),V.str (Str.ofString "many"),V.str (Str.ofString "rising"),V.str (Str.ofString "unlike"),V.str (Str.ofString "alike"),V.str (Str.ofString "pick")]=wds.map fun w=>V.str (S w):=by
  simp only [wds,List.map_cons,List.map_nil,← Xo]
  rfl
 rw [e,List.getElem?_map]
 have hi:i<wds.length:=h
 exact ⟨wds[i],List.getElem_mem hi,by rw [List.getElem?_eq_getElem hi];rfl⟩
theorem Ygj {ls:List (List Nat)} {w:List Nat} {i:Nat} (o:LsOk ls) (hw:Rd.labOk w=true) (hn:w∉ls) (hi:i<ls.length):LsOk (ls.set i w):=by
 refine ⟨by rw [List.length_set];exact o.l1,by rw [List.length_set];exact o.l8,fun l hl=>?_,?_⟩
 ·rcases List.mem_or_eq_of_mem_set hl with h | h
  ·exact o.lab l h
  ·rw [h];exact hw
 ·rw [List.nodup_iff_pairwise_ne,List.pairwise_iff_getElem]
  have hp:=List.pairwise_iff_getElem.mp o.nd
  intro x y hx hy hxy
  rw [List.length_set] at hx hy
  rw [List.getElem_set,List.getElem_set]
  split
  ·rename_i e
   rw [if_neg (by omega)]
   exact fun z=>hn (z▸List.getElem_mem _)
  ·split
   ·exact fun z=>hn (z▸List.getElem_mem _)
   ·exact hp x y hx hy hxy
section
theorem Yej {src:List (Option Nat)} {te:TE} {σ:St} {H:Hp} {Q:VK} {tl:TE} {tt:TT} {l:List Nat} (p:V→Bool) (ha:∀ R:V→Hp→Prop,R (.str (S l)) H→tl σ H R) (hlen:l.length≤100000)
  (test:∀ x H',x∈l.map (fun c=>V.str (S [c]))→Same H H'→∀ R:Bool→Hp→Prop,(∀ H'',Same H' H''→R (p x) H'')→tt (some x::YD src σ) H' R)
  (step:∀ x H',x∈l.map (fun c=>V.str (S [c]))→p x=true→Same H H'→∀ R:VK,(∀ H'',Same H' H''→R x H'')→te (some x::YD src σ) H' R)
  (fin:∀ D H',H D=none→Same H H'→H' D=some (.lst ((l.map fun c=>V.str (S [c])).filter p))→Q (.ref D) H'):tLC (none::src) (iStr tl) (Ys 0) tt te σ H Q:=by
 have e:((S l).cps.toList.map fun c=>V.str ⟨#[c]⟩)=l.map fun c=>V.str (S [c]):=by rw [YV];rfl
 refine ha _ ⟨S l,rfl,fun D hD=>?_⟩
 refine Ybv (V0 (S l) (fun _=>True)) p id (fun _ _=>trivial) hD ?_ ?_ ?_ ?_
 ·rw [e,List.length_map];exact hlen
 ·rw [e];exact test
 ·rw [e];exact step
 ·rw [e,List.map_id];exact fun H' sm hd=>fin D H' hD sm hd
end
theorem U8 {x:List Nat}:∀ {bk:List (List Nat×Sh)},x∉bk.map (·.1)→Y4 bk x=none
 | [],_=>rfl
 | (l,z)::r,h=>by
  rw [List.map_cons] at h
  rw [Y4,if_neg fun c=>h (by rw [← c];exact .head _)]
  exact U8 fun z=>h (.tail _ z)
def Ya6:List (List Nat):=abc.map fun c=>[c]
theorem YfD:Ya6.Nodup:=by decide +kernel
theorem Yek:(abc.map fun c=>V.str (S [c]))=vst Ya6:=by unfold vst Ya6;rw [List.map_map];rfl
theorem YfE {n i:Nat} (h:i<n):ixN n (i:Int)=some i:=by
 unfold ixN
 rw [if_pos (by omega),if_pos (by omega)]
 rfl
theorem YfF (ls:List (List Nat)) (i:Nat) (w:List Nat):(vst ls).set i (.str (S w))=vst (ls.set i w):=by unfold vst;rw [List.map_set]
structure LI (H H':Hp) (N:Addr) (ls:List (List Nat)):Prop where
 sm:Same H H'
 nn:H N=none
 at':H' N=some (.lst (vst ls))
 ok:LsOk ls
theorem LI.keep {H H' H'':Hp} {N:Addr} {ls:List (List Nat)} (h:LI H H' N ls) (s:Same H' H''):LI H H'' N ls:=⟨h.sm.trans s,h.nn,s _ _ h.at',h.ok⟩
structure LJ (H H':Hp) (N B:Addr) (ls:List (List Nat)) (bk:List (List Nat×Sh)) (us:List V):Prop where
 li:LI H H' N ls
 bn:H B=none
 ne:N≠B
 hB:H' B=some (.lst us)
 ps:VP H' us bk
 sh:∀ p∈bk,BSh ls p.2
theorem LJ.keep {H H' H'':Hp} {N B:Addr} {ls:List (List Nat)} {bk:List (List Nat×Sh)} {us:List V} (h:LJ H H' N B ls bk us) (s:Same H' H''):LJ H H'' N B ls bk us:=⟨h.li.keep s,h.bn,h.ne,s _ _ h.hB,h.ps.keep (.of s),h.sh⟩
theorem Yel {k:Nat} {Z1 Z2 Z3 Z6 Z4 Z5 Z0:Addr} (Z2d:g.Fn k "names_used" ["shape"] (Z1R g.K)) (Z0v:g.FnX k "shape_of" ["book","name"] (Z0P Z5)) (Z49:g.FnX k "read_book" ["text"] (Z2f g.K Z2 Z3 Z6 Z4 Z5)) (Z4a:g.Fn k "show_book" ["book"] (Z2e g.K)) (Z0x:g.Fn k "_law_cell_at" ["_law_script","_law_k"] (YbS g.K)) (F_law_names:g.Fn k "_law_names" ["_law_cell","_law_many"] (Z3o g.K)) (F_law_shape:g.Fn k "_law_shape" ["_law_names_here","_law_one","_law_other","_law_kind"] (QJ g.K)) (Z0G:g.Fn k "_law_text" ["_law_shape_here"] (Z1I g.K 9)) (Z39:g.Fn k "_law_uses" ["_law_shape_here"] (Z1f g.K 9)) (Z09:g.Fn k "_law_same" ["_law_found","_law_due"] (Z0Q g.K 25)) (F_law_no_name:g.Fn k "_law_no_name" ["_law_book","_law_name"] (Z2Y g.K)) (b_len:g.mg "len"=none) (ZW:g.mg "range"=none):Qd g k ["_law_script","_law_many","_law_names_here","_law_odd","_law_word_here","_law_book","_law_k","_law_cells","_law_text_here","_law_found","_law_name","_law_shape_here","_law_others"] "law" QX (UU g.K):=by
 refine fun f_ cdv A outer s H vs Q E hr h=>?_
 obtain ⟨a,ns,rfl,hS,hl,q⟩:=h
 refine ⟨_,(@Yc _ _ _ _ _ (@Yv _ _ (1) _ _ _ _ XE.nd rfl (.inl rfl) (@Yl _ _ _ _ _ _ _ _ X3 Yf (@Yl _ _ _ _ _ _ _ _ YR (@YE _ _ _ _ _ _ _ _ _ _ _ _ Z0x hr (@Ya _ _ _ _ _ (pv 0) (@Ya _ _ _ _ _ Yf Yb (by rfl)) (by rfl)) (by omega) (by rfl) (by rfl) (by decide) (by rfl) (by rfl)) Yf)) (by rfl) (by first | exact .inl rfl | exact .inr rfl | assumption)) (@Yc _ _ _ _ _ (@Yv _ _ (2) _ _ _ _ XE.nd rfl (.inr rfl) (@YE _ _ _ _ _ _ _ _ _ _ _ _ F_law_names hr (@Ya _ _ _ _ _ (@Yl _ _ _ _ _ _ _ _ YR (@YE _ _ _ _ _ _ _ _ _ _ _ _ Z0x hr (@Ya _ _ _ _ _ (pv 0) (@Ya _ _ _ _ _ Yf Yb (by rfl)) (by rfl)) (by omega) (by rfl) (by rfl) (by decide) (by rfl) (by rfl)) (@Yl _ _ _ _ _ _ _ _ WC Yf Yf)) (@Ya _ _ _ _ _ (pv 1) Yb (by rfl)) (by rfl)) (by omega) (by rfl) (by rfl) (by decide) (by rfl) (by rfl)) (by rfl) (by first | exact .inl rfl | exact .inr rfl | assumption)) (@Yc _ _ _ _ _ (@Yv _ _ (3) _ _ _ _ XE.nd rfl (.inl rfl) (@Yl _ _ _ _ _ _ _ _ YR (@YE _ _ _ _ _ _ _ _ _ _ _ _ Z0x hr (@Ya _ _ _ _ _ (pv 0) (@Ya _ _ _ _ _ Yf Yb (by rfl)) (by rfl)) (by omega) (by rfl) (by rfl) (by decide) (by rfl) (by rfl)) (@Yl _ _ _ _ _ _ _ _ WC Yf Yf)) (by rfl) (by first | exact .inl rfl | exact .inr rfl | assumption)) (@Yc _ _ _ _ _ (@Yv _ _ (4) _ _ _ _ XE.nd rfl (.inl rfl) (@Ym _ _ _ _ _ _ _ XD (@Xk _ _ _ _ (@Ya _ _ _ _ _ Yg (@Ya _ _ _ _ _ Yg (@Ya _ _ _ _ _ Yg (@Ya _ _ _ _ _ Yg (@Ya _ _ _ _ _ Yg (@Ya _ _ _ _ _ Yg (@Ya _ _ _ _ _ Yg (@Ya _ _ _ _ _ Yg Yb (by rfl)) (by rfl)) (by rfl)) (by rfl)) (by rfl)) (by rfl)) (by rfl)) (by rfl))) (@Yl _ _ _ _ _ _ _ _ YR (@Yl _ _ _ _ _ _ _ _ Wu (pv 3) Yf) Yf) (fun _ _=>rfl)) (by rfl) (by first | exact .inl rfl | exact .inr rfl | assumption)) (@Yc _ _ _ _ _ (@Yp _ _ _ _ _ _ _ _ (@VV _ _ _ _ _ _ _ (@Yk _ _ _ _ _ _ _ _ YF (@Yl _ _ _ _ _ _ _ _ YR (pv 3) Yf) Yf (Yo _)) (@Vb _ _ _ _ (@Yk _ _ _ _ _ _ _ _ WQ (pv 4) (pv 2) rfl))).pt (@Yd _ _ _ (@YfN _ _ _ _ _ _ (pv 4) (@YfM _ _ _ _ _ _ _ (pv 2) (@Yl _ _ _ _ _ _ _ _ YR (@Yl _ _ _ _ _ _ _ _ Wu (pv 3) Yf) (pv 1)) YdO (by intro _;rfl)) (by rfl) (by rfl) (by rfl))) Yi) (@Yc _ _ _ _ _ (@Yv _ _ (5) _ _ _ _ XE.nd rfl (.inl rfl) (@Xk _ _ _ _ Yb) (by rfl) (by first | exact .inl rfl | exact .inr rfl | assumption)) (@Yc _ _ _ _ _ (@Xg _ _ _ _ _ _ _ _ PassesOwn.never rfl (@We _ _ _ _ _ _ rfl ZW (@Ya _ _ _ _ _ (pv 1) Yb (by rfl)) (by rfl)) (@Yq _ _ (6) _ XE.nd rfl (.inr rfl) (by first | exact .inl rfl | exact .inr rfl | assumption)) (@Yc _ _ _ _ _ (@Vk _ (7) _ _ _ _ _ _ _ _ _ ([none,some 0,some 6]) ((["_law_j","_law_script","_law_k"]:List Str)) _ (Ys 0) _ _ XE.nd rfl (.inl rfl) (.own (.cap (i:=0) rfl rfl (by first | exact .inl rfl | exact .inr rfl) (.cap (i:=6) rfl rfl (by first | exact .inl rfl | exact .inr rfl) .nil))) rfl (@We _ _ _ _ _ _ rfl ZW (@Ya _ _ _ _ _ Yf Yb (by rfl)) (by rfl)) (fun cl C s₀ H₀ fp pn=>(@Yq _ _ (0) _ (show List.Nodup (["_law_j","_law_script","_law_k"]:List Str) by decide +kernel) rfl (.inl rfl) (.inr rfl))) (fun cl C s₀ H₀ fp pn=>Y0) (fun cl C s₀ H₀ fp pn=>(@YE _ _ _ _ _ _ _ _ _ _ _ _ Z0x hr (@Ya _ _ _ _ _ (pv 1) (@Ya _ _ _ _ _ (@Yl _ _ _ _ _ _ _ _ X3 (@Yl _ _ _ _ _ _ _ _ X3 Yf (@Yl _ _ _ _ _ _ _ _ Ybx Yf (pv 2))) (pv 0)) Yb (by rfl)) (by rfl)) (by omega) (by rfl) (by rfl) (by decide) (by rfl) (by rfl))) (by intro x hx;simp at hx;first | (subst hx;exact .inl rfl) | (rcases hx with rfl | rfl<;>exact .inl rfl) | (rcases hx with rfl | rfl | rfl<;>exact .inl rfl) | (rcases hx with rfl | rfl | rfl | rfl<;>exact .inl rfl) | (rcases hx with rfl | rfl | rfl | rfl | rfl<;>exact .inl rfl)) (by rfl) (by decide) (by decide +kernel) (by intro _;rfl) (by rfl) (by first | exact .inl rfl | exact .inr rfl | assumption)) (@Yd _ _ _ (@YZ _ _ _ _ (@Xx _ _ _ _ _ _ _ _ _ _ _ _ PySem.F.plainAttrs_list PySem.F.slot_list_append PySem.F.type_list_append Xs (pv 5) (@Ya _ _ _ _ _ (@Yx _ _ _ _ _ (@Ya _ _ _ _ _ (@Ym _ _ _ _ _ _ _ XD (pv 2) (pv 6) (fun _ _=>rfl)) (@Ya _ _ _ _ _ (@YE _ _ _ _ _ _ _ _ _ _ _ _ F_law_shape hr (@Ya _ _ _ _ _ (pv 2) (@Ya _ _ _ _ _ (@Yl _ _ _ _ _ _ _ _ YR (@Ym _ _ _ _ _ _ _ XD (pv 7) Yf (fun _ _=>rfl)) (@Yl _ _ _ _ _ _ _ _ WC Yf Yf)) (@Ya _ _ _ _ _ (@Yl _ _ _ _ _ _ _ _ YR (@Ym _ _ _ _ _ _ _ XD (pv 7) Yf (fun _ _=>rfl)) (@Yl _ _ _ _ _ _ _ _ WC Yf Yf)) (@Ya _ _ _ _ _ (@Yl _ _ _ _ _ _ _ _ YR (@Ym _ _ _ _ _ _ _ XD (pv 7) Yf (fun _ _=>rfl)) Yf) Yb (by rfl)) (by rfl)) (by rfl)) (by rfl)) (by omega) (by rfl) (by rfl) (by decide) (by rfl) (by rfl)) Yb (by rfl)) (by rfl))) Yb (YK _ _ _ _ _)) (by rfl) (by rfl) (by rfl) (by rfl) (by rfl)) (by rfl)))) (by intro _;rfl)) (@Yc _ _ _ _ _ (@Yv _ _ (8) _ _ _ _ XE.nd rfl (.inl rfl) (@Xx _ _ _ _ _ _ _ _ _ _ _ _ PySem.F.plainAttrs_str PySem.F.slot_str_join PySem.F.type_str_join Vi Yg (@Ya _ _ _ _ _ (@XG _ _ _ _ _ _ _ ([none,none]) ((["_law_name","_law_shape_here"]:List Str)) _ (XA g.K 2 (YQ (Ys 0) (YQ (Ys 1) Xz))) _ _ (.own (.own .nil)) rfl (@Y3 _ _ _ _ (pv 5)) (fun cl C s₀ H₀ fp pn=>(@Xq _ _ _ _ _ (2) rfl (@YJ _ _ _ _ _ (@Yq _ _ (0) _ (show List.Nodup (["_law_name","_law_shape_here"]:List Str) by decide +kernel) rfl (.inl rfl) (.inr rfl)) (@YJ _ _ _ _ _ (@Yq _ _ (1) _ (show List.Nodup (["_law_name","_law_shape_here"]:List Str) by decide +kernel) rfl (.inl rfl) (.inr rfl)) Xf (by rfl)) (by rfl)) (by rfl) (by rfl))) (fun cl C s₀ H₀ fp pn=>Y0) (fun cl C s₀ H₀ fp pn=>(@Yl _ _ _ _ _ _ _ _ Yu (@Yl _ _ _ _ _ _ _ _ Yu (pv 0) Yg) (@YE _ _ _ _ _ _ _ _ _ _ _ _ Z0G hr (@Ya _ _ _ _ _ (pv 1) Yb (by rfl)) (by omega) (by rfl) (by rfl) (by decide) (by rfl) (by rfl)))) (by intro x hx;simp at hx) (by rfl) (by decide) (by decide +kernel) (by intro _;rfl)) Yb (by rfl)) (by rfl) (by rfl) (by rfl) (by rfl) (by rfl)) (by rfl) (by first | exact .inl rfl | exact .inr rfl | assumption)) (@Yc _ _ _ _ _ (@Yv _ _ (9) _ _ _ _ XE.nd rfl (.inl rfl) (@YI _ _ _ _ _ _ _ _ _ _ _ _ _ Z49 hr UX (@Ya _ _ _ _ _ (pv 8) Yb (by rfl)) (by omega) (by rfl) (by rfl) (by decide) (by rfl) (by rfl)) (by rfl) (by first | exact .inl rfl | exact .inr rfl | assumption)) (@Yc _ _ _ _ _ (@Yp _ _ _ _ _ _ _ _ (@Uj _ _ _ _ _ _ _ (@Y7 _ _ _ _ (@YU _ _ _ (@YE _ _ _ _ _ _ _ _ _ _ _ _ Z09 hr (@Ya _ _ _ _ _ (pv 9) (@Ya _ _ _ _ _ (pv 5) Yb (by rfl)) (by rfl)) (by omega) (by rfl) (by rfl) (by decide) (by rfl) (by rfl)) (by intro _;rfl))) (@Vc _ _ _ _ (@Y7 _ _ _ _ (@YU _ _ _ (@YE _ _ _ _ _ _ _ _ _ _ _ _ Z09 hr (@Ya _ _ _ _ _ (@YE _ _ _ _ _ _ _ _ _ _ _ _ Z4a hr (@Ya _ _ _ _ _ (pv 5) Yb (by rfl)) (by omega) (by rfl) (by rfl) (by decide) (by rfl) (by rfl)) (@Ya _ _ _ _ _ (pv 8) Yb (by rfl)) (by rfl)) (by omega) (by rfl) (by rfl) (by decide) (by rfl) (by rfl)) (by intro _;rfl))))).pt (@Yd _ _ _ (@Yj _ _ _ _ X6)) Yi) (@Yc _ _ _ _ _ (@Xg _ _ _ _ _ _ _ _ PassesOwn.never rfl (@Y3 _ _ _ _ (pv 5)) (@Xq _ _ _ _ _ (2) rfl (@YJ _ _ _ _ _ (@Yq _ _ (10) _ XE.nd rfl (.inl rfl) (by first | exact .inl rfl | exact .inr rfl | assumption)) (@YJ _ _ _ _ _ (@Yq _ _ (11) _ XE.nd rfl (.inl rfl) (by first | exact .inl rfl | exact .inr rfl | assumption)) Xf (by rfl)) (by rfl)) (by rfl) (by rfl)) (@Yd _ _ _ (@Yp _ _ _ _ _ _ _ _ (@Uj _ _ _ _ _ _ _ (@Y7 _ _ _ _ (@YU _ _ _ (@YE _ _ _ _ _ _ _ _ _ _ _ _ Z09 hr (@Ya _ _ _ _ _ (@YI _ _ _ _ _ _ _ _ _ _ _ _ _ Z0v hr UX (@Ya _ _ _ _ _ (pv 5) (@Ya _ _ _ _ _ (pv 10) Yb (by rfl)) (by rfl)) (by omega) (by rfl) (by rfl) (by decide) (by rfl) (by rfl)) (@Ya _ _ _ _ _ (pv 11) Yb (by rfl)) (by rfl)) (by omega) (by rfl) (by rfl) (by decide) (by rfl) (by rfl)) (by intro _;rfl))) (@Vc _ _ _ _ (@Y7 _ _ _ _ (@YU _ _ _ (@YE _ _ _ _ _ _ _ _ _ _ _ _ Z09 hr (@Ya _ _ _ _ _ (@YE _ _ _ _ _ _ _ _ _ _ _ _ Z2d hr (@Ya _ _ _ _ _ (pv 11) Yb (by rfl)) (by omega) (by rfl) (by rfl) (by decide) (by rfl) (by rfl)) (@Ya _ _ _ _ _ (@YE _ _ _ _ _ _ _ _ _ _ _ _ Z39 hr (@Ya _ _ _ _ _ (pv 11) Yb (by rfl)) (by omega) (by rfl) (by rfl) (by decide) (by rfl) (by rfl)) Yb (by rfl)) (by rfl)) (by omega) (by rfl) (by rfl) (by decide) (by rfl) (by rfl)) (by intro _;rfl))))).pt (@Yd _ _ _ (@Yj _ _ _ _ X6)) Yi)) (by intro _;rfl)) (@Yc _ _ _ _ _ (@Vk _ (12) _ _ _ _ _ _ _ _ _ ([none,some 2]) ((["_law_sign","_law_names_here"]:List Str)) _ (Ys 0) _ _ XE.nd rfl (.inl rfl) (.own (.cap (i:=2) rfl rfl (by first | exact .inl rfl | exact .inr rfl) .nil)) rfl (@VZ _ _ _ _ Yg) (fun cl C s₀ H₀ fp pn=>(@Yq _ _ (0) _ (show List.Nodup (["_law_sign","_law_names_here"]:List Str) by decide +kernel) rfl (.inl rfl) (.inr rfl))) (fun cl C s₀ H₀ fp pn=>(@Qb _ _ _ (@Yk _ _ _ _ _ _ _ _ (VT (K:=g.K)) (pv 0) (pv 1) rfl))) (fun cl C s₀ H₀ fp pn=>(pv 0)) (by intro x hx;simp at hx;first | (subst hx;exact .inl rfl) | (rcases hx with rfl | rfl<;>exact .inl rfl) | (rcases hx with rfl | rfl | rfl<;>exact .inl rfl) | (rcases hx with rfl | rfl | rfl | rfl<;>exact .inl rfl) | (rcases hx with rfl | rfl | rfl | rfl | rfl<;>exact .inl rfl)) (by rfl) (by decide) (by decide +kernel) (by intro _;rfl) (by rfl) (by first | exact .inl rfl | exact .inr rfl | assumption)) (@Yc _ _ _ _ _ (@Yp _ _ _ _ _ _ _ _ (@Y7 _ _ _ _ (@YU _ _ _ (@YE _ _ _ _ _ _ _ _ _ _ _ _ F_law_no_name hr (@Ya _ _ _ _ _ (pv 5) (@Ya _ _ _ _ _ (@Ym _ _ _ _ _ _ _ XD (pv 12) (@Yl _ _ _ _ _ _ _ _ YR (@YE _ _ _ _ _ _ _ _ _ _ _ _ Z0x hr (@Ya _ _ _ _ _ (pv 0) (@Ya _ _ _ _ _ Yf Yb (by rfl)) (by rfl)) (by omega) (by rfl) (by rfl) (by decide) (by rfl) (by rfl)) (@YL _ _ _ _ _ _ _ _ _ _ b_len YW (@Ya _ _ _ _ _ (pv 12) Yb (by rfl)) (by decide +kernel) (by rfl) (by rfl) (by decide) (by decide) (by rfl) (by rfl))) (fun _ _=>rfl)) Yb (by rfl)) (by rfl)) (by omega) (by rfl) (by rfl) (by decide) (by rfl) (by rfl)) (by intro _;rfl))) (@Yd _ _ _ (@Yj _ _ _ _ X6)) Yi) (@Yc _ _ _ _ _ (@YZ _ _ _ _ (@Xx _ _ _ _ _ _ _ _ _ _ _ _ PySem.F.plainAttrs_list PySem.F.slot_list_append PySem.F.type_list_append Xs (pv 9) (@Ya _ _ _ _ _ (@Yx _ _ _ _ _ (@Ya _ _ _ _ _ Yg (@Ya _ _ _ _ _ (@Yx _ _ _ _ _ (@Ya _ _ _ _ _ Yg (@Ya _ _ _ _ _ (@Yx _ _ _ _ _ Yb) Yb (YK _ _ _ _ _)) (by rfl))) Yb (YK _ _ _ _ _)) (by rfl))) Yb (YK _ _ _ _ _)) (by rfl) (by rfl) (by rfl) (by rfl) (by rfl)) (by rfl)) (@Yd _ _ _ (@Yj _ _ _ _ (@X2 _ _ _ _ _ _ _ (@YE _ _ _ _ _ _ _ _ _ _ _ _ Z09 hr (@Ya _ _ _ _ _ (@YI _ _ _ _ _ _ _ _ _ _ _ _ _ Z49 hr UX (@Ya _ _ _ _ _ (pv 8) Yb (by rfl)) (by omega) (by rfl) (by rfl) (by decide) (by rfl) (by rfl)) (@Ya _ _ _ _ _ (pv 5) Yb (by rfl)) (by rfl)) (by omega) (by rfl) (by rfl) (by decide) (by rfl) (by rfl)) (@X1 _ _ _ _ _ (@YE _ _ _ _ _ _ _ _ _ _ _ _ Z09 hr (@Ya _ _ _ _ _ (@YE _ _ _ _ _ _ _ _ _ _ _ _ Z4a hr (@Ya _ _ _ _ _ (pv 5) Yb (by rfl)) (by omega) (by rfl) (by rfl) (by decide) (by rfl) (by rfl)) (@Ya _ _ _ _ _ (pv 8) Yb (by rfl)) (by rfl)) (by omega) (by rfl) (by rfl) (by decide) (by rfl) (by rfl)))))))))))))))))))),?_⟩
 refine cut4 (fun σ H'=>∃ (n:Nat) (N:Addr) (od:Int) (w:List Nat) (ls:List (List Nat)),σ=[some (.ref a),some (.int n),some (.ref N),some (.int od),some (.str (S w)),none,none,none,none,none,none,none,none]∧LI H H' N ls∧ls.length=n∧w∈wds) ?_ ?_
 rotate_left
 ·intro Nn hNn
  have e18:(10:Int)^Int.toNat 18=1000000000000000000:=by decide +kernel
  have e9:(10:Int)^Int.toNat 9=1000000000:=by decide +kernel
  walk_at "rd"
  refine ⟨a,ns,0,rfl,hS,hl,_,rfl,by decide,a,ns,1,rfl,hS,hl,V8,_,rfl,by decide +kernel,?_⟩
  have en:1+ns.getD 0 0%8=((1+(ns.getD 0 0%8).toNat:Nat):Int):=by omega
  rw [en]
  refine ⟨_,1+(ns.getD 0 0%8).toNat,rfl,by omega,by omega,fun N ls H1 s1 hN h1 hll hlo hnd=>?_⟩
  refine ⟨a,ns,27,rfl,s1.seq hS,hl,V8,_,rfl,by decide +kernel,few (by decide),fun p hp=>⟨Wh (by decide) (by decide),by decide,_,SqL.of Ye,?_⟩⟩
  obtain ⟨i,hi,hi2⟩:=XZ (ns.getD 27 0%10^Int.toNat 9 / 8) (j:=8) (by decide)
  obtain ⟨w,hw,hat⟩:=Ygi (i:=i) (by omega)
  rw [hi]
  have u:=Same.upd_new hp (.lst [V.str (Str.ofString "whole"),V.str (Str.ofString "text"),V.str (Str.ofString "row"),V.str (Str.ofString "many"),V.str (Str.ofString "rising"),V.str (Str.ofString "unlike"),V.str (Str.ofString "alike"),V.str (Str.ofString "pick")])
  exact ⟨_,YC hat,hNn _ _ ⟨_,N,_,w,ls,rfl,⟨s1.trans u,hN,u _ _ h1,by omega,by omega,hlo,hnd⟩,hll,hw⟩⟩
 rintro σ H1 ⟨n,N,od,w,ls,rfl,hLI,hln,hw⟩
 refine UA (fun σ H'=>∃ (B:Addr) (ls:List (List Nat)),σ=[some (.ref a),some (.int n),some (.ref N),some (.int od),some (.str (S w)),some (.ref B),none,none,none,none,none,none,none]∧LJ H H' N B ls [] []∧ls.length=n) ?_ ?_
 rotate_left
 ·intro Nn hNn
  have fin:∀ (ls:List (List Nat)) H',LI H H' N ls→ls.length=n→0≤sizeLine∧∀ p,H' p=none→Nn [some (.ref a),some (.int n),some (.ref N),some (.int od),some (.str (S w)),some (.ref p),none,none,none,none,none,none,none] (upd H' p (.lst [])):=fun ls H' h e=>⟨few (by decide),fun p hp=>hNn _ _ ⟨p,ls,rfl,⟨h.keep (.upd_new hp _),h.sm.free hp,YB h.at' hp,Ye,⟨rfl,fun i v p a=>by simp at a⟩,fun p h=>by cases h⟩,e⟩⟩
  have l1:=hLI.ok.l1
  walk_at "rd"
  refine ⟨by decide,YG (fun c1=>⟨_,.inl (SqL.of hLI.at'),rfl,UI ls,?_⟩) fun c1=>fin ls H1 hLI hln⟩
  rw [U7]
  refine YG (fun c2=>?_) fun c2=>fin ls H1 hLI hln
  have hwn:w∉ls:=of_decide_eq_false c2
  obtain ⟨i,hi,hi2⟩:=XZ (od / 64) (j:=(n:Int)) (by omega)
  refine ⟨Wh (by decide) (by decide),by omega,?_⟩
  rw [hi]
  have hil:i<ls.length:=by omega
  refine ⟨_,hLI.at',i,YfE (by rw [vst,List.length_map];exact hil),?_⟩
  rw [YfF]
  exact fin (ls.set i w) _ ⟨.upd_over hLI.nn hLI.sm _,hLI.nn,Ye,Ygj hLI.ok (YfC w hw) hwn hil⟩ (by rw [List.length_set];exact hln)
 rintro σ H2 ⟨B,ls,rfl,hLJ,hln⟩
 refine Y9 (fun σ H'=>∃ (bk:List (List Nat×Sh)) (us:List V) (o6 o7:Option V),σ=[some (.ref a),some (.int n),some (.ref N),some (.int od),some (.str (S w)),some (.ref B),o6,o7,none,none,none,none,none]∧LJ H H' N B ls bk us∧bk.map (·.1)=ls) ?_ ?_
 rotate_left
 ·intro Nn hNn
  have l8:=hLJ.li.ok.l8
  refine W8 (n:=n) (fun i σ' H'=>∃ (bk:List (List Nat×Sh)) (us:List V) (o6 o7:Option V),σ'=[some (.ref a),some (.int n),some (.ref N),some (.int od),some (.str (S w)),some (.ref B),o6,o7,none,none,none,none,none]∧LJ H H' N B ls bk us∧bk.map (·.1)=ls.take i) (fun R r=>by walk_at "rd";exact r) (by omega) ⟨[],[],none,none,rfl,hLJ,rfl⟩ ?_ ?_
  ·rintro i σ' H' hi ⟨bk,us,o6,o7,rfl,J,hbk⟩
   have hil:i<ls.length:=by omega
   have hbl:bk.length=i:=by
    have:=congrArg List.length hbk
    rw [List.length_map,List.length_take] at this
    omega
   refine Y9 (fun σ H3=>∃ (c0 c1 c2:Int) (p:Addr),σ=[some (.ref a),some (.int n),some (.ref N),some (.int od),some (.str (S w)),some (.ref B),some (.int i),some (.ref p),none,none,none,none,none]∧LJ H H3 N B ls bk us∧H3 p=some (.lst [.int c0,.int c1,.int c2])) ?_ ?_
   rotate_left
   ·intro N3 hN3
    walk_at "rd"
    refine VA (n:=3) ((List.range 3).map fun j=>V.int (ns.getD (2+3*i+j) 0)) (fun R r=>by walk_at "rd";exact r) (by simp) (by omega) ?_ ?_
    ·intro j y H3 hj hy sm R r
     rw [List.getElem?_map,List.getElem?_range hj] at hy
     have hy':=Option.some.inj hy
     subst hy'
     walk_at "rd"
     refine ⟨.inl (cm (m:=5) (n:=5) (by decide) (by omega)),a,ns,2+3*i+j,?_,(J.li.sm.trans sm).seq hS,hl,r H3 (.refl _)⟩
     rw [show (2+3*(i:Int)+(j:Int))=((2+3*i+j:Nat):Int) by omega]
    ·intro D H3 hD sm hd
     exact hN3 _ _ ⟨_,_,_,D,rfl,J.keep sm,hd⟩
   rintro σ H3 ⟨c0,c1,c2,p,rfl,J3,hp⟩
   have hnm:(vst ls)[i]?=some (.str (S ls[i])):=by rw [vst,List.getElem?_map,List.getElem?_eq_getElem hil];rfl
   have em:c2%7=((c2%7).toNat:Nat):=by omega
   walk_at "rd"
   refine ⟨.inl ⟨rfl,_,SqL.of J3.hB⟩,_,SqL.of J3.li.at',_,YC hnm,_,SqL.of hp,_,rfl,V8,_,rfl,by decide +kernel,_,SqL.of hp,_,rfl,V8,_,rfl,by decide +kernel,_,SqL.of hp,_,rfl,_,rfl,by decide,N,ls,_,_,(c2%7).toNat,by rw [← em],J3.li.at',J3.li.ok.l1,l8,J3.li.ok.lab,by omega,fun s v H5 s5 hs hb=>⟨few (by decide),fun p5 hp5=>?_⟩⟩
   have J5:=J3.keep s5
   have u5:=Same.upd_new hp5 (.tup [V.str (S ls[i]),v])
   have J6:=J5.keep u5
   have hul:=J6.ps.1
   have tk:Tk (upd H5 p5 (.tup [V.str (S ls[i]),v])) (upd (upd H5 p5 (.tup [V.str (S ls[i]),v])) B (.lst (us++[V.ref p5]))):=fun a ys ha=>by rw [Yt (Wk ha J6.hB (by intro z;cases z))];exact ha
   refine ⟨us,J6.hB,few (by omega),bk++[(ls[i],s)],us++[.ref p5],⟨⟨.upd_over J6.bn J6.li.sm _,J6.li.nn,by rw [Yt J6.ne];exact J6.li.at',J6.li.ok⟩,J6.bn,J6.ne,Ye,(J6.ps.keep tk).snoc (p:=(ls[i],s)) (tk _ _ Ye) ((hs.keep (.of u5)).keep tk),fun q hq=>?_⟩,?_⟩
   ·rcases List.mem_append.mp hq with hq | hq
    ·exact J6.sh q hq
    ·rw [List.mem_singleton.mp hq];exact hb
   ·rw [List.map_append,hbk,List.take_succ_eq_append_getElem hil]
    rfl
  ·rintro σ' H' ⟨bk,us,o6,o7,rfl,J,hbk⟩
   rw [List.take_of_length_le (by omega)] at hbk
   exact hNn _ _ ⟨bk,us,o6,o7,rfl,J,hbk⟩
 rintro σ H3 ⟨bk,us,o6,o7,rfl,J,hbk⟩
 have L:=J.li.ok
 have K:BkL ls bk:=⟨hbk,J.sh⟩
 have hT:=YfA L K
 have hbl:=Ug L K
 have l8:=L.l8
 refine Y9 (fun σ H'=>σ=[some (.ref a),some (.int n),some (.ref N),some (.int od),some (.str (S w)),some (.ref B),o6,o7,some (.str (S (YM [10] (bkT bk)))),none,none,none,none]∧LJ H H' N B ls bk us) ?_ ?_
 rotate_left
 ·intro Nn hNn
  have e10:Str.ofString "\n"=S [10]:=by decide +kernel
  obtain ⟨ps,g1,g2,g3⟩:=Ut (K:=g.K) J.ps.1 J.ps.2
  have hul:=J.ps.1
  walk_at "rd"
  refine ⟨rfl,VM (K:=g.K) (b:=B) (xs:=us) ps (((bkT bk).map S).map V.str) (fun R r=>by walk_at "rd";exact r) (SqL.of J.hB) g2 g1 (by simp [bkT,hul]) (by omega) ?_ ?_⟩
  ·intro j p y H4 hp hy sm R r
   rw [List.getElem?_map,List.getElem?_map,bkT,List.getElem?_map] at hy
   have hj:=(List.getElem?_eq_some_iff.mp hp).1
   have hkj:bk[j]?=some (bk[j]'(by omega)):=List.getElem?_eq_getElem _
   generalize bk[j]'(by omega)=pr at hkj
   rw [hkj] at hy
   have hy':=Option.some.inj hy
   subst hy'
   have hm:=List.mem_of_getElem? hkj
   have hs:=K.sh pr hm
   have hlab:=(XO (L.lab _ (Uh L K hm))).1
   have hlen:=hs.len
   have hdp:=(Ycv pr.2).1
   have hbd:=hs.bd
   obtain ⟨z1,z2⟩:=g3 j p _ hp hkj
   walk_at "rd"
   rw [z1,Ycs]
   refine ⟨_,rfl,few (by rw [Yw,Yw];simp only [List.length_cons,List.length_nil];omega),pr.2,p.2,rfl,z2.keep (.of sm),hs.gd,by omega,by omega,fun H5 s5=>⟨_,rfl,few (by rw [Yy,Yw,Yw];simp only [List.length_append,List.length_cons,List.length_nil];omega),?_⟩⟩
   rw [Yy,Yy,List.append_assoc]
   exact r H5 s5
  ·intro D H4 hD sm hd
   refine ⟨_,D,(bkT bk).map S,rfl,rfl,SqL.of hd,?_,?_⟩
   ·have hs:=YaP (bkT bk) (fun x hx=>?_)
    ·have hlen:(bkT bk).length=bk.length:=by rw [bkT,List.length_map]
     have e1:(Str.ofString "\n").length=1:=by decide
     rw [e1,List.length_map]
     omega
    ·obtain ⟨pr,hm,rfl⟩:=List.mem_map.mp hx
     have:=(XO (L.lab _ (Uh L K hm))).1
     have:=(K.sh pr hm).len
     simp only [List.length_append,List.length_cons]
     omega
   ·rw [e10,XM]
    exact hNn _ _ ⟨rfl,J.keep sm⟩
 rintro σ H4 ⟨rfl,J4⟩
 have hgd:∀ p∈bk,Gd p.2∧dp p.2≤6:=fun p hp=>⟨(K.sh p hp).gd,Nat.le_trans (Ycv p.2).1 (K.sh p hp).bd⟩
 have hsb:∀ p∈bk,p.1.length≤8∧(tt p.2).length≤2000:=fun p hp=>⟨(XO (L.lab _ (Uh L K hp))).1,Nat.le_trans (K.sh p hp).len (by decide)⟩
 have read:∀ (H5:Hp) (R:VK) (E:XK),(∀ F H6,Same H5 H6→H5 F=none→Xn H6 F bk→R (.ref F) H6)→Z2f g.K Z2 Z3 Z6 Z4 Z5 [.str (S (YM [10] (bkT bk)))] H5 R E:=fun H5 R E r=>by
  refine ⟨_,rfl,.inr ⟨_,rfl,by omega,?_⟩⟩
  rw [Ygg L K]
  have e0:=Ygh L K
  refine ⟨fun h=>(h (bl_cr L K)).elim,(fun _ h=>by rw [e0] at h;cases h),(fun b _ h h2=>by rw [e0] at h;cases h;exact (h2 (bl_2 L K)).elim),(fun b _ h _ h2=>by rw [e0] at h;cases h;exact (h2 (bl_rg L K)).elim),(fun b _ h _ _ h2=>by rw [e0] at h;cases h;exact (h2 (bl_nm L K)).elim),(fun b _ h _ _ _=>by rw [e0] at h;cases h;exact Yfz L K),fun b F H6 _ h _ _ _ s6 hF hb=>?_⟩
  rw [e0] at h
  cases h
  exact r F H6 s6 hF hb
 have bks:∀ H5,LJ H H5 N B ls bk us→Xn H5 B bk:=fun H5 J=>J.ps.bk J.hB
 have both:∀ (H5:Hp) (F:Addr) (R:VK),LJ H H5 N B ls bk us→Xn H5 F bk→(∀ H6,Same H5 H6→R (.bl true) H6)→Z0Q g.K 25 [.ref F,.ref B] H5 R E0:=fun H5 F R J5 hF r=>⟨_,_,bkD bk,rfl,hF.vn hgd (by omega),(bks H5 J5).vn hgd (by omega),r⟩
 have shown:∀ (H5:Hp) (R:VK),LJ H H5 N B ls bk us→(∀ H6,Same H5 H6→R (.str (S (YM [10] (bkT bk)))) H6)→Z2e g.K [.ref B] H5 R E0:=fun H5 R J5 r=>⟨B,bk,rfl,bks H5 J5,bl_ok L K,by omega,hsb,r⟩
 refine UA (fun σ H'=>∃ F,σ=[some (.ref a),some (.int n),some (.ref N),some (.int od),some (.str (S w)),some (.ref B),o6,o7,some (.str (S (YM [10] (bkT bk)))),some (.ref F),none,none,none]∧LJ H H' N B ls bk us∧Xn H' F bk∧H4 F=none) ?_ ?_
 rotate_left
 ·intro Nn hNn
  walk_at "rd"
  refine read _ _ _ fun F H5 s5 hF hb=>both H5 F _ (J4.keep s5) hb fun H6 s6=>?_
  walk_at "rd"
  refine shown H6 _ ((J4.keep s5).keep s6) fun H7 s7=>?_
  walk_at "rd"
  refine ⟨_,_,.str (S (YM [10] (bkT bk))),rfl,rfl,rfl,fun H8 s8=>?_⟩
  walk_at "rd"
  exact hNn _ _ ⟨F,rfl,(((J4.keep s5).keep s6).keep s7).keep s8,((hb.keep s6).keep s7).keep s8,hF⟩
 rintro σ H5 ⟨F,rfl,J5,hF5,hFn⟩
 refine Y9 (fun σ H'=>∃ (o10 o11:Option V),σ=[some (.ref a),some (.int n),some (.ref N),some (.int od),some (.str (S w)),some (.ref B),o6,o7,some (.str (S (YM [10] (bkT bk)))),some (.ref F),o10,o11,none]∧LJ H H' N B ls bk us∧Xn H' F bk) ?_ ?_
 rotate_left
 ·intro Nn hNn
  have hul:=J5.ps.1
  refine XT (K:=g.K) (a:=B) (xs:=us) (fun i σ H6=>Same H5 H6∧∃ (o10 o11:Option V),σ=[some (.ref a),some (.int n),some (.ref N),some (.int od),some (.str (S w)),some (.ref B),o6,o7,some (.str (S (YM [10] (bkT bk)))),some (.ref F),o10,o11,none]) (fun R r=>by walk_at "rd";exact r) ⟨.refl _,none,none,rfl⟩ ?_ ?_ ?_
  ·rintro i σ H6 _ ⟨s,_⟩
   exact SqL.of (s _ _ J5.hB)
  ·rintro i v σ H6 hv ⟨s,o10,o11,rfl⟩
   have hi:=(List.getElem?_eq_some_iff.mp hv).1
   have hp:bk[i]?=some (bk[i]'(by omega)):=List.getElem?_eq_getElem _
   generalize bk[i]'(by omega)=pr at hp
   obtain ⟨b,w',rfl,h4,h5⟩:=J5.ps.2 i v _ hv hp
   have hm:=List.mem_of_getElem? hp
   have hk:=hgd pr hm
   have hb2:=hsb pr hm
   have J6:=J5.keep s
   have hw6:=h5.keep (.of s)
   have hwi:=YaJ (Nat.le_trans hk.2 (by decide)) hk.1
   have hnl:=YbV hk.1
   walk_at "rd"
   refine ⟨_,.inl (.inl (s _ _ h4)),rfl,_,_,rfl,_,_,rfl,rfl,B,bk,pr.1,rfl,bks _ J6,by omega,fun z v2 e hv2=>?_,fun e=>(W4 hm e).elim⟩
   rw [YfB L K hm] at e
   cases e
   refine ⟨v2,w',dt pr.2,rfl,(hv2.vn (n:=6) hk.1 hk.2).up (by decide),(hw6.vn (n:=6) hk.1 hk.2).up (by decide),fun H7 s7=>?_⟩
   have hw7:=hw6.keep (.of s7)
   walk_at "rd"
   refine ⟨pr.2,w',rfl,hw7,hk.1,by omega,hwi,fun p8 H8 s8 _ h8=>⟨pr.2,w',rfl,hw7.keep (.of s8),hk.1,by omega,by omega,fun p9 H9 s9 h9=>⟨_,_,_,rfl,YdD (n:=23) (s9 _ _ h8) (by omega),YdD (n:=23) h9 (by omega),fun H10 s10=>?_⟩⟩⟩
   walk_at "rd"
   exact ((((s.trans s7).trans s8).trans s9).trans s10)
  ·rintro σ H6 ⟨s,o10,o11,rfl⟩
   exact hNn _ _ ⟨o10,o11,rfl,J5.keep s,hF5.keep s⟩
 rintro σ H6 ⟨o10,o11,rfl,J6,hF6⟩
 refine UA (fun σ H'=>∃ (o12:Option V),σ=[some (.ref a),some (.int n),some (.ref N),some (.int od),some (.str (S w)),some (.ref B),o6,o7,some (.str (S (YM [10] (bkT bk)))),some (.ref F),o10,o11,o12]∧LJ H H' N B ls bk us∧Xn H' F bk) ?_ ?_
 rotate_left
 ·intro Nn hNn
  walk_at "rd"
  rw [Qo]
  refine Yej (l:=abc) (fun v => !inV v (vst ls)) (fun R r=>by walk_at "rd";exact r) (by decide) ?_ ?_ ?_
  ·intro x H7 hx sm R r
   obtain ⟨c,_,rfl⟩:=List.mem_map.mp hx
   walk_at "rd"
   exact ⟨_,.inl (SqL.of (sm _ _ J6.li.at')),rfl,UI ls,r H7 (.refl _)⟩
  ·intro x H7 hx _ sm R r
   walk_at "rd"
   exact r H7 (.refl _)
  ·intro D H7 hD sm hd
   rw [Yek,Ya1] at hd
   generalize hot:(Ya6.filter fun x => !decide (x∈ls))=ot at hd
   have hne:0<ot.length:=by
    refine Nat.pos_of_ne_zero fun z=>?_
    have h0:ot=[]:=List.length_eq_zero_iff.mp z
    rw [← hot,List.filter_eq_nil_iff] at h0
    have:=YbX YfD (l':=ls) fun x hx=>by
     have:=h0 x hx
     simpa using this
    have e26:Ya6.length=26:=rfl
    omega
   have hol:(vst ot).length=ot.length:=by rw [vst,List.length_map]
   obtain ⟨i,hi,hi2⟩:=XZ (ns.getD 26 0) (j:=(ot.length:Int)) (by omega)
   have hil:i<ot.length:=by omega
   have hat:(vst ot)[i]?=some (.str (S ot[i])):=by rw [vst,List.getElem?_map,List.getElem?_eq_getElem hil];rfl
   have hxm:ot[i]∉ls:=by
    have:ot[i]∈ot:=List.getElem_mem hil
    generalize ot[i]=x at this
    rw [← hot] at this
    simpa using (List.mem_filter.mp this).2
   walk_at "rd"
   refine ⟨a,ns,26,rfl,(J6.li.sm.trans sm).seq hS,hl,_,.inl (SqL.of hd),_,rfl,by omega,?_⟩
   rw [hol,hi]
   refine ⟨_,SqL.of hd,_,YC hat,B,bk,ot[i],rfl,bks _ (J6.keep sm),by omega,U8 (by rw [hbk];exact hxm),fun H8 s8=>?_⟩
   walk_at "rd"
   exact hNn _ _ ⟨_,rfl,(J6.keep sm).keep s8,(hF6.keep sm).keep s8⟩
 rintro σ H7 ⟨o12,rfl,J7,hF7⟩
 have hFH:H F=none:=J4.li.sm.free hFn
 have nBF:B≠F:=YB J4.hB hFn
 have nNF:N≠F:=YB J4.li.at' hFn
 obtain ⟨us7,f1,f2,f3⟩:=id hF7
 walk_at "rd"
 refine ⟨.inl ⟨rfl,_,SqL.of f1⟩,few (by decide),fun p1 hp1=>⟨few (by decide),fun p2 hp2=>⟨few (by decide),fun p3 hp3=>?_⟩⟩⟩
 have u1:=Same.upd_new hp1 (.tup [])
 have u2:=Same.upd_new hp2 (.tup [V.str (Str.ofString "row"),V.ref p1])
 have u3:=Same.upd_new hp3 (.tup [V.str (Str.ofString "more"),V.ref p2])
 have J8:=((J7.keep u1).keep u2).keep u3
 have hF8:=u3 _ _ (u2 _ _ (u1 _ _ f1))
 refine ⟨us7,hF8,few (by omega),?_⟩
 generalize upd (upd (upd H7 p1 (HO.tup [])) p2 (HO.tup [V.str (Str.ofString "row"),V.ref p1])) p3 (HO.tup [V.str (Str.ofString "more"),V.ref p2])=H8 at J8 hF8 ⊢
 have tk:Tk H8 (upd H8 F (.lst (us7++[V.ref p3]))):=fun a ys ha=>by rw [Yt (Wk ha hF8 (by intro z;cases z))];exact ha
 have J9:LJ H (upd H8 F (.lst (us7++[V.ref p3]))) N B ls bk us:=⟨⟨.upd_over hFH J8.li.sm _,J8.li.nn,by rw [Yt nNF];exact J8.li.at',J8.li.ok⟩,J8.bn,J8.ne,by rw [Yt nBF];exact J8.hB,J8.ps.keep tk,J8.sh⟩
 refine read _ _ _ fun F2 H9 s9 hF2 hb9=>both H9 F2 _ (J9.keep s9) hb9 fun H10 s10=>⟨_,rfl,Xb rfl (shown H10 _ ((J9.keep s9).keep s10) fun H11 s11=>⟨_,_,.str (S (YM [10] (bkT bk))),rfl,rfl,rfl,fun H12 _=>q H12⟩)⟩
theorem us1 {α:Type} {us:List α} (h:us.length=1):∃ a0,us=[a0]:=by
 match us,h with
 | [a0],_=>exact ⟨_,rfl⟩
theorem us2 {α:Type} {us:List α} (h:us.length=2):∃ a0 a1,us=[a0,a1]:=by
 match us,h with
 | [a0,a1],_=>exact ⟨_,_,rfl⟩
theorem us3 {α:Type} {us:List α} (h:us.length=3):∃ a0 a1 a2,us=[a0,a1,a2]:=by
 match us,h with
 | [a0,a1,a2],_=>exact ⟨_,_,_,rfl⟩
theorem us4 {α:Type} {us:List α} (h:us.length=4):∃ a0 a1 a2 a3,us=[a0,a1,a2,a3]:=by
 match us,h with
 | [a0,a1,a2,a3],_=>exact ⟨_,_,_,_,rfl⟩
theorem us7 {α:Type} {us:List α} (h:us.length=7):∃ a0 a1 a2 a3 a4 a5 a6,us=[a0,a1,a2,a3,a4,a5,a6]:=by
 match us,h with
 | [a0,a1,a2,a3,a4,a5,a6],_=>exact ⟨_,_,_,_,_,_,_,rfl⟩
structure Top (K:PySem.W.Frag) (mg:Str→Option Value) (Z1:Addr) (Z2:Addr) (Z3:Addr) (Z6:Addr) (Z4:Addr) (Z5:Addr) (Z0:Addr):Prop where
 Z2H:∀ P w base,(Gx.mk P w K mg base).Raw "is_figure" "is_figure" Z45 ["sign"]
 Z0L:∀ P w base,(Gx.mk P w K mg base).Raw "is_small_letter" "is_small_letter" Z1W ["sign"]
 Z0q:∀ P w base,(Gx.mk P w K mg base).Raw "is_letter_or_figure" "is_letter_or_figure" Z14 ["sign"]
 Z1y:∀ P w base,(Gx.mk P w K mg base).Raw "is_word_sign" "is_word_sign" Z2P ["sign"]
 Z3a:∀ P w base,(Gx.mk P w K mg base).Raw "is_label" "is_label" Z4C ["text"]
 Z0r:∀ P w base,(Gx.mk P w K mg base).RawI "NoteReader" Z0 "NoteReader.__init__" Z15 ["self","text"]
 Z0b:∀ P w base,(Gx.mk P w K mg base).RawM Z0 "sign_here" "NoteReader.sign_here" Z0O ["self"]
 Z0E:∀ P w base,(Gx.mk P w K mg base).RawM Z0 "takes" "NoteReader.takes" Z1K ["self","sign"]
 Z08:∀ P w base,(Gx.mk P w K mg base).RawM Z0 "word_signs" "NoteReader.word_signs" Z0H ["self"]
 Z0z:∀ P w base,(Gx.mk P w K mg base).RawM Z0 "at_end" "NoteReader.at_end" Z1q ["self"]
 Zf:∀ P w base,(Gx.mk P w K mg base).RawM Z0 "labelled_note" "NoteReader.labelled_note" Z03 ["self"]
 Zg:∀ P w base,(Gx.mk P w K mg base).RawM Z0 "bracketed_notes" "NoteReader.bracketed_notes" ZY ["self"]
 Z10:∀ P w base,(Gx.mk P w K mg base).Raw "refuse_crowded" "refuse_crowded" Z0S ["text"]
 Z2I:∀ P w base,(Gx.mk P w K mg base).Raw "read_note" "read_note" Z2v ["text"]
 Z11:∀ P w base,(Gx.mk P w K mg base).Raw "is_number_word" "is_number_word" Z0T ["word"]
 Z2J:∀ P w base,(Gx.mk P w K mg base).Raw "lone_word" "lone_word" Z2w ["note"]
 Z0s:∀ P w base,(Gx.mk P w K mg base).Raw "refuse_other_length" "refuse_other_length" Z0n ["notes","least","most"]
 Z12:∀ P w base,(Gx.mk P w K mg base).Raw "number_drafted" "number_drafted" Z0U ["note"]
 Z1S:∀ P w base,(Gx.mk P w K mg base).Raw "use_drafted" "use_drafted" Z1N ["name"]
 Z1g:∀ P w base,(Gx.mk P w K mg base).Raw "whole_drafted" "whole_drafted" Z17 ["notes"]
 Z1z:∀ P w base,(Gx.mk P w K mg base).Raw "text_drafted" "text_drafted" Z1s ["notes"]
 ZH:∀ P w base,(Gx.mk P w K mg base).Raw "row_drafted" "row_drafted" Z1M ["notes"]
 Zm:∀ P w base,(Gx.mk P w K mg base).Raw "one_part_drafted" "one_part_drafted" Z0A ["kind","notes"]
 Zu:∀ P w base,(Gx.mk P w K mg base).Raw "alike_drafted" "alike_drafted" Z18 ["notes"]
 Zr:∀ P w base,(Gx.mk P w K mg base).Raw "branch_drafted" "branch_drafted" Z0V ["note"]
 Zz:∀ P w base,(Gx.mk P w K mg base).Raw "pick_drafted" "pick_drafted" Z1t ["notes"]
 Zk:∀ P w base,(Gx.mk P w K mg base).Raw "shape_drafted" "shape_drafted" Z19 ["note"]
 Z2g:∀ P w base,(Gx.mk P w K mg base).Raw "read_draft" "read_draft" Z25 ["text"]
 Z3b:∀ P w base,(Gx.mk P w K mg base).Raw "parts_of" "parts_of" Z32 ["shape"]
 Zn:∀ P w base,(Gx.mk P w K mg base).Raw "shapes_within" "shapes_within" Z1a ["shape"]
 Z1A:∀ P w base,(Gx.mk P w K mg base).Raw "refuse_twice" "refuse_twice" Z1u ["draft"]
 Z0M:∀ P w base,(Gx.mk P w K mg base).Raw "refuse_no_range" "refuse_no_range" Z0J ["draft"]
 Zt:∀ P w base,(Gx.mk P w K mg base).Raw "shown_within" "shown_within" Z1v ["shape"]
 Zy:∀ P w base,(Gx.mk P w K mg base).Raw "show_shape" "show_shape" Z26 ["shape"]
 Z2h:∀ P w base,(Gx.mk P w K mg base).Raw "names_used" "names_used" Z27 ["shape"]
 Z3c:∀ P w base,(Gx.mk P w K mg base).Raw "shape_of" "shape_of" Z33 ["book","name"]
 Z0t:∀ P w base,(Gx.mk P w K mg base).Raw "refuse_crowded_rows" "refuse_crowded_rows" Z0o ["rows"]
 Z1B:∀ P w base,(Gx.mk P w K mg base).Raw "pair_drafted" "pair_drafted" Z1w ["row"]
 Z0c:∀ P w base,(Gx.mk P w K mg base).Raw "refuse_twice_in_book" "refuse_twice_in_book" Z0a ["book"]
 Z13:∀ P w base,(Gx.mk P w K mg base).Raw "refuse_no_name" "refuse_no_name" Z0Y ["book"]
 Z2K:∀ P w base,(Gx.mk P w K mg base).Raw "show_book" "show_book" Z2z ["book"]
 Z2i:∀ P w base,(Gx.mk P w K mg base).Raw "leads_back" "leads_back" Z28 ["book","name"]
 Z0F:∀ P w base,(Gx.mk P w K mg base).Raw "refuse_no_ground" "refuse_no_ground" Z0B ["book"]
 Z2L:∀ P w base,(Gx.mk P w K mg base).Raw "read_book" "read_book" Z2y ["text"]
 Z1T:∀ P w base,(Gx.mk P w K mg base).Raw "_law_cell_at" "_law_cell_at" Z1P ["_law_script","_law_k"]
 Z3d:∀ P w base,(Gx.mk P w K mg base).Raw "_law_word" "_law_word" Z34 ["_law_cell","_law_size"]
 Z2M:∀ P w base,(Gx.mk P w K mg base).Raw "_law_names" "_law_names" Z2A ["_law_cell","_law_many"]
 Z2N:∀ P w base,(Gx.mk P w K mg base).Raw "_law_shape" "_law_shape" Z2B ["_law_names_here","_law_one","_law_other","_law_kind"]
 ZN:∀ P w base,(Gx.mk P w K mg base).Raw "_law_text" "_law_text" Z35 ["_law_shape_here"]
 ZO:∀ P w base,(Gx.mk P w K mg base).Raw "_law_uses" "_law_uses" Z36 ["_law_shape_here"]
 Zd:∀ P w base,(Gx.mk P w K mg base).Raw "_law_same" "_law_same" Z37 ["_law_found","_law_due"]
 Z1U:∀ P w base,(Gx.mk P w K mg base).Raw "_law_no_name" "_law_no_name" Z1Q ["_law_book","_law_name"]
 Z9:Cls K Z0
 Zc:Xc K Z0 "text"
 Zb:Xc K Z0 "place"
 Z2t:∀ P w base,(Gx.mk P w K mg base).Con "LONGEST_LABEL" (.int 8)
 ZR:∀ P w base,(Gx.mk P w K mg base).Con "LONGEST_WORD" (.int 62)
 Z2u:∀ P w base,(Gx.mk P w K mg base).Con "MOST_BRACKETS" (.int 6)
 ZD:∀ P w base,(Gx.mk P w K mg base).Con "MOST_BRANCHES" (.int 10)
 Z30:∀ P w base,(Gx.mk P w K mg base).Con "MOST_FIGURES" (.int 60)
 ZU:∀ P w base,(Gx.mk P w K mg base).Con "MOST_PARTS" (.int 8)
 Z4d:∀ P w base,(Gx.mk P w K mg base).Con "MOST_ROWS" (.int 8)
 Z3y:∀ P w base,(Gx.mk P w K mg base).Con "MOST_SIGNS" (.int 2000)
 ZV:∀ P w base,(Gx.mk P w K mg base).Con "MOST_TIMES" (.int 6)
 ZI:∀ P w base,(Gx.mk P w K mg base).ConT "OF_ONE_PART" ([.str "many",.str "rising",.str "unlike"])
 Z0D:mg "ValueError"=none
 b_all:mg "all"=none
 b_bool:mg "bool"=none
 b_int:mg "int"=none
 Z8:mg "isinstance"=none
 b_len:mg "len"=none
 b_list:mg "list"=none
 ZW:mg "range"=none
 b_set:mg "set"=none
 b_str:mg "str"=none
 Za:mg "tuple"=none
 b_zip:mg "zip"=none
 x_CountError:mg "CountError"=some (.ref Z1)
 x_NoNote:mg "NoNote"=some (.ref Z2)
 x_Crowded:mg "Crowded"=some (.ref Z3)
 x_Twice:mg "Twice"=some (.ref Z6)
 x_NoRange:mg "NoRange"=some (.ref Z4)
 x_NoName:mg "NoName"=some (.ref Z5)
 r_Crowded:PySem.W.excIn K Z3 YY "ValueError.__new__"=true
 r_NoName:PySem.W.excIn K Z5 YY "ValueError.__new__"=true
 r_NoNote:PySem.W.excIn K Z2 YY "ValueError.__new__"=true
 r_NoRange:PySem.W.excIn K Z4 YY "ValueError.__new__"=true
 r_Twice:PySem.W.excIn K Z6 YY "ValueError.__new__"=true
 t_NoName:ExcT K Z5
 i_NoName_CountError:PySem.W.kitOne K (.ref Z5) (.ref Z1)=some true
 i_NoName_ValueError:PySem.W.kitOne K (.ref Z5) (.type "ValueError")=some true
 m_NoName_NoName:PySem.W.exmOne K (.ref Z5) (.ref Z5)=some true
theorem Yem {K:PySem.W.Frag} {mg:Str→Option Value} {Z1 Z2 Z3 Z6 Z4 Z5 Z0:Addr}  (t:Top K mg Z1 Z2 Z3 Z6 Z4 Z5 Z0) (P:Program) (w:World) (base:Heap) :
  Qd (Gx.mk P w K mg base) 31 ["_law_script","_law_many","_law_names_here","_law_odd","_law_word_here","_law_book","_law_k","_law_cells","_law_text_here","_law_found","_law_name","_law_shape_here","_law_others"] "law" QX (UU K):=by
 have T_:Rd.Txt (Gx.mk P w K mg base) Z0:=⟨t.Z9,t.Zc,t.Zb⟩
 have Z4b:=Rd.ok_fig (g:=Gx.mk P w K mg base) (t.Z2H P w base)
 have Z21:=Rd.ok_small (g:=Gx.mk P w K mg base) (t.Z0L P w base)
 have Z16:=Rd.ok_lf (t.Z0q P w base) Z21 Z4b
 have Z54:=Rd.ok_ws (t.Z1y P w base) Z16
 have Z05:=Rd.ok_label (t.Z3a P w base) Z21 (t.Z2t P w base) t.b_len t.b_all
 have Z2Z:=Rd.ok_init T_ (t.Z0r P w base)
 have Z0R:=Rd.ok_here T_ (t.Z0b P w base)
 have Zh:=Rd.ok_takes T_ (t.Z0E P w base) Z0R
 have Zp:=Rd.ok_word T_ (t.Z08 P w base) Z0R Z54
 have Z3s:=Rd.ok_end T_ (t.Z0z P w base) t.b_len
 have Z1h:=Zj (g:=Gx.mk P w K mg base) (m:=0) (k:=4) (Z1:=Z1) (Z2:=Z2) (Z3:=Z3) (Z6:=Z6) (Z4:=Z4) (Z5:=Z5) (Z0:=Z0) (t.Zg P w base) (Zh.mono (by decide)) ((t.Zf P w base).noneX (fun _ _ _ _ h=>Rd.no_ln h)) t.Za t.Z9 t.Zc t.Zb t.x_NoNote t.r_NoNote
 have Z1C:=Zl (g:=Gx.mk P w K mg base) (m:=0) (k:=5) (Z1:=Z1) (Z2:=Z2) (Z3:=Z3) (Z6:=Z6) (Z4:=Z4) (Z5:=Z5) (Z0:=Z0) (t.Zf P w base) (Z05.mono (by decide)) (Zh.mono (by decide)) (Zp.mono (by decide)) (Z1h.mono (by decide)) t.b_len (t.ZR P w base) t.Z9 t.Zc t.Zb t.x_NoNote t.r_NoNote
 have Z1i:=Zj (g:=Gx.mk P w K mg base) (m:=1) (k:=6) (Z1:=Z1) (Z2:=Z2) (Z3:=Z3) (Z6:=Z6) (Z4:=Z4) (Z5:=Z5) (Z0:=Z0) (t.Zg P w base) (Zh.mono (by decide)) (Z1C.mono (by decide)) t.Za t.Z9 t.Zc t.Zb t.x_NoNote t.r_NoNote
 have Z1D:=Zl (g:=Gx.mk P w K mg base) (m:=1) (k:=7) (Z1:=Z1) (Z2:=Z2) (Z3:=Z3) (Z6:=Z6) (Z4:=Z4) (Z5:=Z5) (Z0:=Z0) (t.Zf P w base) (Z05.mono (by decide)) (Zh.mono (by decide)) (Zp.mono (by decide)) (Z1i.mono (by decide)) t.b_len (t.ZR P w base) t.Z9 t.Zc t.Zb t.x_NoNote t.r_NoNote
 have Z1j:=Zj (g:=Gx.mk P w K mg base) (m:=2) (k:=8) (Z1:=Z1) (Z2:=Z2) (Z3:=Z3) (Z6:=Z6) (Z4:=Z4) (Z5:=Z5) (Z0:=Z0) (t.Zg P w base) (Zh.mono (by decide)) (Z1D.mono (by decide)) t.Za t.Z9 t.Zc t.Zb t.x_NoNote t.r_NoNote
 have Z1E:=Zl (g:=Gx.mk P w K mg base) (m:=2) (k:=9) (Z1:=Z1) (Z2:=Z2) (Z3:=Z3) (Z6:=Z6) (Z4:=Z4) (Z5:=Z5) (Z0:=Z0) (t.Zf P w base) (Z05.mono (by decide)) (Zh.mono (by decide)) (Zp.mono (by decide)) (Z1j.mono (by decide)) t.b_len (t.ZR P w base) t.Z9 t.Zc t.Zb t.x_NoNote t.r_NoNote
 have Z1k:=Zj (g:=Gx.mk P w K mg base) (m:=3) (k:=10) (Z1:=Z1) (Z2:=Z2) (Z3:=Z3) (Z6:=Z6) (Z4:=Z4) (Z5:=Z5) (Z0:=Z0) (t.Zg P w base) (Zh.mono (by decide)) (Z1E.mono (by decide)) t.Za t.Z9 t.Zc t.Zb t.x_NoNote t.r_NoNote
 have Z1F:=Zl (g:=Gx.mk P w K mg base) (m:=3) (k:=11) (Z1:=Z1) (Z2:=Z2) (Z3:=Z3) (Z6:=Z6) (Z4:=Z4) (Z5:=Z5) (Z0:=Z0) (t.Zf P w base) (Z05.mono (by decide)) (Zh.mono (by decide)) (Zp.mono (by decide)) (Z1k.mono (by decide)) t.b_len (t.ZR P w base) t.Z9 t.Zc t.Zb t.x_NoNote t.r_NoNote
 have Z1l:=Zj (g:=Gx.mk P w K mg base) (m:=4) (k:=12) (Z1:=Z1) (Z2:=Z2) (Z3:=Z3) (Z6:=Z6) (Z4:=Z4) (Z5:=Z5) (Z0:=Z0) (t.Zg P w base) (Zh.mono (by decide)) (Z1F.mono (by decide)) t.Za t.Z9 t.Zc t.Zb t.x_NoNote t.r_NoNote
 have Z1G:=Zl (g:=Gx.mk P w K mg base) (m:=4) (k:=13) (Z1:=Z1) (Z2:=Z2) (Z3:=Z3) (Z6:=Z6) (Z4:=Z4) (Z5:=Z5) (Z0:=Z0) (t.Zf P w base) (Z05.mono (by decide)) (Zh.mono (by decide)) (Zp.mono (by decide)) (Z1l.mono (by decide)) t.b_len (t.ZR P w base) t.Z9 t.Zc t.Zb t.x_NoNote t.r_NoNote
 have Z1m:=Zj (g:=Gx.mk P w K mg base) (m:=5) (k:=14) (Z1:=Z1) (Z2:=Z2) (Z3:=Z3) (Z6:=Z6) (Z4:=Z4) (Z5:=Z5) (Z0:=Z0) (t.Zg P w base) (Zh.mono (by decide)) (Z1G.mono (by decide)) t.Za t.Z9 t.Zc t.Zb t.x_NoNote t.r_NoNote
 have Z1H:=Zl (g:=Gx.mk P w K mg base) (m:=5) (k:=15) (Z1:=Z1) (Z2:=Z2) (Z3:=Z3) (Z6:=Z6) (Z4:=Z4) (Z5:=Z5) (Z0:=Z0) (t.Zf P w base) (Z05.mono (by decide)) (Zh.mono (by decide)) (Zp.mono (by decide)) (Z1m.mono (by decide)) t.b_len (t.ZR P w base) t.Z9 t.Zc t.Zb t.x_NoNote t.r_NoNote
 have Z1n:=Zj (g:=Gx.mk P w K mg base) (m:=6) (k:=16) (Z1:=Z1) (Z2:=Z2) (Z3:=Z3) (Z6:=Z6) (Z4:=Z4) (Z5:=Z5) (Z0:=Z0) (t.Zg P w base) (Zh.mono (by decide)) (Z1H.mono (by decide)) t.Za t.Z9 t.Zc t.Zb t.x_NoNote t.r_NoNote
 have Z1V:=Zl (g:=Gx.mk P w K mg base) (m:=6) (k:=17) (Z1:=Z1) (Z2:=Z2) (Z3:=Z3) (Z6:=Z6) (Z4:=Z4) (Z5:=Z5) (Z0:=Z0) (t.Zf P w base) (Z05.mono (by decide)) (Zh.mono (by decide)) (Zp.mono (by decide)) (Z1n.mono (by decide)) t.b_len (t.ZR P w base) t.Z9 t.Zc t.Zb t.x_NoNote t.r_NoNote
 have Z2j:=Z3J (g:=Gx.mk P w K mg base) (Z1:=Z1) (Z2:=Z2) (Z3:=Z3) (Z6:=Z6) (Z4:=Z4) (Z5:=Z5) (Z0:=Z0) (t.Z10 P w base) t.b_len (t.Z2u P w base) (t.Z3y P w base) t.x_Crowded t.r_Crowded
 have G_read_note:=Yat (g:=Gx.mk P w K mg base) (k:=18) (Z1:=Z1) (Z2:=Z2) (Z3:=Z3) (Z6:=Z6) (Z4:=Z4) (Z5:=Z5) (Z0:=Z0) (t.Z2I P w base) (Z2j.mono (by decide)) Z2Z (by decide) (Z1V.mono (by decide)) (Z3s.mono (by decide)) t.Z8 t.b_str t.Z9 t.Zc t.Zb t.x_NoNote t.r_NoNote
 have Z4j:=Z3K (g:=Gx.mk P w K mg base) (k:=1) (Z1:=Z1) (Z2:=Z2) (Z3:=Z3) (Z6:=Z6) (Z4:=Z4) (Z5:=Z5) (Z0:=Z0) (t.Z11 P w base) (Z4b.mono (by decide)) t.b_all t.b_len (t.Z30 P w base)
 have Z4c:=YaG (g:=Gx.mk P w K mg base) (Z1:=Z1) (Z2:=Z2) (Z3:=Z3) (Z6:=Z6) (Z4:=Z4) (Z5:=Z5) (Z0:=Z0) (t.Z2J P w base) t.x_NoNote t.r_NoNote
 have Z7:=Z2C (g:=Gx.mk P w K mg base) (Z1:=Z1) (Z2:=Z2) (Z3:=Z3) (Z6:=Z6) (Z4:=Z4) (Z5:=Z5) (Z0:=Z0) (t.Z0s P w base) t.b_len t.x_NoNote t.r_NoNote
 have Zx:=Z3L (g:=Gx.mk P w K mg base) (k:=2) (Z1:=Z1) (Z2:=Z2) (Z3:=Z3) (Z6:=Z6) (Z4:=Z4) (Z5:=Z5) (Z0:=Z0) (t.Z12 P w base) (Z4j.mono (by decide)) (Z4c.mono (by decide)) t.b_int t.x_NoNote t.r_NoNote
 have ZX:=Z4W (g:=Gx.mk P w K mg base) (k:=2) (Z1:=Z1) (Z2:=Z2) (Z3:=Z3) (Z6:=Z6) (Z4:=Z4) (Z5:=Z5) (Z0:=Z0) (t.Z1S P w base) (Z05.mono (by decide)) t.x_NoNote t.r_NoNote
 have ZK:=Z4g (g:=Gx.mk P w K mg base) (k:=3) (Z1:=Z1) (Z2:=Z2) (Z3:=Z3) (Z6:=Z6) (Z4:=Z4) (Z5:=Z5) (Z0:=Z0) (t.Z1g P w base) (Zx.mono (by decide)) (Z7.mono (by decide))
 have ZS:=Z4E (g:=Gx.mk P w K mg base) (k:=2) (Z1:=Z1) (Z2:=Z2) (Z3:=Z3) (Z6:=Z6) (Z4:=Z4) (Z5:=Z5) (Z0:=Z0) (t.Z1z P w base) (Z16.mono (by decide)) (Z4c.mono (by decide)) (Z7.mono (by decide)) t.b_all t.x_NoNote t.r_NoNote
 have Z3z:=ZA (g:=Gx.mk P w K mg base) (m:=0) (k:=4) (Z1:=Z1) (Z2:=Z2) (Z3:=Z3) (Z6:=Z6) (Z4:=Z4) (Z5:=Z5) (Z0:=Z0) (t.Zr P w base) ((t.Zk P w base).noneX (fun _ _ _ _ h=>QY h)) t.x_NoNote t.r_NoNote
 have Z4K:=ZQ (g:=Gx.mk P w K mg base) (m:=0) (k:=5) (Z1:=Z1) (Z2:=Z2) (Z3:=Z3) (Z6:=Z6) (Z4:=Z4) (Z5:=Z5) (Z0:=Z0) (t.ZH P w base) (Z7.mono (by decide)) ((t.Zk P w base).noneX (fun _ _ _ _ h=>QY h)) t.Za (t.ZU P w base)
 have Z3e:=Zs (g:=Gx.mk P w K mg base) (m:=0) (k:=5) (Z1:=Z1) (Z2:=Z2) (Z3:=Z3) (Z6:=Z6) (Z4:=Z4) (Z5:=Z5) (Z0:=Z0) (t.Zm P w base) (Z7.mono (by decide)) ((t.Zk P w base).noneX (fun _ _ _ _ h=>QY h))
 have Z3O:=ZF (g:=Gx.mk P w K mg base) (m:=0) (k:=5) (Z1:=Z1) (Z2:=Z2) (Z3:=Z3) (Z6:=Z6) (Z4:=Z4) (Z5:=Z5) (Z0:=Z0) (t.Zu P w base) (Zx.mono (by decide)) (Z7.mono (by decide)) ((t.Zk P w base).noneX (fun _ _ _ _ h=>QY h)) (t.ZV P w base) t.x_NoNote t.r_NoNote
 have Z4k:=ZJ (g:=Gx.mk P w K mg base) (m:=0) (k:=5) (Z1:=Z1) (Z2:=Z2) (Z3:=Z3) (Z6:=Z6) (Z4:=Z4) (Z5:=Z5) (Z0:=Z0) (t.Zz P w base) (Z7.mono (by decide)) (Z3z.mono (by decide)) t.Za (t.ZD P w base)
 have Z0g:=ZG (g:=Gx.mk P w K mg base) (m:=0) (k:=6) (Z1:=Z1) (Z2:=Z2) (Z3:=Z3) (Z6:=Z6) (Z4:=Z4) (Z5:=Z5) (Z0:=Z0) (t.Zk P w base) (ZK.mono (by decide)) (ZS.mono (by decide)) (Z4K.mono (by decide)) (Z3e.mono (by decide)) (Z3O.mono (by decide)) (Z4k.mono (by decide)) (ZX.mono (by decide)) (t.ZI P w base) t.x_NoNote t.r_NoNote
 have Z3A:=ZA (g:=Gx.mk P w K mg base) (m:=1) (k:=7) (Z1:=Z1) (Z2:=Z2) (Z3:=Z3) (Z6:=Z6) (Z4:=Z4) (Z5:=Z5) (Z0:=Z0) (t.Zr P w base) (Z0g.mono (by decide)) t.x_NoNote t.r_NoNote
 have Z4L:=ZQ (g:=Gx.mk P w K mg base) (m:=1) (k:=8) (Z1:=Z1) (Z2:=Z2) (Z3:=Z3) (Z6:=Z6) (Z4:=Z4) (Z5:=Z5) (Z0:=Z0) (t.ZH P w base) (Z7.mono (by decide)) (Z0g.mono (by decide)) t.Za (t.ZU P w base)
 have Z3f:=Zs (g:=Gx.mk P w K mg base) (m:=1) (k:=8) (Z1:=Z1) (Z2:=Z2) (Z3:=Z3) (Z6:=Z6) (Z4:=Z4) (Z5:=Z5) (Z0:=Z0) (t.Zm P w base) (Z7.mono (by decide)) (Z0g.mono (by decide))
 have Z3P:=ZF (g:=Gx.mk P w K mg base) (m:=1) (k:=8) (Z1:=Z1) (Z2:=Z2) (Z3:=Z3) (Z6:=Z6) (Z4:=Z4) (Z5:=Z5) (Z0:=Z0) (t.Zu P w base) (Zx.mono (by decide)) (Z7.mono (by decide)) (Z0g.mono (by decide)) (t.ZV P w base) t.x_NoNote t.r_NoNote
 have Z4l:=ZJ (g:=Gx.mk P w K mg base) (m:=1) (k:=8) (Z1:=Z1) (Z2:=Z2) (Z3:=Z3) (Z6:=Z6) (Z4:=Z4) (Z5:=Z5) (Z0:=Z0) (t.Zz P w base) (Z7.mono (by decide)) (Z3A.mono (by decide)) t.Za (t.ZD P w base)
 have Z0h:=ZG (g:=Gx.mk P w K mg base) (m:=1) (k:=9) (Z1:=Z1) (Z2:=Z2) (Z3:=Z3) (Z6:=Z6) (Z4:=Z4) (Z5:=Z5) (Z0:=Z0) (t.Zk P w base) (ZK.mono (by decide)) (ZS.mono (by decide)) (Z4L.mono (by decide)) (Z3f.mono (by decide)) (Z3P.mono (by decide)) (Z4l.mono (by decide)) (ZX.mono (by decide)) (t.ZI P w base) t.x_NoNote t.r_NoNote
 have Z3B:=ZA (g:=Gx.mk P w K mg base) (m:=2) (k:=10) (Z1:=Z1) (Z2:=Z2) (Z3:=Z3) (Z6:=Z6) (Z4:=Z4) (Z5:=Z5) (Z0:=Z0) (t.Zr P w base) (Z0h.mono (by decide)) t.x_NoNote t.r_NoNote
 have Z4M:=ZQ (g:=Gx.mk P w K mg base) (m:=2) (k:=11) (Z1:=Z1) (Z2:=Z2) (Z3:=Z3) (Z6:=Z6) (Z4:=Z4) (Z5:=Z5) (Z0:=Z0) (t.ZH P w base) (Z7.mono (by decide)) (Z0h.mono (by decide)) t.Za (t.ZU P w base)
 have Z3g:=Zs (g:=Gx.mk P w K mg base) (m:=2) (k:=11) (Z1:=Z1) (Z2:=Z2) (Z3:=Z3) (Z6:=Z6) (Z4:=Z4) (Z5:=Z5) (Z0:=Z0) (t.Zm P w base) (Z7.mono (by decide)) (Z0h.mono (by decide))
 have Z3Q:=ZF (g:=Gx.mk P w K mg base) (m:=2) (k:=11) (Z1:=Z1) (Z2:=Z2) (Z3:=Z3) (Z6:=Z6) (Z4:=Z4) (Z5:=Z5) (Z0:=Z0) (t.Zu P w base) (Zx.mono (by decide)) (Z7.mono (by decide)) (Z0h.mono (by decide)) (t.ZV P w base) t.x_NoNote t.r_NoNote
 have Z4m:=ZJ (g:=Gx.mk P w K mg base) (m:=2) (k:=11) (Z1:=Z1) (Z2:=Z2) (Z3:=Z3) (Z6:=Z6) (Z4:=Z4) (Z5:=Z5) (Z0:=Z0) (t.Zz P w base) (Z7.mono (by decide)) (Z3B.mono (by decide)) t.Za (t.ZD P w base)
 have Z0i:=ZG (g:=Gx.mk P w K mg base) (m:=2) (k:=12) (Z1:=Z1) (Z2:=Z2) (Z3:=Z3) (Z6:=Z6) (Z4:=Z4) (Z5:=Z5) (Z0:=Z0) (t.Zk P w base) (ZK.mono (by decide)) (ZS.mono (by decide)) (Z4M.mono (by decide)) (Z3g.mono (by decide)) (Z3Q.mono (by decide)) (Z4m.mono (by decide)) (ZX.mono (by decide)) (t.ZI P w base) t.x_NoNote t.r_NoNote
 have Z3C:=ZA (g:=Gx.mk P w K mg base) (m:=3) (k:=13) (Z1:=Z1) (Z2:=Z2) (Z3:=Z3) (Z6:=Z6) (Z4:=Z4) (Z5:=Z5) (Z0:=Z0) (t.Zr P w base) (Z0i.mono (by decide)) t.x_NoNote t.r_NoNote
 have Z4N:=ZQ (g:=Gx.mk P w K mg base) (m:=3) (k:=14) (Z1:=Z1) (Z2:=Z2) (Z3:=Z3) (Z6:=Z6) (Z4:=Z4) (Z5:=Z5) (Z0:=Z0) (t.ZH P w base) (Z7.mono (by decide)) (Z0i.mono (by decide)) t.Za (t.ZU P w base)
 have Z3h:=Zs (g:=Gx.mk P w K mg base) (m:=3) (k:=14) (Z1:=Z1) (Z2:=Z2) (Z3:=Z3) (Z6:=Z6) (Z4:=Z4) (Z5:=Z5) (Z0:=Z0) (t.Zm P w base) (Z7.mono (by decide)) (Z0i.mono (by decide))
 have Z3R:=ZF (g:=Gx.mk P w K mg base) (m:=3) (k:=14) (Z1:=Z1) (Z2:=Z2) (Z3:=Z3) (Z6:=Z6) (Z4:=Z4) (Z5:=Z5) (Z0:=Z0) (t.Zu P w base) (Zx.mono (by decide)) (Z7.mono (by decide)) (Z0i.mono (by decide)) (t.ZV P w base) t.x_NoNote t.r_NoNote
 have Z4n:=ZJ (g:=Gx.mk P w K mg base) (m:=3) (k:=14) (Z1:=Z1) (Z2:=Z2) (Z3:=Z3) (Z6:=Z6) (Z4:=Z4) (Z5:=Z5) (Z0:=Z0) (t.Zz P w base) (Z7.mono (by decide)) (Z3C.mono (by decide)) t.Za (t.ZD P w base)
 have Z0j:=ZG (g:=Gx.mk P w K mg base) (m:=3) (k:=15) (Z1:=Z1) (Z2:=Z2) (Z3:=Z3) (Z6:=Z6) (Z4:=Z4) (Z5:=Z5) (Z0:=Z0) (t.Zk P w base) (ZK.mono (by decide)) (ZS.mono (by decide)) (Z4N.mono (by decide)) (Z3h.mono (by decide)) (Z3R.mono (by decide)) (Z4n.mono (by decide)) (ZX.mono (by decide)) (t.ZI P w base) t.x_NoNote t.r_NoNote
 have Z3D:=ZA (g:=Gx.mk P w K mg base) (m:=4) (k:=16) (Z1:=Z1) (Z2:=Z2) (Z3:=Z3) (Z6:=Z6) (Z4:=Z4) (Z5:=Z5) (Z0:=Z0) (t.Zr P w base) (Z0j.mono (by decide)) t.x_NoNote t.r_NoNote
 have Z4O:=ZQ (g:=Gx.mk P w K mg base) (m:=4) (k:=17) (Z1:=Z1) (Z2:=Z2) (Z3:=Z3) (Z6:=Z6) (Z4:=Z4) (Z5:=Z5) (Z0:=Z0) (t.ZH P w base) (Z7.mono (by decide)) (Z0j.mono (by decide)) t.Za (t.ZU P w base)
 have Z3i:=Zs (g:=Gx.mk P w K mg base) (m:=4) (k:=17) (Z1:=Z1) (Z2:=Z2) (Z3:=Z3) (Z6:=Z6) (Z4:=Z4) (Z5:=Z5) (Z0:=Z0) (t.Zm P w base) (Z7.mono (by decide)) (Z0j.mono (by decide))
 have Z3S:=ZF (g:=Gx.mk P w K mg base) (m:=4) (k:=17) (Z1:=Z1) (Z2:=Z2) (Z3:=Z3) (Z6:=Z6) (Z4:=Z4) (Z5:=Z5) (Z0:=Z0) (t.Zu P w base) (Zx.mono (by decide)) (Z7.mono (by decide)) (Z0j.mono (by decide)) (t.ZV P w base) t.x_NoNote t.r_NoNote
 have Z4o:=ZJ (g:=Gx.mk P w K mg base) (m:=4) (k:=17) (Z1:=Z1) (Z2:=Z2) (Z3:=Z3) (Z6:=Z6) (Z4:=Z4) (Z5:=Z5) (Z0:=Z0) (t.Zz P w base) (Z7.mono (by decide)) (Z3D.mono (by decide)) t.Za (t.ZD P w base)
 have Z0k:=ZG (g:=Gx.mk P w K mg base) (m:=4) (k:=18) (Z1:=Z1) (Z2:=Z2) (Z3:=Z3) (Z6:=Z6) (Z4:=Z4) (Z5:=Z5) (Z0:=Z0) (t.Zk P w base) (ZK.mono (by decide)) (ZS.mono (by decide)) (Z4O.mono (by decide)) (Z3i.mono (by decide)) (Z3S.mono (by decide)) (Z4o.mono (by decide)) (ZX.mono (by decide)) (t.ZI P w base) t.x_NoNote t.r_NoNote
 have Z3E:=ZA (g:=Gx.mk P w K mg base) (m:=5) (k:=19) (Z1:=Z1) (Z2:=Z2) (Z3:=Z3) (Z6:=Z6) (Z4:=Z4) (Z5:=Z5) (Z0:=Z0) (t.Zr P w base) (Z0k.mono (by decide)) t.x_NoNote t.r_NoNote
 have Z4P:=ZQ (g:=Gx.mk P w K mg base) (m:=5) (k:=20) (Z1:=Z1) (Z2:=Z2) (Z3:=Z3) (Z6:=Z6) (Z4:=Z4) (Z5:=Z5) (Z0:=Z0) (t.ZH P w base) (Z7.mono (by decide)) (Z0k.mono (by decide)) t.Za (t.ZU P w base)
 have Z3j:=Zs (g:=Gx.mk P w K mg base) (m:=5) (k:=20) (Z1:=Z1) (Z2:=Z2) (Z3:=Z3) (Z6:=Z6) (Z4:=Z4) (Z5:=Z5) (Z0:=Z0) (t.Zm P w base) (Z7.mono (by decide)) (Z0k.mono (by decide))
 have Z3T:=ZF (g:=Gx.mk P w K mg base) (m:=5) (k:=20) (Z1:=Z1) (Z2:=Z2) (Z3:=Z3) (Z6:=Z6) (Z4:=Z4) (Z5:=Z5) (Z0:=Z0) (t.Zu P w base) (Zx.mono (by decide)) (Z7.mono (by decide)) (Z0k.mono (by decide)) (t.ZV P w base) t.x_NoNote t.r_NoNote
 have Z4p:=ZJ (g:=Gx.mk P w K mg base) (m:=5) (k:=20) (Z1:=Z1) (Z2:=Z2) (Z3:=Z3) (Z6:=Z6) (Z4:=Z4) (Z5:=Z5) (Z0:=Z0) (t.Zz P w base) (Z7.mono (by decide)) (Z3E.mono (by decide)) t.Za (t.ZD P w base)
 have Z0l:=ZG (g:=Gx.mk P w K mg base) (m:=5) (k:=21) (Z1:=Z1) (Z2:=Z2) (Z3:=Z3) (Z6:=Z6) (Z4:=Z4) (Z5:=Z5) (Z0:=Z0) (t.Zk P w base) (ZK.mono (by decide)) (ZS.mono (by decide)) (Z4P.mono (by decide)) (Z3j.mono (by decide)) (Z3T.mono (by decide)) (Z4p.mono (by decide)) (ZX.mono (by decide)) (t.ZI P w base) t.x_NoNote t.r_NoNote
 have Z3F:=ZA (g:=Gx.mk P w K mg base) (m:=6) (k:=22) (Z1:=Z1) (Z2:=Z2) (Z3:=Z3) (Z6:=Z6) (Z4:=Z4) (Z5:=Z5) (Z0:=Z0) (t.Zr P w base) (Z0l.mono (by decide)) t.x_NoNote t.r_NoNote
 have Z4Q:=ZQ (g:=Gx.mk P w K mg base) (m:=6) (k:=23) (Z1:=Z1) (Z2:=Z2) (Z3:=Z3) (Z6:=Z6) (Z4:=Z4) (Z5:=Z5) (Z0:=Z0) (t.ZH P w base) (Z7.mono (by decide)) (Z0l.mono (by decide)) t.Za (t.ZU P w base)
 have Z3k:=Zs (g:=Gx.mk P w K mg base) (m:=6) (k:=23) (Z1:=Z1) (Z2:=Z2) (Z3:=Z3) (Z6:=Z6) (Z4:=Z4) (Z5:=Z5) (Z0:=Z0) (t.Zm P w base) (Z7.mono (by decide)) (Z0l.mono (by decide))
 have Z3U:=ZF (g:=Gx.mk P w K mg base) (m:=6) (k:=23) (Z1:=Z1) (Z2:=Z2) (Z3:=Z3) (Z6:=Z6) (Z4:=Z4) (Z5:=Z5) (Z0:=Z0) (t.Zu P w base) (Zx.mono (by decide)) (Z7.mono (by decide)) (Z0l.mono (by decide)) (t.ZV P w base) t.x_NoNote t.r_NoNote
 have Z4q:=ZJ (g:=Gx.mk P w K mg base) (m:=6) (k:=23) (Z1:=Z1) (Z2:=Z2) (Z3:=Z3) (Z6:=Z6) (Z4:=Z4) (Z5:=Z5) (Z0:=Z0) (t.Zz P w base) (Z7.mono (by decide)) (Z3F.mono (by decide)) t.Za (t.ZD P w base)
 have Z0m:=ZG (g:=Gx.mk P w K mg base) (m:=6) (k:=24) (Z1:=Z1) (Z2:=Z2) (Z3:=Z3) (Z6:=Z6) (Z4:=Z4) (Z5:=Z5) (Z0:=Z0) (t.Zk P w base) (ZK.mono (by decide)) (ZS.mono (by decide)) (Z4Q.mono (by decide)) (Z3k.mono (by decide)) (Z3U.mono (by decide)) (Z4q.mono (by decide)) (ZX.mono (by decide)) (t.ZI P w base) t.x_NoNote t.r_NoNote
 have Z3G:=ZA (g:=Gx.mk P w K mg base) (m:=7) (k:=25) (Z1:=Z1) (Z2:=Z2) (Z3:=Z3) (Z6:=Z6) (Z4:=Z4) (Z5:=Z5) (Z0:=Z0) (t.Zr P w base) (Z0m.mono (by decide)) t.x_NoNote t.r_NoNote
 have Z4R:=ZQ (g:=Gx.mk P w K mg base) (m:=7) (k:=26) (Z1:=Z1) (Z2:=Z2) (Z3:=Z3) (Z6:=Z6) (Z4:=Z4) (Z5:=Z5) (Z0:=Z0) (t.ZH P w base) (Z7.mono (by decide)) (Z0m.mono (by decide)) t.Za (t.ZU P w base)
 have Z3l:=Zs (g:=Gx.mk P w K mg base) (m:=7) (k:=26) (Z1:=Z1) (Z2:=Z2) (Z3:=Z3) (Z6:=Z6) (Z4:=Z4) (Z5:=Z5) (Z0:=Z0) (t.Zm P w base) (Z7.mono (by decide)) (Z0m.mono (by decide))
 have Z3V:=ZF (g:=Gx.mk P w K mg base) (m:=7) (k:=26) (Z1:=Z1) (Z2:=Z2) (Z3:=Z3) (Z6:=Z6) (Z4:=Z4) (Z5:=Z5) (Z0:=Z0) (t.Zu P w base) (Zx.mono (by decide)) (Z7.mono (by decide)) (Z0m.mono (by decide)) (t.ZV P w base) t.x_NoNote t.r_NoNote
 have Z4r:=ZJ (g:=Gx.mk P w K mg base) (m:=7) (k:=26) (Z1:=Z1) (Z2:=Z2) (Z3:=Z3) (Z6:=Z6) (Z4:=Z4) (Z5:=Z5) (Z0:=Z0) (t.Zz P w base) (Z7.mono (by decide)) (Z3G.mono (by decide)) t.Za (t.ZD P w base)
 have Z4S:=ZG (g:=Gx.mk P w K mg base) (m:=7) (k:=27) (Z1:=Z1) (Z2:=Z2) (Z3:=Z3) (Z6:=Z6) (Z4:=Z4) (Z5:=Z5) (Z0:=Z0) (t.Zk P w base) (ZK.mono (by decide)) (ZS.mono (by decide)) (Z4R.mono (by decide)) (Z3l.mono (by decide)) (Z3V.mono (by decide)) (Z4r.mono (by decide)) (ZX.mono (by decide)) (t.ZI P w base) t.x_NoNote t.r_NoNote
 have G_read_draft:=QP (g:=Gx.mk P w K mg base) (k:=28) (Z1:=Z1) (Z2:=Z2) (Z3:=Z3) (Z6:=Z6) (Z4:=Z4) (Z5:=Z5) (Z0:=Z0) (t.Z2g P w base) (G_read_note.mono (by decide)) (Z4S.mono (by decide))
 have Zo:=Ybg (g:=Gx.mk P w K mg base) (Z1:=Z1) (Z2:=Z2) (Z3:=Z3) (Z6:=Z6) (Z4:=Z4) (Z5:=Z5) (Z0:=Z0) (t.Z3b P w base) t.b_list (t.ZI P w base)
 have Z3W:=Zw (g:=Gx.mk P w K mg base) (m:=0) (k:=1) (Z1:=Z1) (Z2:=Z2) (Z3:=Z3) (Z6:=Z6) (Z4:=Z4) (Z5:=Z5) (Z0:=Z0) (t.Zn P w base) (Zo.mono (by decide)) ((t.Zn P w base).none (fun _ _ _ _ h=>no_sw h))
 have Z3X:=Zw (g:=Gx.mk P w K mg base) (m:=1) (k:=2) (Z1:=Z1) (Z2:=Z2) (Z3:=Z3) (Z6:=Z6) (Z4:=Z4) (Z5:=Z5) (Z0:=Z0) (t.Zn P w base) (Zo.mono (by decide)) (Z3W.mono (by decide))
 have Z3Y:=Zw (g:=Gx.mk P w K mg base) (m:=2) (k:=3) (Z1:=Z1) (Z2:=Z2) (Z3:=Z3) (Z6:=Z6) (Z4:=Z4) (Z5:=Z5) (Z0:=Z0) (t.Zn P w base) (Zo.mono (by decide)) (Z3X.mono (by decide))
 have Z3Z:=Zw (g:=Gx.mk P w K mg base) (m:=3) (k:=4) (Z1:=Z1) (Z2:=Z2) (Z3:=Z3) (Z6:=Z6) (Z4:=Z4) (Z5:=Z5) (Z0:=Z0) (t.Zn P w base) (Zo.mono (by decide)) (Z3Y.mono (by decide))
 have Z40:=Zw (g:=Gx.mk P w K mg base) (m:=4) (k:=5) (Z1:=Z1) (Z2:=Z2) (Z3:=Z3) (Z6:=Z6) (Z4:=Z4) (Z5:=Z5) (Z0:=Z0) (t.Zn P w base) (Zo.mono (by decide)) (Z3Z.mono (by decide))
 have Z41:=Zw (g:=Gx.mk P w K mg base) (m:=5) (k:=6) (Z1:=Z1) (Z2:=Z2) (Z3:=Z3) (Z6:=Z6) (Z4:=Z4) (Z5:=Z5) (Z0:=Z0) (t.Zn P w base) (Zo.mono (by decide)) (Z40.mono (by decide))
 have Z42:=Zw (g:=Gx.mk P w K mg base) (m:=6) (k:=7) (Z1:=Z1) (Z2:=Z2) (Z3:=Z3) (Z6:=Z6) (Z4:=Z4) (Z5:=Z5) (Z0:=Z0) (t.Zn P w base) (Zo.mono (by decide)) (Z41.mono (by decide))
 have Z43:=Zw (g:=Gx.mk P w K mg base) (m:=7) (k:=8) (Z1:=Z1) (Z2:=Z2) (Z3:=Z3) (Z6:=Z6) (Z4:=Z4) (Z5:=Z5) (Z0:=Z0) (t.Zn P w base) (Zo.mono (by decide)) (Z42.mono (by decide))
 have Z1o:=Zw (g:=Gx.mk P w K mg base) (m:=8) (k:=9) (Z1:=Z1) (Z2:=Z2) (Z3:=Z3) (Z6:=Z6) (Z4:=Z4) (Z5:=Z5) (Z0:=Z0) (t.Zn P w base) (Zo.mono (by decide)) (Z43.mono (by decide))
 have Z55:=Z4H (g:=Gx.mk P w K mg base) (k:=10) (Z1:=Z1) (Z2:=Z2) (Z3:=Z3) (Z6:=Z6) (Z4:=Z4) (Z5:=Z5) (Z0:=Z0) (t.Z1A P w base) (Z1o.mono (by decide)) t.b_len t.b_set t.x_Twice t.r_Twice
 have Z44:=Z3v (g:=Gx.mk P w K mg base) (k:=10) (Z1:=Z1) (Z2:=Z2) (Z3:=Z3) (Z6:=Z6) (Z4:=Z4) (Z5:=Z5) (Z0:=Z0) (t.Z0M P w base) (Z1o.mono (by decide)) t.x_NoRange t.r_NoRange
 have Z4s:=ZC (g:=Gx.mk P w K mg base) (m:=0) (k:=1) (Z1:=Z1) (Z2:=Z2) (Z3:=Z3) (Z6:=Z6) (Z4:=Z4) (Z5:=Z5) (Z0:=Z0) (t.Zt P w base) (Zo.mono (by decide)) ((t.Zy P w base).none (fun _ _ _ _ h=>Yfq h)) t.b_str
 have Z56:=ZM (g:=Gx.mk P w K mg base) (m:=0) (k:=2) (Z1:=Z1) (Z2:=Z2) (Z3:=Z3) (Z6:=Z6) (Z4:=Z4) (Z5:=Z5) (Z0:=Z0) (t.Zy P w base) (Z4s.mono (by decide))
 have Z4t:=ZC (g:=Gx.mk P w K mg base) (m:=1) (k:=3) (Z1:=Z1) (Z2:=Z2) (Z3:=Z3) (Z6:=Z6) (Z4:=Z4) (Z5:=Z5) (Z0:=Z0) (t.Zt P w base) (Zo.mono (by decide)) (Z56.mono (by decide)) t.b_str
 have Z57:=ZM (g:=Gx.mk P w K mg base) (m:=1) (k:=4) (Z1:=Z1) (Z2:=Z2) (Z3:=Z3) (Z6:=Z6) (Z4:=Z4) (Z5:=Z5) (Z0:=Z0) (t.Zy P w base) (Z4t.mono (by decide))
 have Z4u:=ZC (g:=Gx.mk P w K mg base) (m:=2) (k:=5) (Z1:=Z1) (Z2:=Z2) (Z3:=Z3) (Z6:=Z6) (Z4:=Z4) (Z5:=Z5) (Z0:=Z0) (t.Zt P w base) (Zo.mono (by decide)) (Z57.mono (by decide)) t.b_str
 have Z58:=ZM (g:=Gx.mk P w K mg base) (m:=2) (k:=6) (Z1:=Z1) (Z2:=Z2) (Z3:=Z3) (Z6:=Z6) (Z4:=Z4) (Z5:=Z5) (Z0:=Z0) (t.Zy P w base) (Z4u.mono (by decide))
 have Z4v:=ZC (g:=Gx.mk P w K mg base) (m:=3) (k:=7) (Z1:=Z1) (Z2:=Z2) (Z3:=Z3) (Z6:=Z6) (Z4:=Z4) (Z5:=Z5) (Z0:=Z0) (t.Zt P w base) (Zo.mono (by decide)) (Z58.mono (by decide)) t.b_str
 have Z59:=ZM (g:=Gx.mk P w K mg base) (m:=3) (k:=8) (Z1:=Z1) (Z2:=Z2) (Z3:=Z3) (Z6:=Z6) (Z4:=Z4) (Z5:=Z5) (Z0:=Z0) (t.Zy P w base) (Z4v.mono (by decide))
 have Z4w:=ZC (g:=Gx.mk P w K mg base) (m:=4) (k:=9) (Z1:=Z1) (Z2:=Z2) (Z3:=Z3) (Z6:=Z6) (Z4:=Z4) (Z5:=Z5) (Z0:=Z0) (t.Zt P w base) (Zo.mono (by decide)) (Z59.mono (by decide)) t.b_str
 have Z5a:=ZM (g:=Gx.mk P w K mg base) (m:=4) (k:=10) (Z1:=Z1) (Z2:=Z2) (Z3:=Z3) (Z6:=Z6) (Z4:=Z4) (Z5:=Z5) (Z0:=Z0) (t.Zy P w base) (Z4w.mono (by decide))
 have Z4x:=ZC (g:=Gx.mk P w K mg base) (m:=5) (k:=11) (Z1:=Z1) (Z2:=Z2) (Z3:=Z3) (Z6:=Z6) (Z4:=Z4) (Z5:=Z5) (Z0:=Z0) (t.Zt P w base) (Zo.mono (by decide)) (Z5a.mono (by decide)) t.b_str
 have Z5b:=ZM (g:=Gx.mk P w K mg base) (m:=5) (k:=12) (Z1:=Z1) (Z2:=Z2) (Z3:=Z3) (Z6:=Z6) (Z4:=Z4) (Z5:=Z5) (Z0:=Z0) (t.Zy P w base) (Z4x.mono (by decide))
 have Z4y:=ZC (g:=Gx.mk P w K mg base) (m:=6) (k:=13) (Z1:=Z1) (Z2:=Z2) (Z3:=Z3) (Z6:=Z6) (Z4:=Z4) (Z5:=Z5) (Z0:=Z0) (t.Zt P w base) (Zo.mono (by decide)) (Z5b.mono (by decide)) t.b_str
 have Z5c:=ZM (g:=Gx.mk P w K mg base) (m:=6) (k:=14) (Z1:=Z1) (Z2:=Z2) (Z3:=Z3) (Z6:=Z6) (Z4:=Z4) (Z5:=Z5) (Z0:=Z0) (t.Zy P w base) (Z4y.mono (by decide))
 have Z4z:=ZC (g:=Gx.mk P w K mg base) (m:=7) (k:=15) (Z1:=Z1) (Z2:=Z2) (Z3:=Z3) (Z6:=Z6) (Z4:=Z4) (Z5:=Z5) (Z0:=Z0) (t.Zt P w base) (Zo.mono (by decide)) (Z5c.mono (by decide)) t.b_str
 have Z5d:=ZM (g:=Gx.mk P w K mg base) (m:=7) (k:=16) (Z1:=Z1) (Z2:=Z2) (Z3:=Z3) (Z6:=Z6) (Z4:=Z4) (Z5:=Z5) (Z0:=Z0) (t.Zy P w base) (Z4z.mono (by decide))
 have Z4A:=ZC (g:=Gx.mk P w K mg base) (m:=8) (k:=17) (Z1:=Z1) (Z2:=Z2) (Z3:=Z3) (Z6:=Z6) (Z4:=Z4) (Z5:=Z5) (Z0:=Z0) (t.Zt P w base) (Zo.mono (by decide)) (Z5d.mono (by decide)) t.b_str
 have G_show_shape:=ZM (g:=Gx.mk P w K mg base) (m:=8) (k:=18) (Z1:=Z1) (Z2:=Z2) (Z3:=Z3) (Z6:=Z6) (Z4:=Z4) (Z5:=Z5) (Z0:=Z0) (t.Zy P w base) (Z4A.mono (by decide))
 have Z3H:=QQ (g:=Gx.mk P w K mg base) (k:=10) (Z1:=Z1) (Z2:=Z2) (Z3:=Z3) (Z6:=Z6) (Z4:=Z4) (Z5:=Z5) (Z0:=Z0) (t.Z2h P w base) (Z1o.mono (by decide))
 have Z22:=Ybh (g:=Gx.mk P w K mg base) (Z1:=Z1) (Z2:=Z2) (Z3:=Z3) (Z6:=Z6) (Z4:=Z4) (Z5:=Z5) (Z0:=Z0) (t.Z3c P w base) t.x_NoName t.r_NoName
 have Z31:=Z2F (g:=Gx.mk P w K mg base) (k:=1) (Z1:=Z1) (Z2:=Z2) (Z3:=Z3) (Z6:=Z6) (Z4:=Z4) (Z5:=Z5) (Z0:=Z0) (t.Z0t P w base) (Z2j.mono (by decide)) t.b_len (t.Z4d P w base) t.x_Crowded t.r_Crowded
 have Z5e:=Z4I (g:=Gx.mk P w K mg base) (k:=29) (Z1:=Z1) (Z2:=Z2) (Z3:=Z3) (Z6:=Z6) (Z4:=Z4) (Z5:=Z5) (Z0:=Z0) (t.Z1B P w base) (Z05.mono (by decide)) (G_read_draft.mono (by decide)) t.x_NoNote t.r_NoNote
 have Z2O:=Z2k (g:=Gx.mk P w K mg base) (k:=11) (Z1:=Z1) (Z2:=Z2) (Z3:=Z3) (Z6:=Z6) (Z4:=Z4) (Z5:=Z5) (Z0:=Z0) (t.Z0c P w base) (Z55.mono (by decide)) t.b_len t.b_set t.x_Twice t.r_Twice
 have Z4B:=Z3M (g:=Gx.mk P w K mg base) (k:=11) (Z1:=Z1) (Z2:=Z2) (Z3:=Z3) (Z6:=Z6) (Z4:=Z4) (Z5:=Z5) (Z0:=Z0) (t.Z13 P w base) (Z3H.mono (by decide)) (Z22.mono (by decide))
 have G_show_book:=YaQ (g:=Gx.mk P w K mg base) (k:=19) (Z1:=Z1) (Z2:=Z2) (Z3:=Z3) (Z6:=Z6) (Z4:=Z4) (Z5:=Z5) (Z0:=Z0) (t.Z2K P w base) (G_show_shape.mono (by decide))
 have G_leads_back:=QR (g:=Gx.mk P w K mg base) (k:=1) (Z1:=Z1) (Z2:=Z2) (Z3:=Z3) (Z6:=Z6) (Z4:=Z4) (Z5:=Z5) (Z0:=Z0) (t.Z2i P w base) (Z22.mono (by decide)) t.b_len t.ZW
 have Z3I:=Z3r (g:=Gx.mk P w K mg base) (k:=2) (Z1:=Z1) (Z2:=Z2) (Z3:=Z3) (Z6:=Z6) (Z4:=Z4) (Z5:=Z5) (Z0:=Z0) (t.Z0F P w base) (G_leads_back.mono (by decide)) t.b_len
 have G_read_book:=YaU (g:=Gx.mk P w K mg base) (k:=30) (Z1:=Z1) (Z2:=Z2) (Z3:=Z3) (Z6:=Z6) (Z4:=Z4) (Z5:=Z5) (Z0:=Z0) (t.Z2L P w base) (Z44.mono (by decide)) (Z31.mono (by decide)) (Z5e.mono (by decide)) (Z2O.mono (by decide)) (Z4B.mono (by decide)) (Z3I.mono (by decide)) t.Z8 t.b_str t.x_NoNote t.r_NoNote
 have G_law_cell_at:=Z52 (g:=Gx.mk P w K mg base) (Z1:=Z1) (Z2:=Z2) (Z3:=Z3) (Z6:=Z6) (Z4:=Z4) (Z5:=Z5) (Z0:=Z0) (t.Z1T P w base) t.b_len
 have G_law_word:=Ybi (g:=Gx.mk P w K mg base) (Z1:=Z1) (Z2:=Z2) (Z3:=Z3) (Z6:=Z6) (Z4:=Z4) (Z5:=Z5) (Z0:=Z0) (t.Z3d P w base) t.ZW
 have G_law_names:=YaW (g:=Gx.mk P w K mg base) (k:=1) (Z1:=Z1) (Z2:=Z2) (Z3:=Z3) (Z6:=Z6) (Z4:=Z4) (Z5:=Z5) (Z0:=Z0) (t.Z2M P w base) (G_law_word.mono (by decide)) t.b_len t.ZW
 have G_law_shape:=YaY (g:=Gx.mk P w K mg base) (Z1:=Z1) (Z2:=Z2) (Z3:=Z3) (Z6:=Z6) (Z4:=Z4) (Z5:=Z5) (Z0:=Z0) (t.Z2N P w base) t.b_int t.b_len
 have G_law_text_1:=Z00 (g:=Gx.mk P w K mg base) (m:=0) (k:=0) (Z1:=Z1) (Z2:=Z2) (Z3:=Z3) (Z6:=Z6) (Z4:=Z4) (Z5:=Z5) (Z0:=Z0) (t.ZN P w base) ((t.ZN P w base).none (fun _ _ _ _ h=>Yfu h)) t.b_str
 have G_law_text_2:=Z00 (g:=Gx.mk P w K mg base) (m:=1) (k:=1) (Z1:=Z1) (Z2:=Z2) (Z3:=Z3) (Z6:=Z6) (Z4:=Z4) (Z5:=Z5) (Z0:=Z0) (t.ZN P w base) (G_law_text_1.mono (by decide)) t.b_str
 have G_law_text_3:=Z00 (g:=Gx.mk P w K mg base) (m:=2) (k:=2) (Z1:=Z1) (Z2:=Z2) (Z3:=Z3) (Z6:=Z6) (Z4:=Z4) (Z5:=Z5) (Z0:=Z0) (t.ZN P w base) (G_law_text_2.mono (by decide)) t.b_str
 have G_law_text_4:=Z00 (g:=Gx.mk P w K mg base) (m:=3) (k:=3) (Z1:=Z1) (Z2:=Z2) (Z3:=Z3) (Z6:=Z6) (Z4:=Z4) (Z5:=Z5) (Z0:=Z0) (t.ZN P w base) (G_law_text_3.mono (by decide)) t.b_str
 have G_law_text_5:=Z00 (g:=Gx.mk P w K mg base) (m:=4) (k:=4) (Z1:=Z1) (Z2:=Z2) (Z3:=Z3) (Z6:=Z6) (Z4:=Z4) (Z5:=Z5) (Z0:=Z0) (t.ZN P w base) (G_law_text_4.mono (by decide)) t.b_str
 have G_law_text_6:=Z00 (g:=Gx.mk P w K mg base) (m:=5) (k:=5) (Z1:=Z1) (Z2:=Z2) (Z3:=Z3) (Z6:=Z6) (Z4:=Z4) (Z5:=Z5) (Z0:=Z0) (t.ZN P w base) (G_law_text_5.mono (by decide)) t.b_str
 have G_law_text_7:=Z00 (g:=Gx.mk P w K mg base) (m:=6) (k:=6) (Z1:=Z1) (Z2:=Z2) (Z3:=Z3) (Z6:=Z6) (Z4:=Z4) (Z5:=Z5) (Z0:=Z0) (t.ZN P w base) (G_law_text_6.mono (by decide)) t.b_str
 have G_law_text_8:=Z00 (g:=Gx.mk P w K mg base) (m:=7) (k:=7) (Z1:=Z1) (Z2:=Z2) (Z3:=Z3) (Z6:=Z6) (Z4:=Z4) (Z5:=Z5) (Z0:=Z0) (t.ZN P w base) (G_law_text_7.mono (by decide)) t.b_str
 have G_law_text:=Z00 (g:=Gx.mk P w K mg base) (m:=8) (k:=8) (Z1:=Z1) (Z2:=Z2) (Z3:=Z3) (Z6:=Z6) (Z4:=Z4) (Z5:=Z5) (Z0:=Z0) (t.ZN P w base) (G_law_text_8.mono (by decide)) t.b_str
 have G_law_uses_1:=Z01 (g:=Gx.mk P w K mg base) (m:=0) (k:=0) (Z1:=Z1) (Z2:=Z2) (Z3:=Z3) (Z6:=Z6) (Z4:=Z4) (Z5:=Z5) (Z0:=Z0) (t.ZO P w base) ((t.ZO P w base).none (fun _ _ _ _ h=>Yei h)) t.b_list
 have G_law_uses_2:=Z01 (g:=Gx.mk P w K mg base) (m:=1) (k:=1) (Z1:=Z1) (Z2:=Z2) (Z3:=Z3) (Z6:=Z6) (Z4:=Z4) (Z5:=Z5) (Z0:=Z0) (t.ZO P w base) (G_law_uses_1.mono (by decide)) t.b_list
 have G_law_uses_3:=Z01 (g:=Gx.mk P w K mg base) (m:=2) (k:=2) (Z1:=Z1) (Z2:=Z2) (Z3:=Z3) (Z6:=Z6) (Z4:=Z4) (Z5:=Z5) (Z0:=Z0) (t.ZO P w base) (G_law_uses_2.mono (by decide)) t.b_list
 have G_law_uses_4:=Z01 (g:=Gx.mk P w K mg base) (m:=3) (k:=3) (Z1:=Z1) (Z2:=Z2) (Z3:=Z3) (Z6:=Z6) (Z4:=Z4) (Z5:=Z5) (Z0:=Z0) (t.ZO P w base) (G_law_uses_3.mono (by decide)) t.b_list
 have G_law_uses_5:=Z01 (g:=Gx.mk P w K mg base) (m:=4) (k:=4) (Z1:=Z1) (Z2:=Z2) (Z3:=Z3) (Z6:=Z6) (Z4:=Z4) (Z5:=Z5) (Z0:=Z0) (t.ZO P w base) (G_law_uses_4.mono (by decide)) t.b_list
 have G_law_uses_6:=Z01 (g:=Gx.mk P w K mg base) (m:=5) (k:=5) (Z1:=Z1) (Z2:=Z2) (Z3:=Z3) (Z6:=Z6) (Z4:=Z4) (Z5:=Z5) (Z0:=Z0) (t.ZO P w base) (G_law_uses_5.mono (by decide)) t.b_list
 have G_law_uses_7:=Z01 (g:=Gx.mk P w K mg base) (m:=6) (k:=6) (Z1:=Z1) (Z2:=Z2) (Z3:=Z3) (Z6:=Z6) (Z4:=Z4) (Z5:=Z5) (Z0:=Z0) (t.ZO P w base) (G_law_uses_6.mono (by decide)) t.b_list
 have G_law_uses_8:=Z01 (g:=Gx.mk P w K mg base) (m:=7) (k:=7) (Z1:=Z1) (Z2:=Z2) (Z3:=Z3) (Z6:=Z6) (Z4:=Z4) (Z5:=Z5) (Z0:=Z0) (t.ZO P w base) (G_law_uses_7.mono (by decide)) t.b_list
 have G_law_uses:=Z01 (g:=Gx.mk P w K mg base) (m:=8) (k:=8) (Z1:=Z1) (Z2:=Z2) (Z3:=Z3) (Z6:=Z6) (Z4:=Z4) (Z5:=Z5) (Z0:=Z0) (t.ZO P w base) (G_law_uses_8.mono (by decide)) t.b_list
 have G_law_same_1:=Ze (g:=Gx.mk P w K mg base) (m:=0) (k:=0) (Z1:=Z1) (Z2:=Z2) (Z3:=Z3) (Z6:=Z6) (Z4:=Z4) (Z5:=Z5) (Z0:=Z0) (t.Zd P w base) ((t.Zd P w base).none (fun _ _ _ _ h=>Yfx h)) t.b_all t.b_bool t.b_int t.Z8 t.b_len t.b_list t.b_str t.Za t.b_zip
 have G_law_same_2:=Ze (g:=Gx.mk P w K mg base) (m:=1) (k:=1) (Z1:=Z1) (Z2:=Z2) (Z3:=Z3) (Z6:=Z6) (Z4:=Z4) (Z5:=Z5) (Z0:=Z0) (t.Zd P w base) (G_law_same_1.mono (by decide)) t.b_all t.b_bool t.b_int t.Z8 t.b_len t.b_list t.b_str t.Za t.b_zip
 have G_law_same_3:=Ze (g:=Gx.mk P w K mg base) (m:=2) (k:=2) (Z1:=Z1) (Z2:=Z2) (Z3:=Z3) (Z6:=Z6) (Z4:=Z4) (Z5:=Z5) (Z0:=Z0) (t.Zd P w base) (G_law_same_2.mono (by decide)) t.b_all t.b_bool t.b_int t.Z8 t.b_len t.b_list t.b_str t.Za t.b_zip
 have G_law_same_4:=Ze (g:=Gx.mk P w K mg base) (m:=3) (k:=3) (Z1:=Z1) (Z2:=Z2) (Z3:=Z3) (Z6:=Z6) (Z4:=Z4) (Z5:=Z5) (Z0:=Z0) (t.Zd P w base) (G_law_same_3.mono (by decide)) t.b_all t.b_bool t.b_int t.Z8 t.b_len t.b_list t.b_str t.Za t.b_zip
 have G_law_same_5:=Ze (g:=Gx.mk P w K mg base) (m:=4) (k:=4) (Z1:=Z1) (Z2:=Z2) (Z3:=Z3) (Z6:=Z6) (Z4:=Z4) (Z5:=Z5) (Z0:=Z0) (t.Zd P w base) (G_law_same_4.mono (by decide)) t.b_all t.b_bool t.b_int t.Z8 t.b_len t.b_list t.b_str t.Za t.b_zip
 have G_law_same_6:=Ze (g:=Gx.mk P w K mg base) (m:=5) (k:=5) (Z1:=Z1) (Z2:=Z2) (Z3:=Z3) (Z6:=Z6) (Z4:=Z4) (Z5:=Z5) (Z0:=Z0) (t.Zd P w base) (G_law_same_5.mono (by decide)) t.b_all t.b_bool t.b_int t.Z8 t.b_len t.b_list t.b_str t.Za t.b_zip
 have G_law_same_7:=Ze (g:=Gx.mk P w K mg base) (m:=6) (k:=6) (Z1:=Z1) (Z2:=Z2) (Z3:=Z3) (Z6:=Z6) (Z4:=Z4) (Z5:=Z5) (Z0:=Z0) (t.Zd P w base) (G_law_same_6.mono (by decide)) t.b_all t.b_bool t.b_int t.Z8 t.b_len t.b_list t.b_str t.Za t.b_zip
 have G_law_same_8:=Ze (g:=Gx.mk P w K mg base) (m:=7) (k:=7) (Z1:=Z1) (Z2:=Z2) (Z3:=Z3) (Z6:=Z6) (Z4:=Z4) (Z5:=Z5) (Z0:=Z0) (t.Zd P w base) (G_law_same_7.mono (by decide)) t.b_all t.b_bool t.b_int t.Z8 t.b_len t.b_list t.b_str t.Za t.b_zip
 have G_law_same_9:=Ze (g:=Gx.mk P w K mg base) (m:=8) (k:=8) (Z1:=Z1) (Z2:=Z2) (Z3:=Z3) (Z6:=Z6) (Z4:=Z4) (Z5:=Z5) (Z0:=Z0) (t.Zd P w base) (G_law_same_8.mono (by decide)) t.b_all t.b_bool t.b_int t.Z8 t.b_len t.b_list t.b_str t.Za t.b_zip
 have G_law_same_10:=Ze (g:=Gx.mk P w K mg base) (m:=9) (k:=9) (Z1:=Z1) (Z2:=Z2) (Z3:=Z3) (Z6:=Z6) (Z4:=Z4) (Z5:=Z5) (Z0:=Z0) (t.Zd P w base) (G_law_same_9.mono (by decide)) t.b_all t.b_bool t.b_int t.Z8 t.b_len t.b_list t.b_str t.Za t.b_zip
 have G_law_same_11:=Ze (g:=Gx.mk P w K mg base) (m:=10) (k:=10) (Z1:=Z1) (Z2:=Z2) (Z3:=Z3) (Z6:=Z6) (Z4:=Z4) (Z5:=Z5) (Z0:=Z0) (t.Zd P w base) (G_law_same_10.mono (by decide)) t.b_all t.b_bool t.b_int t.Z8 t.b_len t.b_list t.b_str t.Za t.b_zip
 have G_law_same_12:=Ze (g:=Gx.mk P w K mg base) (m:=11) (k:=11) (Z1:=Z1) (Z2:=Z2) (Z3:=Z3) (Z6:=Z6) (Z4:=Z4) (Z5:=Z5) (Z0:=Z0) (t.Zd P w base) (G_law_same_11.mono (by decide)) t.b_all t.b_bool t.b_int t.Z8 t.b_len t.b_list t.b_str t.Za t.b_zip
 have G_law_same_13:=Ze (g:=Gx.mk P w K mg base) (m:=12) (k:=12) (Z1:=Z1) (Z2:=Z2) (Z3:=Z3) (Z6:=Z6) (Z4:=Z4) (Z5:=Z5) (Z0:=Z0) (t.Zd P w base) (G_law_same_12.mono (by decide)) t.b_all t.b_bool t.b_int t.Z8 t.b_len t.b_list t.b_str t.Za t.b_zip
 have G_law_same_14:=Ze (g:=Gx.mk P w K mg base) (m:=13) (k:=13) (Z1:=Z1) (Z2:=Z2) (Z3:=Z3) (Z6:=Z6) (Z4:=Z4) (Z5:=Z5) (Z0:=Z0) (t.Zd P w base) (G_law_same_13.mono (by decide)) t.b_all t.b_bool t.b_int t.Z8 t.b_len t.b_list t.b_str t.Za t.b_zip
 have G_law_same_15:=Ze (g:=Gx.mk P w K mg base) (m:=14) (k:=14) (Z1:=Z1) (Z2:=Z2) (Z3:=Z3) (Z6:=Z6) (Z4:=Z4) (Z5:=Z5) (Z0:=Z0) (t.Zd P w base) (G_law_same_14.mono (by decide)) t.b_all t.b_bool t.b_int t.Z8 t.b_len t.b_list t.b_str t.Za t.b_zip
 have G_law_same_16:=Ze (g:=Gx.mk P w K mg base) (m:=15) (k:=15) (Z1:=Z1) (Z2:=Z2) (Z3:=Z3) (Z6:=Z6) (Z4:=Z4) (Z5:=Z5) (Z0:=Z0) (t.Zd P w base) (G_law_same_15.mono (by decide)) t.b_all t.b_bool t.b_int t.Z8 t.b_len t.b_list t.b_str t.Za t.b_zip
 have G_law_same_17:=Ze (g:=Gx.mk P w K mg base) (m:=16) (k:=16) (Z1:=Z1) (Z2:=Z2) (Z3:=Z3) (Z6:=Z6) (Z4:=Z4) (Z5:=Z5) (Z0:=Z0) (t.Zd P w base) (G_law_same_16.mono (by decide)) t.b_all t.b_bool t.b_int t.Z8 t.b_len t.b_list t.b_str t.Za t.b_zip
 have G_law_same_18:=Ze (g:=Gx.mk P w K mg base) (m:=17) (k:=17) (Z1:=Z1) (Z2:=Z2) (Z3:=Z3) (Z6:=Z6) (Z4:=Z4) (Z5:=Z5) (Z0:=Z0) (t.Zd P w base) (G_law_same_17.mono (by decide)) t.b_all t.b_bool t.b_int t.Z8 t.b_len t.b_list t.b_str t.Za t.b_zip
 have G_law_same_19:=Ze (g:=Gx.mk P w K mg base) (m:=18) (k:=18) (Z1:=Z1) (Z2:=Z2) (Z3:=Z3) (Z6:=Z6) (Z4:=Z4) (Z5:=Z5) (Z0:=Z0) (t.Zd P w base) (G_law_same_18.mono (by decide)) t.b_all t.b_bool t.b_int t.Z8 t.b_len t.b_list t.b_str t.Za t.b_zip
 have G_law_same_20:=Ze (g:=Gx.mk P w K mg base) (m:=19) (k:=19) (Z1:=Z1) (Z2:=Z2) (Z3:=Z3) (Z6:=Z6) (Z4:=Z4) (Z5:=Z5) (Z0:=Z0) (t.Zd P w base) (G_law_same_19.mono (by decide)) t.b_all t.b_bool t.b_int t.Z8 t.b_len t.b_list t.b_str t.Za t.b_zip
 have G_law_same_21:=Ze (g:=Gx.mk P w K mg base) (m:=20) (k:=20) (Z1:=Z1) (Z2:=Z2) (Z3:=Z3) (Z6:=Z6) (Z4:=Z4) (Z5:=Z5) (Z0:=Z0) (t.Zd P w base) (G_law_same_20.mono (by decide)) t.b_all t.b_bool t.b_int t.Z8 t.b_len t.b_list t.b_str t.Za t.b_zip
 have G_law_same_22:=Ze (g:=Gx.mk P w K mg base) (m:=21) (k:=21) (Z1:=Z1) (Z2:=Z2) (Z3:=Z3) (Z6:=Z6) (Z4:=Z4) (Z5:=Z5) (Z0:=Z0) (t.Zd P w base) (G_law_same_21.mono (by decide)) t.b_all t.b_bool t.b_int t.Z8 t.b_len t.b_list t.b_str t.Za t.b_zip
 have G_law_same_23:=Ze (g:=Gx.mk P w K mg base) (m:=22) (k:=22) (Z1:=Z1) (Z2:=Z2) (Z3:=Z3) (Z6:=Z6) (Z4:=Z4) (Z5:=Z5) (Z0:=Z0) (t.Zd P w base) (G_law_same_22.mono (by decide)) t.b_all t.b_bool t.b_int t.Z8 t.b_len t.b_list t.b_str t.Za t.b_zip
 have G_law_same_24:=Ze (g:=Gx.mk P w K mg base) (m:=23) (k:=23) (Z1:=Z1) (Z2:=Z2) (Z3:=Z3) (Z6:=Z6) (Z4:=Z4) (Z5:=Z5) (Z0:=Z0) (t.Zd P w base) (G_law_same_23.mono (by decide)) t.b_all t.b_bool t.b_int t.Z8 t.b_len t.b_list t.b_str t.Za t.b_zip
 have G_law_same:=Ze (g:=Gx.mk P w K mg base) (m:=24) (k:=24) (Z1:=Z1) (Z2:=Z2) (Z3:=Z3) (Z6:=Z6) (Z4:=Z4) (Z5:=Z5) (Z0:=Z0) (t.Zd P w base) (G_law_same_24.mono (by decide)) t.b_all t.b_bool t.b_int t.Z8 t.b_len t.b_list t.b_str t.Za t.b_zip
 have G_law_no_name:=Z53 (g:=Gx.mk P w K mg base) (k:=1) (Z1:=Z1) (Z2:=Z2) (Z3:=Z3) (Z6:=Z6) (Z4:=Z4) (Z5:=Z5) (Z0:=Z0) (t.Z1U P w base) (Z22.mono (by decide)) t.Z0D t.Z8 t.x_CountError t.x_NoName t.t_NoName t.i_NoName_CountError t.i_NoName_ValueError t.m_NoName_NoName
 exact Yel (g:=Gx.mk P w K mg base) (k:=31) (Z1:=Z1) (Z2:=Z2) (Z3:=Z3) (Z6:=Z6) (Z4:=Z4) (Z5:=Z5) (Z0:=Z0) (Z3H.mono (by decide)) (Z22.mono (by decide)) (G_read_book.mono (by decide)) (G_show_book.mono (by decide)) (G_law_cell_at.mono (by decide)) (G_law_names.mono (by decide)) (G_law_shape.mono (by decide)) (G_law_text.mono (by decide)) (G_law_uses.mono (by decide)) (G_law_same.mono (by decide)) (G_law_no_name.mono (by decide)) t.b_len t.ZW
end KW
theorem PySem.W.Fast.tw10151476059750411176:True:=trivial
theorem PySem.W.Fast.tw10213092839682879305:True:=trivial
theorem PySem.W.Fast.tw10223473738817790384:True:=trivial
theorem PySem.W.Fast.tw10359252486131546302:True:=trivial
theorem PySem.W.Fast.tw10399667935774946454:True:=trivial
theorem PySem.W.Fast.tw11103902015090022694:True:=trivial
theorem PySem.W.Fast.tw11226343499265819979:True:=trivial
theorem PySem.W.Fast.tw11283692929168878596:True:=trivial
theorem PySem.W.Fast.tw11418276723135132842:True:=trivial
theorem PySem.W.Fast.tw11782565479367640076:True:=trivial
theorem PySem.W.Fast.tw11863675717810033036:True:=trivial
theorem PySem.W.Fast.tw11877845980867626201:True:=trivial
theorem PySem.W.Fast.tw11912390359389907176:True:=trivial
theorem PySem.W.Fast.tw121269210078523162:True:=trivial
theorem PySem.W.Fast.tw12172050071622595607:True:=trivial
theorem PySem.W.Fast.tw12174802888891560990:True:=trivial
theorem PySem.W.Fast.tw12259034361379582126:True:=trivial
theorem PySem.W.Fast.tw12538683206512991266:True:=trivial
theorem PySem.W.Fast.tw12592628484790556476:True:=trivial
theorem PySem.W.Fast.tw12596191500215760511:True:=trivial
theorem PySem.W.Fast.tw12657119338960058354:True:=trivial
theorem PySem.W.Fast.tw12739966651549756967:True:=trivial
theorem PySem.W.Fast.tw13056369417480879521:True:=trivial
theorem PySem.W.Fast.tw13116367715940754030:True:=trivial
theorem PySem.W.Fast.tw13301565600759095949:True:=trivial
theorem PySem.W.Fast.tw13303479747642000873:True:=trivial
theorem PySem.W.Fast.tw13563673408871313432:True:=trivial
theorem PySem.W.Fast.tw13610978513532640295:True:=trivial
theorem PySem.W.Fast.tw13723859935827424948:True:=trivial
theorem PySem.W.Fast.tw14142168598004605495:True:=trivial
theorem PySem.W.Fast.tw14449211659955489621:True:=trivial
theorem PySem.W.Fast.tw14526267370322378110:True:=trivial
theorem PySem.W.Fast.tw14532164656897024371:True:=trivial
theorem PySem.W.Fast.tw14558818929240359898:True:=trivial
theorem PySem.W.Fast.tw14621274408006022224:True:=trivial
theorem PySem.W.Fast.tw14763895069881024726:True:=trivial
theorem PySem.W.Fast.tw14832376094170483411:True:=trivial
theorem PySem.W.Fast.tw1501885527921766780:True:=trivial
theorem PySem.W.Fast.tw1503829298570220233:True:=trivial
theorem PySem.W.Fast.tw15073160728984237787:True:=trivial
theorem PySem.W.Fast.tw15245600282847294689:True:=trivial
theorem PySem.W.Fast.tw15490619372381501681:True:=trivial
theorem PySem.W.Fast.tw15663269001476825114:True:=trivial
theorem PySem.W.Fast.tw15913313683567029669:True:=trivial
theorem PySem.W.Fast.tw16212216335814607525:True:=trivial
theorem PySem.W.Fast.tw16328570306511103510:True:=trivial
theorem PySem.W.Fast.tw1633948355327284011:True:=trivial
theorem PySem.W.Fast.tw16419041967595672216:True:=trivial
theorem PySem.W.Fast.tw16529512145164629983:True:=trivial
theorem PySem.W.Fast.tw16537166316242604842:True:=trivial
theorem PySem.W.Fast.tw16717131247186529216:True:=trivial
theorem PySem.W.Fast.tw16836676512811487016:True:=trivial
theorem PySem.W.Fast.tw16965928776118030137:True:=trivial
theorem PySem.W.Fast.tw17061409317231707001:True:=trivial
theorem PySem.W.Fast.tw17068671060859451086:True:=trivial
theorem PySem.W.Fast.tw17069184070997995462:True:=trivial
theorem PySem.W.Fast.tw17174430653049619150:True:=trivial
theorem PySem.W.Fast.tw17246359013039335709:True:=trivial
theorem PySem.W.Fast.tw17338978219729928654:True:=trivial
theorem PySem.W.Fast.tw17632134955885817382:True:=trivial
theorem PySem.W.Fast.tw18371966359373538535:True:=trivial
theorem PySem.W.Fast.tw1838672114993093735:True:=trivial
theorem PySem.W.Fast.tw18425959028463349401:True:=trivial
theorem PySem.W.Fast.tw1955905868073528804:True:=trivial
theorem PySem.W.Fast.tw2028794982960794304:True:=trivial
theorem PySem.W.Fast.tw2149119616925730545:True:=trivial
theorem PySem.W.Fast.tw2198238845146618947:True:=trivial
theorem PySem.W.Fast.tw2240684048238773299:True:=trivial
theorem PySem.W.Fast.tw2341350157073513618:True:=trivial
theorem PySem.W.Fast.tw2370670301613768104:True:=trivial
theorem PySem.W.Fast.tw2380603561290905149:True:=trivial
theorem PySem.W.Fast.tw2573048432354527552:True:=trivial
theorem PySem.W.Fast.tw2599038256391333787:True:=trivial
theorem PySem.W.Fast.tw2692579984661339298:True:=trivial
theorem PySem.W.Fast.tw2788785937190321741:True:=trivial
theorem PySem.W.Fast.tw278970868105783504:True:=trivial
theorem PySem.W.Fast.tw3178981447481135809:True:=trivial
theorem PySem.W.Fast.tw3216865322214668521:True:=trivial
theorem PySem.W.Fast.tw3274827508097589569:True:=trivial
theorem PySem.W.Fast.tw3329048923152902778:True:=trivial
theorem PySem.W.Fast.tw344374460313887404:True:=trivial
theorem PySem.W.Fast.tw3574811707483659387:True:=trivial
theorem PySem.W.Fast.tw3722929059538681966:True:=trivial
theorem PySem.W.Fast.tw3739172253892993992:True:=trivial
theorem PySem.W.Fast.tw3784308569271128845:True:=trivial
theorem PySem.W.Fast.tw3979855035114755094:True:=trivial
theorem PySem.W.Fast.tw4004847830189231121:True:=trivial
theorem PySem.W.Fast.tw4103802817549376391:True:=trivial
theorem PySem.W.Fast.tw4125011510635116316:True:=trivial
theorem PySem.W.Fast.tw4153736769148209179:True:=trivial
theorem PySem.W.Fast.tw4254771737996241605:True:=trivial
theorem PySem.W.Fast.tw4371424126704016361:True:=trivial
theorem PySem.W.Fast.tw4376053765721146159:True:=trivial
theorem PySem.W.Fast.tw454556900646414341:True:=trivial
theorem PySem.W.Fast.tw4553479067761117102:True:=trivial
theorem PySem.W.Fast.tw4559348783615738878:True:=trivial
theorem PySem.W.Fast.tw4671831734518811004:True:=trivial
theorem PySem.W.Fast.tw4971539595003317423:True:=trivial
theorem PySem.W.Fast.tw5000513608663004060:True:=trivial
theorem PySem.W.Fast.tw5085147658968388527:True:=trivial
theorem PySem.W.Fast.tw5126929089292646301:True:=trivial
theorem PySem.W.Fast.tw5279143419980785101:True:=trivial
theorem PySem.W.Fast.tw5374827641323767906:True:=trivial
theorem PySem.W.Fast.tw5427945359100409987:True:=trivial
theorem PySem.W.Fast.tw5451617274184780228:True:=trivial
theorem PySem.W.Fast.tw5513250558288214327:True:=trivial
theorem PySem.W.Fast.tw5526361086417091594:True:=trivial
theorem PySem.W.Fast.tw5834067597729137823:True:=trivial
theorem PySem.W.Fast.tw6153071929716521311:True:=trivial
theorem PySem.W.Fast.tw6271970830966835455:True:=trivial
theorem PySem.W.Fast.tw6278001015204502629:True:=trivial
theorem PySem.W.Fast.tw63854988529271234:True:=trivial
theorem PySem.W.Fast.tw6433063413456700:True:=trivial
theorem PySem.W.Fast.tw6509342327293686802:True:=trivial
theorem PySem.W.Fast.tw6567586673789557249:True:=trivial
theorem PySem.W.Fast.tw6854142235971320089:True:=trivial
theorem PySem.W.Fast.tw7015437823490025928:True:=trivial
theorem PySem.W.Fast.tw7045027074528794395:True:=trivial
theorem PySem.W.Fast.tw7232936957422061576:True:=trivial
theorem PySem.W.Fast.tw7268033220998300618:True:=trivial
theorem PySem.W.Fast.tw7287094777831795514:True:=trivial
theorem PySem.W.Fast.tw7388173260445712887:True:=trivial
theorem PySem.W.Fast.tw7434119992693888311:True:=trivial
theorem PySem.W.Fast.tw7563391804328382008:True:=trivial
theorem PySem.W.Fast.tw7587273393329758971:True:=trivial
theorem PySem.W.Fast.tw7678465988294774341:True:=trivial
theorem PySem.W.Fast.tw7774388310217934005:True:=trivial
theorem PySem.W.Fast.tw7878308982646778906:True:=trivial
theorem PySem.W.Fast.tw7892629309028099168:True:=trivial
theorem PySem.W.Fast.tw7914188785435141454:True:=trivial
theorem PySem.W.Fast.tw7941095652247712827:True:=trivial
theorem PySem.W.Fast.tw8325292966155937744:True:=trivial
theorem PySem.W.Fast.tw8352036219581492079:True:=trivial
theorem PySem.W.Fast.tw8414382004400729234:True:=trivial
theorem PySem.W.Fast.tw8602365607022508993:True:=trivial
theorem PySem.W.Fast.tw8640617476144175280:True:=trivial
theorem PySem.W.Fast.tw8660788768316138025:True:=trivial
theorem PySem.W.Fast.tw8753100913945310605:True:=trivial
theorem PySem.W.Fast.tw8940797479550543254:True:=trivial
theorem PySem.W.Fast.tw9128547162295359452:True:=trivial
theorem PySem.W.Fast.tw9692016905225915675:True:=trivial
theorem PySem.W.Fast.tw9850380648675339779:True:=trivial
open PySem PySem.W PyProof.Rows
set_option maxRecDepth 100000 in
set_option maxHeartbeats 0 in
theorem PySem.Challenge.cw_countgen_k06_books_read_holds : PySem.Challenge.rw_countgen_k06_books_read.Holds := by
 w_on;o_law;k_head;(case hw=>w_witness2)
 k_fill
 refine L2.Ye9 (l:=PySem.Challenge.rw_countgen_k06_books_read) 31 "_law_script" KW.QX ["_law_script","_law_many","_law_names_here","_law_odd","_law_word_here","_law_book","_law_k","_law_cells","_law_text_here","_law_found","_law_name","_law_shape_here","_law_others"] rfl rfl ⟨rfl,by decide,by decide⟩ KW.XE (fun w h Y=>by first | exact PySem.W.kIn_of Y | exact PySem.W.km_in_of Y) ?F
 case F =>
  intro w mg h KX G
  refine' ⟨L2.YcY KX G ?a ?l ?c ?k (fun _ _ _ _ _ _ _ _ => .of_eq rfl),fun base=>KW.Yem ⟨?Z2H,?Z0L,?Z0q,?Z1y,?Z3a,?Z0r,?Z0b,?Z0E,?Z08,?Z0z,?Zf,?Zg,?Z10,?Z2I,?Z11,?Z2J,?Z0s,?Z12,?Z1S,?Z1g,?Z1z,?ZH,?Zm,?Zu,?Zr,?Zz,?Zk,?Z2g,?Z3b,?Zn,?Z1A,?Z0M,?Zt,?Zy,?Z2h,?Z3c,?Z0t,?Z1B,?Z0c,?Z13,?Z2K,?Z2i,?Z0F,?Z2L,?Z1T,?Z3d,?Z2M,?Z2N,?ZN,?ZO,?Zd,?Z1U,?Z9,?Zc,?Zb,?Z2t,?ZR,?Z2u,?ZD,?Z30,?ZU,?Z4d,?Z3y,?ZV,?ZI,?Z0D,?b_all,?b_bool,?b_int,?Z8,?b_len,?b_list,?ZW,?b_set,?b_str,?Za,?b_zip,?x_CountError,?x_NoNote,?x_Crowded,?x_Twice,?x_NoRange,?x_NoName,?r_Crowded,?r_NoName,?r_NoNote,?r_NoRange,?r_Twice,?t_NoName,?i_NoName_CountError,?i_NoName_ValueError,?m_NoName_NoName⟩ _ w base⟩
  (case a=>k_is)
  (case l=>k_is)
  (case c=>k_is)
  (case k=>k_is)
  case Z0r =>
   refine' L2.Ye8 KX G ["self","text"] ?aC ?mk ?kc ?a ?i ?l ?c ?k (fun _ _ _ _ _ _ us hl=>by obtain ⟨_,_,rfl⟩:=KW.us2 hl;rfl)
   (case aC=>k_is)
   (case mk=>k_is)
   (case kc=>k_is)
   (case a=>k_is)
   (case i=>k_is)
   (case l=>k_is)
   (case c=>k_is)
   (case k=>k_is)
  case Z2H =>
   refine' L2.Yz KX G ["sign"] ?a ?l ?c ?k (fun _ _ _ _ _ _ us hl=>by obtain ⟨_,rfl⟩:=KW.us1 hl;rfl)
   (case a=>k_is)
   (case l=>k_is)
   (case c=>k_is)
   (case k=>k_is)
  case Z0L =>
   refine' L2.Yz KX G ["sign"] ?a ?l ?c ?k (fun _ _ _ _ _ _ us hl=>by obtain ⟨_,rfl⟩:=KW.us1 hl;rfl)
   (case a=>k_is)
   (case l=>k_is)
   (case c=>k_is)
   (case k=>k_is)
  case Z0q =>
   refine' L2.Yz KX G ["sign"] ?a ?l ?c ?k (fun _ _ _ _ _ _ us hl=>by obtain ⟨_,rfl⟩:=KW.us1 hl;rfl)
   (case a=>k_is)
   (case l=>k_is)
   (case c=>k_is)
   (case k=>k_is)
  case Z1y =>
   refine' L2.Yz KX G ["sign"] ?a ?l ?c ?k (fun _ _ _ _ _ _ us hl=>by obtain ⟨_,rfl⟩:=KW.us1 hl;rfl)
   (case a=>k_is)
   (case l=>k_is)
   (case c=>k_is)
   (case k=>k_is)
  case Z3a =>
   refine' L2.Yz KX G ["text"] ?a ?l ?c ?k (fun _ _ _ _ _ _ us hl=>by obtain ⟨_,rfl⟩:=KW.us1 hl;rfl)
   (case a=>k_is)
   (case l=>k_is)
   (case c=>k_is)
   (case k=>k_is)
  case Z0b =>
   refine' L2.WM KX G ["self"] ?a ?i ?l ?c ?k (fun _ _ _ _ _ _ us hl=>by obtain ⟨_,rfl⟩:=KW.us1 hl;rfl)
   (case a=>k_is)
   (case i=>k_is)
   (case l=>k_is)
   (case c=>k_is)
   (case k=>k_is)
  case Z0E =>
   refine' L2.WM KX G ["self","sign"] ?a ?i ?l ?c ?k (fun _ _ _ _ _ _ us hl=>by obtain ⟨_,_,rfl⟩:=KW.us2 hl;rfl)
   (case a=>k_is)
   (case i=>k_is)
   (case l=>k_is)
   (case c=>k_is)
   (case k=>k_is)
  case Z08 =>
   refine' L2.WM KX G ["self"] ?a ?i ?l ?c ?k (fun _ _ _ _ _ _ us hl=>by obtain ⟨_,rfl⟩:=KW.us1 hl;rfl)
   (case a=>k_is)
   (case i=>k_is)
   (case l=>k_is)
   (case c=>k_is)
   (case k=>k_is)
  case Z0z =>
   refine' L2.WM KX G ["self"] ?a ?i ?l ?c ?k (fun _ _ _ _ _ _ us hl=>by obtain ⟨_,rfl⟩:=KW.us1 hl;rfl)
   (case a=>k_is)
   (case i=>k_is)
   (case l=>k_is)
   (case c=>k_is)
   (case k=>k_is)
  case Zf =>
   refine' L2.WM KX G ["self"] ?a ?i ?l ?c ?k (fun _ _ _ _ _ _ us hl=>by obtain ⟨_,rfl⟩:=KW.us1 hl;rfl)
   (case a=>k_is)
   (case i=>k_is)
   (case l=>k_is)
   (case c=>k_is)
   (case k=>k_is)
  case Zg =>
   refine' L2.WM KX G ["self"] ?a ?i ?l ?c ?k (fun _ _ _ _ _ _ us hl=>by obtain ⟨_,rfl⟩:=KW.us1 hl;rfl)
   (case a=>k_is)
   (case i=>k_is)
   (case l=>k_is)
   (case c=>k_is)
   (case k=>k_is)
  case Z10 =>
   refine' L2.Yz KX G ["text"] ?a ?l ?c ?k (fun _ _ _ _ _ _ us hl=>by obtain ⟨_,rfl⟩:=KW.us1 hl;rfl)
   (case a=>k_is)
   (case l=>k_is)
   (case c=>k_is)
   (case k=>k_is)
  case Z2I =>
   refine' L2.Yz KX G ["text"] ?a ?l ?c ?k (fun _ _ _ _ _ _ us hl=>by obtain ⟨_,rfl⟩:=KW.us1 hl;rfl)
   (case a=>k_is)
   (case l=>k_is)
   (case c=>k_is)
   (case k=>k_is)
  case Z11 =>
   refine' L2.Yz KX G ["word"] ?a ?l ?c ?k (fun _ _ _ _ _ _ us hl=>by obtain ⟨_,rfl⟩:=KW.us1 hl;rfl)
   (case a=>k_is)
   (case l=>k_is)
   (case c=>k_is)
   (case k=>k_is)
  case Z2J =>
   refine' L2.Yz KX G ["note"] ?a ?l ?c ?k (fun _ _ _ _ _ _ us hl=>by obtain ⟨_,rfl⟩:=KW.us1 hl;rfl)
   (case a=>k_is)
   (case l=>k_is)
   (case c=>k_is)
   (case k=>k_is)
  case Z0s =>
   refine' L2.Yz KX G ["notes","least","most"] ?a ?l ?c ?k (fun _ _ _ _ _ _ us hl=>by obtain ⟨_,_,_,rfl⟩:=KW.us3 hl;rfl)
   (case a=>k_is)
   (case l=>k_is)
   (case c=>k_is)
   (case k=>k_is)
  case Z12 =>
   refine' L2.Yz KX G ["note"] ?a ?l ?c ?k (fun _ _ _ _ _ _ us hl=>by obtain ⟨_,rfl⟩:=KW.us1 hl;rfl)
   (case a=>k_is)
   (case l=>k_is)
   (case c=>k_is)
   (case k=>k_is)
  case Z1S =>
   refine' L2.Yz KX G ["name"] ?a ?l ?c ?k (fun _ _ _ _ _ _ us hl=>by obtain ⟨_,rfl⟩:=KW.us1 hl;rfl)
   (case a=>k_is)
   (case l=>k_is)
   (case c=>k_is)
   (case k=>k_is)
  case Z1g =>
   refine' L2.Yz KX G ["notes"] ?a ?l ?c ?k (fun _ _ _ _ _ _ us hl=>by obtain ⟨_,rfl⟩:=KW.us1 hl;rfl)
   (case a=>k_is)
   (case l=>k_is)
   (case c=>k_is)
   (case k=>k_is)
  case Z1z =>
   refine' L2.Yz KX G ["notes"] ?a ?l ?c ?k (fun _ _ _ _ _ _ us hl=>by obtain ⟨_,rfl⟩:=KW.us1 hl;rfl)
   (case a=>k_is)
   (case l=>k_is)
   (case c=>k_is)
   (case k=>k_is)
  case ZH =>
   refine' L2.Yz KX G ["notes"] ?a ?l ?c ?k (fun _ _ _ _ _ _ us hl=>by obtain ⟨_,rfl⟩:=KW.us1 hl;rfl)
   (case a=>k_is)
   (case l=>k_is)
   (case c=>k_is)
   (case k=>k_is)
  case Zm =>
   refine' L2.Yz KX G ["kind","notes"] ?a ?l ?c ?k (fun _ _ _ _ _ _ us hl=>by obtain ⟨_,_,rfl⟩:=KW.us2 hl;rfl)
   (case a=>k_is)
   (case l=>k_is)
   (case c=>k_is)
   (case k=>k_is)
  case Zu =>
   refine' L2.Yz KX G ["notes"] ?a ?l ?c ?k (fun _ _ _ _ _ _ us hl=>by obtain ⟨_,rfl⟩:=KW.us1 hl;rfl)
   (case a=>k_is)
   (case l=>k_is)
   (case c=>k_is)
   (case k=>k_is)
  case Zr =>
   refine' L2.Yz KX G ["note"] ?a ?l ?c ?k (fun _ _ _ _ _ _ us hl=>by obtain ⟨_,rfl⟩:=KW.us1 hl;rfl)
   (case a=>k_is)
   (case l=>k_is)
   (case c=>k_is)
   (case k=>k_is)
  case Zz =>
   refine' L2.Yz KX G ["notes"] ?a ?l ?c ?k (fun _ _ _ _ _ _ us hl=>by obtain ⟨_,rfl⟩:=KW.us1 hl;rfl)
   (case a=>k_is)
   (case l=>k_is)
   (case c=>k_is)
   (case k=>k_is)
  case Zk =>
   refine' L2.Yz KX G ["note"] ?a ?l ?c ?k (fun _ _ _ _ _ _ us hl=>by obtain ⟨_,rfl⟩:=KW.us1 hl;rfl)
   (case a=>k_is)
   (case l=>k_is)
   (case c=>k_is)
   (case k=>k_is)
  case Z2g =>
   refine' L2.Yz KX G ["text"] ?a ?l ?c ?k (fun _ _ _ _ _ _ us hl=>by obtain ⟨_,rfl⟩:=KW.us1 hl;rfl)
   (case a=>k_is)
   (case l=>k_is)
   (case c=>k_is)
   (case k=>k_is)
  case Z3b =>
   refine' L2.Yz KX G ["shape"] ?a ?l ?c ?k (fun _ _ _ _ _ _ us hl=>by obtain ⟨_,rfl⟩:=KW.us1 hl;rfl)
   (case a=>k_is)
   (case l=>k_is)
   (case c=>k_is)
   (case k=>k_is)
  case Zn =>
   refine' L2.Yz KX G ["shape"] ?a ?l ?c ?k (fun _ _ _ _ _ _ us hl=>by obtain ⟨_,rfl⟩:=KW.us1 hl;rfl)
   (case a=>k_is)
   (case l=>k_is)
   (case c=>k_is)
   (case k=>k_is)
  case Z1A =>
   refine' L2.Yz KX G ["draft"] ?a ?l ?c ?k (fun _ _ _ _ _ _ us hl=>by obtain ⟨_,rfl⟩:=KW.us1 hl;rfl)
   (case a=>k_is)
   (case l=>k_is)
   (case c=>k_is)
   (case k=>k_is)
  case Z0M =>
   refine' L2.Yz KX G ["draft"] ?a ?l ?c ?k (fun _ _ _ _ _ _ us hl=>by obtain ⟨_,rfl⟩:=KW.us1 hl;rfl)
   (case a=>k_is)
   (case l=>k_is)
   (case c=>k_is)
   (case k=>k_is)
  case Zt =>
   refine' L2.Yz KX G ["shape"] ?a ?l ?c ?k (fun _ _ _ _ _ _ us hl=>by obtain ⟨_,rfl⟩:=KW.us1 hl;rfl)
   (case a=>k_is)
   (case l=>k_is)
   (case c=>k_is)
   (case k=>k_is)
  case Zy =>
   refine' L2.Yz KX G ["shape"] ?a ?l ?c ?k (fun _ _ _ _ _ _ us hl=>by obtain ⟨_,rfl⟩:=KW.us1 hl;rfl)
   (case a=>k_is)
   (case l=>k_is)
   (case c=>k_is)
   (case k=>k_is)
  case Z2h =>
   refine' L2.Yz KX G ["shape"] ?a ?l ?c ?k (fun _ _ _ _ _ _ us hl=>by obtain ⟨_,rfl⟩:=KW.us1 hl;rfl)
   (case a=>k_is)
   (case l=>k_is)
   (case c=>k_is)
   (case k=>k_is)
  case Z3c =>
   refine' L2.Yz KX G ["book","name"] ?a ?l ?c ?k (fun _ _ _ _ _ _ us hl=>by obtain ⟨_,_,rfl⟩:=KW.us2 hl;rfl)
   (case a=>k_is)
   (case l=>k_is)
   (case c=>k_is)
   (case k=>k_is)
  case Z0t =>
   refine' L2.Yz KX G ["rows"] ?a ?l ?c ?k (fun _ _ _ _ _ _ us hl=>by obtain ⟨_,rfl⟩:=KW.us1 hl;rfl)
   (case a=>k_is)
   (case l=>k_is)
   (case c=>k_is)
   (case k=>k_is)
  case Z1B =>
   refine' L2.Yz KX G ["row"] ?a ?l ?c ?k (fun _ _ _ _ _ _ us hl=>by obtain ⟨_,rfl⟩:=KW.us1 hl;rfl)
   (case a=>k_is)
   (case l=>k_is)
   (case c=>k_is)
   (case k=>k_is)
  case Z0c =>
   refine' L2.Yz KX G ["book"] ?a ?l ?c ?k (fun _ _ _ _ _ _ us hl=>by obtain ⟨_,rfl⟩:=KW.us1 hl;rfl)
   (case a=>k_is)
   (case l=>k_is)
   (case c=>k_is)
   (case k=>k_is)
  case Z13 =>
   refine' L2.Yz KX G ["book"] ?a ?l ?c ?k (fun _ _ _ _ _ _ us hl=>by obtain ⟨_,rfl⟩:=KW.us1 hl;rfl)
   (case a=>k_is)
   (case l=>k_is)
   (case c=>k_is)
   (case k=>k_is)
  case Z2K =>
   refine' L2.Yz KX G ["book"] ?a ?l ?c ?k (fun _ _ _ _ _ _ us hl=>by obtain ⟨_,rfl⟩:=KW.us1 hl;rfl)
   (case a=>k_is)
   (case l=>k_is)
   (case c=>k_is)
   (case k=>k_is)
  case Z2i =>
   refine' L2.Yz KX G ["book","name"] ?a ?l ?c ?k (fun _ _ _ _ _ _ us hl=>by obtain ⟨_,_,rfl⟩:=KW.us2 hl;rfl)
   (case a=>k_is)
   (case l=>k_is)
   (case c=>k_is)
   (case k=>k_is)
  case Z0F =>
   refine' L2.Yz KX G ["book"] ?a ?l ?c ?k (fun _ _ _ _ _ _ us hl=>by obtain ⟨_,rfl⟩:=KW.us1 hl;rfl)
   (case a=>k_is)
   (case l=>k_is)
   (case c=>k_is)
   (case k=>k_is)
  case Z2L =>
   refine' L2.Yz KX G ["text"] ?a ?l ?c ?k (fun _ _ _ _ _ _ us hl=>by obtain ⟨_,rfl⟩:=KW.us1 hl;rfl)
   (case a=>k_is)
   (case l=>k_is)
   (case c=>k_is)
   (case k=>k_is)
  case Z1T =>
   refine' L2.Yz KX G ["_law_script","_law_k"] ?a ?l ?c ?k (fun _ _ _ _ _ _ us hl=>by obtain ⟨_,_,rfl⟩:=KW.us2 hl;rfl)
   (case a=>k_is)
   (case l=>k_is)
   (case c=>k_is)
   (case k=>k_is)
  case Z3d =>
   refine' L2.Yz KX G ["_law_cell","_law_size"] ?a ?l ?c ?k (fun _ _ _ _ _ _ us hl=>by obtain ⟨_,_,rfl⟩:=KW.us2 hl;rfl)
   (case a=>k_is)
   (case l=>k_is)
   (case c=>k_is)
   (case k=>k_is)
  case Z2M =>
   refine' L2.Yz KX G ["_law_cell","_law_many"] ?a ?l ?c ?k (fun _ _ _ _ _ _ us hl=>by obtain ⟨_,_,rfl⟩:=KW.us2 hl;rfl)
   (case a=>k_is)
   (case l=>k_is)
   (case c=>k_is)
   (case k=>k_is)
  case Z2N =>
   refine' L2.Yz KX G ["_law_names_here","_law_one","_law_other","_law_kind"] ?a ?l ?c ?k (fun _ _ _ _ _ _ us hl=>by obtain ⟨_,_,_,_,rfl⟩:=KW.us4 hl;rfl)
   (case a=>k_is)
   (case l=>k_is)
   (case c=>k_is)
   (case k=>k_is)
  case ZN =>
   refine' L2.Yz KX G ["_law_shape_here"] ?a ?l ?c ?k (fun _ _ _ _ _ _ us hl=>by obtain ⟨_,rfl⟩:=KW.us1 hl;rfl)
   (case a=>k_is)
   (case l=>k_is)
   (case c=>k_is)
   (case k=>k_is)
  case ZO =>
   refine' L2.Yz KX G ["_law_shape_here"] ?a ?l ?c ?k (fun _ _ _ _ _ _ us hl=>by obtain ⟨_,rfl⟩:=KW.us1 hl;rfl)
   (case a=>k_is)
   (case l=>k_is)
   (case c=>k_is)
   (case k=>k_is)
  case Zd =>
   refine' L2.Yz KX G ["_law_found","_law_due"] ?a ?l ?c ?k (fun _ _ _ _ _ _ us hl=>by obtain ⟨_,_,rfl⟩:=KW.us2 hl;rfl)
   (case a=>k_is)
   (case l=>k_is)
   (case c=>k_is)
   (case k=>k_is)
  case Z1U =>
   refine' L2.Yz KX G ["_law_book","_law_name"] ?a ?l ?c ?k (fun _ _ _ _ _ _ us hl=>by obtain ⟨_,_,rfl⟩:=KW.us2 hl;rfl)
   (case a=>k_is)
   (case l=>k_is)
   (case c=>k_is)
   (case k=>k_is)
  case Z9 =>
   refine' ⟨?a,?b,?c,?d⟩
   (case a=>k_is)
   (case b=>k_is)
   (case c=>k_is)
   (case d=>k_is)
  case Zc =>
   refine' L2.QA ?a
   (case a=>k_is)
  case Zb =>
   refine' L2.QA ?a
   (case a=>k_is)
  case Z2t =>
   refine' L2.XY KX G ?a
   (case a=>k_is)
  case ZR =>
   refine' L2.XY KX G ?a
   (case a=>k_is)
  case Z2u =>
   refine' L2.XY KX G ?a
   (case a=>k_is)
  case ZD =>
   refine' L2.XY KX G ?a
   (case a=>k_is)
  case Z30 =>
   refine' L2.XY KX G ?a
   (case a=>k_is)
  case ZU =>
   refine' L2.XY KX G ?a
   (case a=>k_is)
  case Z4d =>
   refine' L2.XY KX G ?a
   (case a=>k_is)
  case Z3y =>
   refine' L2.XY KX G ?a
   (case a=>k_is)
  case ZV =>
   refine' L2.XY KX G ?a
   (case a=>k_is)
  case ZI =>
   refine' L2.Yfb KX G ?a ?l ?z ?r
   (case a=>k_is)
   (case l=>k_is)
   (case z=>decide)
   (case r=>exact (.cons ⟨_,rfl⟩ (.cons ⟨_,rfl⟩ (.cons ⟨_,rfl⟩ .nil))))
  case Z0D =>
   refine' PySem.W.mg_none_of KX G ?a
   (case a=>k_is)
  case b_all =>
   refine' PySem.W.mg_none_of KX G ?a
   (case a=>k_is)
  case b_bool =>
   refine' PySem.W.mg_none_of KX G ?a
   (case a=>k_is)
  case b_int =>
   refine' PySem.W.mg_none_of KX G ?a
   (case a=>k_is)
  case Z8 =>
   refine' PySem.W.mg_none_of KX G ?a
   (case a=>k_is)
  case b_len =>
   refine' PySem.W.mg_none_of KX G ?a
   (case a=>k_is)
  case b_list =>
   refine' PySem.W.mg_none_of KX G ?a
   (case a=>k_is)
  case ZW =>
   refine' PySem.W.mg_none_of KX G ?a
   (case a=>k_is)
  case b_set =>
   refine' PySem.W.mg_none_of KX G ?a
   (case a=>k_is)
  case b_str =>
   refine' PySem.W.mg_none_of KX G ?a
   (case a=>k_is)
  case Za =>
   refine' PySem.W.mg_none_of KX G ?a
   (case a=>k_is)
  case b_zip =>
   refine' PySem.W.mg_none_of KX G ?a
   (case a=>k_is)
  case x_CountError =>
   refine' PySem.W.mg_of KX G ?a
   (case a=>k_is)
  case x_NoNote =>
   refine' PySem.W.mg_of KX G ?a
   (case a=>k_is)
  case x_Crowded =>
   refine' PySem.W.mg_of KX G ?a
   (case a=>k_is)
  case x_Twice =>
   refine' PySem.W.mg_of KX G ?a
   (case a=>k_is)
  case x_NoRange =>
   refine' PySem.W.mg_of KX G ?a
   (case a=>k_is)
  case x_NoName =>
   refine' PySem.W.mg_of KX G ?a
   (case a=>k_is)
  case r_Crowded=>k_exc
  case r_NoName=>k_exc
  case r_NoNote=>k_exc
  case r_NoRange=>k_exc
  case r_Twice=>k_exc
  case t_NoName =>
   refine' ⟨?a,?b,?c,?d,?e,?f⟩
   (case a=>k_is)
   (case b=>k_is)
   (case c=>k_is)
   (case d=>k_is)
   (case e=>k_is)
   (case f=>k_is)
  case i_NoName_CountError=>kit_is
  case i_NoName_ValueError=>kit_is
  case m_NoName_NoName=>kts_exm
