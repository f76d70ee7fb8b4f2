import PyProof.Rows.All
import Wide.All
import OpenK.AllK
import Wide.FinOn
import Lean
import PyProof.EqAt
import PyProof.EqKinds
import PyProof.TupleCall
import PyProof.NeData
import KE.KTryMore
import PyProof.ExcBaseAll.ValueError
import PyProof.ExcArgsOwn
import KE.KIntText
import PyProof.Rows.SetFrom
import PyProof.SetRoads
import PyProof.StrWalks
import PyProof.ListStr
import PyProof.Rows.StrSplitCount
import PyProof.MeetsStr
import PyProof.MeetsStr2
import PyProof.StrOps2
import KE.KTryOn
import PySem.Challenge.RW_countgen_k51_terms_refused
set_option compiler.extract_closed false
set_option Elab.async false
set_option linter.all false
set_option maxRecDepth 100000
namespace L2
open PySem PySem.Spec PyProof.Rows
abbrev Key:=Sum Int Str
def Wz:Key→Value→Bool
 | .inl k,v=>Value.isInt k v
 | .inr x,v=>Value.isStrOf x v
def keyH (w:World):Key→Int
 | .inl k=>hashInt k
 | .inr x=>hashStr w x
theorem YI:∀ {k:Key} {v:Value},Wz k v=true→(∃ i t,k=Sum.inl i∧v=Value.int i t)∨(∃ x t,k=Sum.inr x∧v=Value.str x t)
 | .inl i,v,h=>by
  obtain ⟨t,e⟩:=Value.isInt_shape (k:=i) (v:=v) h
  exact .inl ⟨i,t,rfl,e⟩
 | .inr x,v,h=>by
  obtain ⟨t,e⟩:=Value.isStrOf_shape (x:=x) (v:=v) h
  exact .inr ⟨x,t,rfl,e⟩
theorem QD (i:Int) (t:Tok):Wz (.inl i) (.int i t)=true:=by simp [Wz,Value.isInt]
theorem QE (x:Str) (t:Tok):Wz (.inr x) (.str x t)=true:=by simp [Wz,Value.isStrOf]
theorem Ycj (a b:Int):decide ((Sum.inl a:Key)=Sum.inl b)=(a==b):=by
 by_cases e:a=b
 ·subst e;simp
 ·have h:¬ (Sum.inl a:Key)=Sum.inl b:=fun q=>e (Sum.inl.inj q)
  rw [decide_eq_false h]
  exact (beq_eq_false_iff_ne.mpr e).symm
theorem Yck (a b:Str):decide ((Sum.inr a:Key)=Sum.inr b)=decide (a=b):=by
 by_cases e:a=b
 ·subst e;simp
 ·have h:¬ (Sum.inr a:Key)=Sum.inr b:=fun q=>e (Sum.inr.inj q)
  rw [decide_eq_false h,decide_eq_false e]
theorem Ycl (a:Int) (b:Str):decide ((Sum.inl a:Key)=Sum.inr b)=false:=decide_eq_false (fun q=>nomatch q)
theorem Ycm (a:Str) (b:Int):decide ((Sum.inr a:Key)=Sum.inl b)=false:=decide_eq_false (fun q=>nomatch q)
def Xd (prog:Program) (w:World):PySem.KeyKind prog w Key where
 is:=Wz
 hash:=keyH w
 inj:=fun v a b ha hb=>by
  rcases YI ha with ⟨i,t,rfl,rfl⟩ | ⟨x,t,rfl,rfl⟩
  ·rcases YI hb with ⟨j,u,rfl,e⟩ | ⟨y,u,rfl,e⟩
   ·injection e with e1 _;rw [e1]
   ·exact nomatch e
  ·rcases YI hb with ⟨j,u,rfl,e⟩ | ⟨y,u,rfl,e⟩
   ·exact nomatch e
   ·injection e with e1 _;rw [e1]
 byValue:=fun k v h=>by
  rcases YI h with ⟨i,t,rfl,rfl⟩ | ⟨x,t,rfl,rfl⟩<;>rfl
 pyHash:=fun hv h=>by
  rcases YI hv with ⟨i,t,rfl,rfl⟩ | ⟨x,t,rfl,rfl⟩
  ·exact wpAny_pyHash_int h
  ·exact wpAny_pyHash_str h
 eqBool:=fun hu hv h=>by
  rcases YI hu with ⟨i,t,rfl,rfl⟩ | ⟨x,t,rfl,rfl⟩
  ·rcases YI hv with ⟨j,u,rfl,rfl⟩ | ⟨y,u,rfl,rfl⟩
   ·rw [Ycj] at h;exact wpAny_eqBool_int h
   ·rw [Ycl] at h;exact SeqAt.EqAt.int_str i t y u _ _ _ _ h
  ·rcases YI hv with ⟨j,u,rfl,rfl⟩ | ⟨y,u,rfl,rfl⟩
   ·rw [Ycm] at h;exact SeqAt.EqAt.str_int x t j u _ _ _ _ h
   ·rw [Yck] at h;exact wpAny_eqBool_str h
 «strs»:=fun k x t v h=>by
  rcases YI h with ⟨i,u,rfl,e⟩ | ⟨y,u,rfl,e⟩
  ·exact nomatch e
  ·injection e with e1 _
   subst e1
   cases v<;>rfl
theorem UC (prog:Program) (w:World) (i:Int) (t:Tok):(Xd prog w).is (.inl i) (.int i t)=true:=QD i t
theorem UD (prog:Program) (w:World) (x:Str) (t:Tok):(Xd prog w).is (.inr x) (.str x t)=true:=QE x t
end L2
namespace L2
open PySem PySem.Spec PyProof.Rows
inductive V where
 | non | bl (b:Bool) | int (i:Int) | str (x:Str) | byt (b:Array UInt8) | flt (b:UInt64) | ref (a:Addr) | ty (n:String)
 deriving DecidableEq
def Yo:V→Value→Prop
 | .non,u=>u=Value.none
 | .bl b,u=>u=Value.bool b
 | .int i,u=>∃ t,u=Value.int i t
 | .str x,u=>∃ t,u=Value.str x t
 | .byt b,u=>∃ t,u=Value.bytes b t
 | .flt b,u=>∃ t,u=Value.float b t
 | .ref a,u=>u=Value.ref a
 | .ty n,u=>u=Value.type n
abbrev Yi:List V→List Value→Prop:=Paired Yo
theorem Yi.length {xs:List V} {us:List Value} (r:Yi xs us):xs.length=us.length:=Paired.length r
theorem Yi.get:∀ {xs:List V} {us:List Value} {i:Nat} {x:V},Yi xs us→xs[i]?=some x→∃ u,us[i]?=some u∧Yo x u
 | _,_,_,_,.nil,e=>by simp at e
 | _,_,0,_,.cons r _,e=>by simp at e;subst e;exact ⟨_,rfl,r⟩
 | _,_,i+1,x,.cons _ t,e=>by
  obtain ⟨u,h1,h2⟩:=Yi.get (i:=i) (x:=x) t (by simpa using e)
  exact ⟨u,by simpa using h1,h2⟩
theorem Yi.set {x:V} {u:Value} (r:Yo x u):∀ {xs:List V} {us:List Value} (i:Nat),Yi xs us→Yi (xs.set i x) (us.set i u)
 | _,_,_,.nil => .nil
 | _,_,0,.cons _ t => .cons r t
 | _,_,i+1,.cons q t => .cons q (Yi.set r i t)
theorem Yi.append:∀ {xs ys:List V} {us ws:List Value},Yi xs us→Yi ys ws→Yi (xs++ys) (us++ws)
 | _,_,_,_,.nil,s=>s
 | _,_,_,_,.cons r t,s => .cons r (Yi.append t s)
theorem Yi.take:∀ {xs:List V} {us:List Value} (n:Nat),Yi xs us→Yi (xs.take n) (us.take n)
 | _,_,0,_ => .nil
 | _,_,_+1,.nil => .nil
 | _,_,n+1,.cons r t => .cons r (Yi.take n t)
theorem Yi.drop:∀ {xs:List V} {us:List Value} (n:Nat),Yi xs us→Yi (xs.drop n) (us.drop n)
 | _,_,0,r=>r
 | _,_,_+1,.nil => .nil
 | _,_,n+1,.cons _ t=>Yi.drop n t
def X2:Option V→Option Value→Prop
 | some v,some u=>Yo v u
 | none,none=>True
 | _,_=>False
def KV {κ:Type}:List (κ×V)→List (κ×Value)→Prop:=Paired fun (p:κ×V) (q:κ×Value)=>p.1=q.1∧Yo p.2 q.2
def kV:Key→V
 | .inl i => .int i
 | .inr x => .str x
inductive HO where
 /-- a list -/
 | lst (xs:List V)
 /-- a tuple (never changes) -/
 | tup (xs:List V)
 /-- a dict whose keys are ints and texts;one whose keys are tuples of ints and texts (the empty one is both) -/
 | dK (kvs:List (Key×V)) | dT (kvs:List (List Key×V))
 /-- a set of ints: its members,its size -/
 | set (S:Int→Bool) (n:Nat)
 /-- an instance of the class at C,its dict at dx,its attributes -/
 | ins (C dx:Addr) (fs:List (Str×V))
 /-- the dict of the instance at x -/
 | own (x:Addr)
 /-- the dict of an exception -/
 | xd (fs:List (Str×V))
 /-- a bound method,f of x -/
 | met (f x:Addr)
 /-- a range object lo,lo+1,.. below hi -/
 | rng (lo hi:Int)
 /-- a thing that is known to the object (the script;a dict while a loop walks it): read,never written while it is so -/
 | frz (o:Obj) (u:HO)
 /-- a code object's table -/
 | tbl (ps:Array Value)
 /-- any other thing,by what is true of its one object (a def of one's own: SetO a S n:=HO.ext fun h => ..) -/
 | ext (φ:Heap→Prop)
abbrev Hp:=Addr→Option HO
def upd (H:Hp) (a:Addr) (o:HO):Hp:=fun b=>if b=a then some o else H b
theorem Yf {H:Hp} {a:Addr} {o:HO}:upd H a o a=some o:=by unfold upd;rw [if_pos rfl]
theorem Yl {H:Hp} {a b:Addr} {o:HO} (h:b≠a):upd H a o b=H b:=by unfold upd;rw [if_neg h]
theorem UJ {H:Hp} {a:Addr} {o u:HO}:upd (upd H a o) a u=upd H a u:=by
 funext b;unfold upd;split<;>rfl
theorem WA {H:Hp} {a b:Addr} {o u:HO} (h:H a=some o) (h':H b=some u) (d:o≠u):a≠b:=by
 intro e;subst e;rw [h] at h';exact d (Option.some.inj h')
theorem Yq {H:Hp} {a b:Addr} {o:HO} (h:H a=some o) (h':H b=none):a≠b:=by
 intro e;subst e;rw [h] at h';cases h'
section
variable (P:Program) (w:World)
def YD (H:Hp) (h:Heap) (a:Addr):HO→Prop
 | .lst xs=>xs.length≤sizeLine∧∃ (its:List Value) (n:Nat),Yi xs its∧h.get? a=some { cls := .type "list",data := .seq its.toArray n }
 | .tup xs=>xs.length≤sizeLine∧∃ its:List Value,Yi xs its∧IsTup h a its.toArray
 | .dK kvs=>kvs.length≤sizeLine∧(a==sysModules)=false∧∃ vs,KV kvs vs∧h.DictOf (Xd P w) a vs
 | .dT kvs=>kvs.length≤sizeLine∧(a==sysModules)=false∧∃ xs:List (List Key×Addr×Value),
   Paired (fun (p:List Key×V) (q:List Key×Addr×Value)=>p.1=q.1∧H q.2.1=some (.tup (p.1.map kV))∧Yo p.2 q.2.2) kvs xs ∧
   ∃ o es ep,h.get? a=some o∧o.ExactDict∧o.data = .dict es ep∧es.toList=xs.map (entryOfKey (tupleKind (Xd P w)))∧(xs.map (·.1)).Nodup
 | .set S n=>h.SetOf (intKind P w) a S n
 | .ins C dx fs=>H dx=some (.own a)∧fs.length≤1000∧dx≠a∧h.get? a=some (PySem.W.instObj C dx) ∧
   ∃ mA,h.Ns1 dx mA∧(∀ f,X2 (fs.lookup f) (mA f))∧PySem.Within mA (fs.map (·.1))
 | .own _=>∃ o,h.get? a=some o
 | .xd fs=>∃ mA,h.Ns1 a mA∧∀ f,X2 (fs.lookup f) (mA f)
 | .rng lo hi=>∃ t u v,h.get? a=some { cls := .type "range",data := .fields #[.int lo t,.int hi u,.int 1 v] }
 | .frz o u=>h.get? a=some o∧YD H h a u
 | .tbl ps=>h.get? a=some { cls := .none,data := .fields ps }
 | .met f x=>h.get? a=some (PySem.W.methodObj (.ref f) (.ref x))
 | .ext φ=>φ h∧(∃ o,h.get? a=some o)∧∀ h1 h2:Heap,φ h1→(∀ o,h1.get? a=some o→h2.get? a=some o)→φ h2
def HOk (H:Hp) (h:Heap):Prop:=∀ a o,H a=some o→YD P w H h a o
end
section
variable {P:Program} {w:World} {H H':Hp} {h h':Heap} {a:Addr} {o:HO}
theorem YD.lt (x:YD P w H h a o):a<h.objs.size:=by
 cases o with
 | lst xs=>obtain ⟨_,_,_,_,e⟩:=x;exact Heap.lt_size e
 | tup xs=>obtain ⟨_,_,_,p⟩:=x;exact p.lt
 | dK kvs=>obtain ⟨_,_,_,_,o,_,_,e,_⟩:=x;exact Heap.lt_size e
 | dT kvs=>obtain ⟨_,_,_,_,o,_,_,e,_⟩:=x;exact Heap.lt_size e
 | set S n=>obtain ⟨o,_,_,_,e,_⟩:=x;exact Heap.lt_size e
 | ins C dx fs=>obtain ⟨_,_,_,e,_⟩:=x;exact Heap.lt_size e
 | own y=>obtain ⟨_,e⟩:=x;exact Heap.lt_size e
 | xd fs=>obtain ⟨_,⟨_,_,_,e,_⟩,_⟩:=x;exact Heap.lt_size e
 | rng lo hi=>obtain ⟨_,_,_,e⟩:=x;exact Heap.lt_size e
 | frz ob u=>obtain ⟨e,_⟩:=x;exact Heap.lt_size e
 | tbl ps=>exact Heap.lt_size (show h.get? a=some _ from x)
 | met f y=>exact Heap.lt_size (show h.get? a=some _ from x)
 | ext φ=>obtain ⟨_,⟨_,e⟩,_⟩:=x;exact Heap.lt_size e
theorem Paired.mapP {α β:Type} {F G:α→β→Prop}:∀ {l₁:List α} {l₂:List β},Paired F l₁ l₂→(∀ a b,F a b→G a b)→Paired G l₁ l₂
 | _,_,.nil,_ => .nil
 | _,_,.cons r t,f => .cons (f _ _ r) (Paired.mapP t f)
theorem YD.stay (x:YD P w H h a o) (k:∀ b u,(b=a∨H b=some (.own a))→h.get? b=some u→h'.get? b=some u)
  (ho:∀ b,H b=some (.own a)→H' b=some (.own a)) (ht:∀ b xs,H b=some (.tup xs)→H' b=some (.tup xs)):YD P w H' h' a o:=by
 induction o with
 | lst xs=>obtain ⟨z,its,n,r,e⟩:=x;exact ⟨z,its,n,r,k _ _ (.inl rfl) e⟩
 | tup xs=>obtain ⟨z,its,r,ob,e,c⟩:=x;exact ⟨z,its,r,ob,k _ _ (.inl rfl) e,c⟩
 | dK kvs=>obtain ⟨z,y,vs,r,ob,es,ep,e,c⟩:=x;exact ⟨z,y,vs,r,ob,es,ep,k _ _ (.inl rfl) e,c⟩
 | dT kvs =>
  obtain ⟨z,y,xs,r,ob,es,ep,e,c⟩:=x
  exact ⟨z,y,xs,Paired.mapP r fun p q z=>⟨z.1,ht _ _ z.2.1,z.2.2⟩,ob,es,ep,k _ _ (.inl rfl) e,c⟩
 | set S n=>obtain ⟨ob,es,ep,t,e,c⟩:=x;exact ⟨ob,es,ep,t,k _ _ (.inl rfl) e,c⟩
 | ins C dx fs =>
  obtain ⟨d,z,ne,e,mA,⟨od,es,ep,e2,c⟩,r⟩:=x
  exact ⟨ho _ d,z,ne,k _ _ (.inl rfl) e,mA,⟨od,es,ep,k _ _ (.inr d) e2,c⟩,r⟩
 | own y=>obtain ⟨ob,e⟩:=x;exact ⟨ob,k _ _ (.inl rfl) e⟩
 | xd fs=>obtain ⟨mA,⟨od,es,ep,e,c⟩,r⟩:=x;exact ⟨mA,⟨od,es,ep,k _ _ (.inl rfl) e,c⟩,r⟩
 | rng lo hi=>obtain ⟨t,u,v,e⟩:=x;exact ⟨t,u,v,k _ _ (.inl rfl) e⟩
 | frz ob u ih=>obtain ⟨e,q⟩:=x;exact ⟨k _ _ (.inl rfl) e,ih q⟩
 | tbl ps =>
  have e:h.get? a=some { cls := .none,data := .fields ps }:=x
  show h'.get? a=some { cls := .none,data := .fields ps }
  exact k a _ (.inl rfl) e
 | met f y =>
  have e:h.get? a=some (PySem.W.methodObj (.ref f) (.ref y)):=x
  show h'.get? a=some (PySem.W.methodObj (.ref f) (.ref y))
  exact k a _ (.inl rfl) e
 | ext φ=>obtain ⟨p,⟨o,e⟩,st⟩:=x;exact ⟨st _ _ p fun o q=>k _ _ (.inl rfl) q,⟨o,k _ _ (.inl rfl) e⟩,st⟩
theorem HOk.lt (x:HOk P w H h) (e:H a=some o):a<h.objs.size:=(x a o e).lt
theorem HOk.fresh (x:HOk P w H h) (e:h.objs.size≤a):H a=none:=by
 cases q:H a with
 | none=>rfl
 | some u=>exact absurd (Nat.lt_of_lt_of_le (x.lt q) e) (Nat.lt_irrefl _)
theorem HOk.kept (x:HOk P w H h) (k:∀ b u,h.get? b=some u→h'.get? b=some u):HOk P w H h':=fun a o e =>
 (x a o e).stay (fun b u _ q=>k b u q) (fun _ q=>q) fun _ _ q=>q
theorem HOk.laid (x:HOk P w H h) (k:∀ b u,h.get? b=some u→h'.get? b=some u) (hp:h.objs.size≤a) (new:YD P w (upd H a o) h' a o):HOk P w (upd H a o) h':=fun b u e=>by
 have hn:=x.fresh hp
 by_cases hb:b=a
 ·subst hb;rw [Yf] at e;cases e;exact new
 ·rw [Yl hb] at e
  exact (x b u e).stay (fun c v _ q=>k c v q) (fun c q=>by rw [Yl (Yq q hn)];exact q) fun c xs q=>by rw [Yl (Yq q hn)];exact q
end
def Rd (H:Hp) (a:Addr) (u:HO):Prop:=H a=some u∨∃ o,H a=some (.frz o u)
theorem Rd.of {H:Hp} {a:Addr} {u:HO} (h:H a=some u):Rd H a u := .inl h
theorem Rd.ok {P:Program} {w:World} {H:Hp} {h:Heap} {a:Addr} {u:HO} (r:Rd H a u) (x:HOk P w H h):YD P w H h a u:=by
 rcases r with r | ⟨o,r⟩
 ·exact x a u r
 ·obtain ⟨_,q⟩:=x a _ r
  exact q
def Mut:Option HO→Prop
 | some (.lst _)=>True
 | some (.dK _)=>True
 | some (.dT _)=>True
 | some (.set _ _)=>True
 | some (.ins _ _ _)=>True
 | some (.ext _)=>True
 | _=>False
section
variable {P:Program} {w:World} {H:Hp} {h h':Heap} {x e:Addr} {o':HO}
theorem HOk.write (ok:HOk P w H h) (mu:Mut (H x)) (he:e=x∨H e=some (.own x)) (k:∀ b u,b≠e→h.get? b=some u→h'.get? b=some u) (heo:∃ u,h'.get? e=some u)
  (new:YD P w (upd H x o') h' x o'):HOk P w (upd H x o') h':=fun b u q=>by
 have nown:∀ c y,H c=some (.own y)→c≠x:=fun c y r z=>by subst z;rw [r] at mu;exact mu
 have ntup:∀ c xs,H c=some (.tup xs)→c≠x:=fun c xs r z=>by subst z;rw [r] at mu;exact mu
 by_cases hb:b=x
 ·subst hb;rw [Yf] at q;cases q;exact new
 ·rw [Yl hb] at q
  by_cases hbe:b=e
  ·have q':H b=some (.own x):=by
    rcases he with z | z
    ·exact absurd (hbe.trans z) hb
    ·rw [hbe];exact z
   rw [q] at q';cases q'
   obtain ⟨v,hv⟩:=heo
   exact ⟨v,by rw [hbe];exact hv⟩
  ·refine (ok b u q).stay (fun c v hc r=>k c v ?_ r) (fun c r=>by rw [Yl (nown c b r)];exact r) fun c xs r=>by rw [Yl (ntup c xs r)];exact r
   rcases hc with rfl | hc
   ·exact hbe
   ·rintro rfl
    rcases he with z | z
    ·exact nown c b hc z
    ·rw [hc] at z;cases z;exact hb rfl
end
structure Un (fs ex:List Addr) (H H':Hp) (h h':Heap):Prop where
 keep:∀ b o,h.get? b=some o→H b=none→b∉fs→b∉ex→h'.get? b=some o
 slot:∀ b o,h.get? b=some o→H b=none→b∈fs→b∉ex→∃ sl,h'.get? b=some { o with slots:=sl }
 free:∀ b o,h.get? b=some o→H b=none→b∉ex→H' b=none
 there:∀ b o,h.get? b=some o→b∉ex→∃ o',h'.get? b=some o'
 tups:∀ b xs,H b=some (.tup xs)→H' b=some (.tup xs)
 frzs:∀ b o u,H b=some (.frz o u)→H' b=some (.frz o u)
 tbls:∀ b ps,H b=some (.tbl ps)→∃ more,H' b=some (.tbl (ps++more))
section
variable {fs fs' ex ex':List Addr} {H H1 H2:Hp} {h h1 h2 h':Heap} {a x e:Addr} {o:HO}
theorem Un.any (u:Un fs ex H H1 h h1) {b:Addr} {ob:Obj} (q:h.get? b=some ob) (n:H b=none) (hx:b∉ex):∃ sl,h1.get? b=some { ob with slots:=sl }:=by
 by_cases hb:b∈fs
 ·exact u.slot b ob q n hb hx
 ·exact ⟨ob.slots,u.keep b ob q n hb hx⟩
theorem Un.trans (a:Un fs ex H H1 h h1) (b:Un fs ex H1 H2 h1 h2):Un fs ex H H2 h h2 where
 keep:=fun c ob q n hc hx=>b.keep c ob (a.keep c ob q n hc hx) (a.free c ob q n hx) hc hx
 slot:=fun c ob q n hc hx=>by
  obtain ⟨sl,e1⟩:=a.slot c ob q n hc hx
  obtain ⟨sl',e2⟩:=b.slot c _ e1 (a.free c ob q n hx) hc hx
  exact ⟨sl',e2⟩
 free:=fun c ob q n hx=>by
  obtain ⟨o',e1⟩:=a.there c ob q hx
  exact b.free c o' e1 (a.free c ob q n hx) hx
 there:=fun c ob q hx=>by
  obtain ⟨o',e1⟩:=a.there c ob q hx
  exact b.there c o' e1 hx
 tups:=fun c xs q=>b.tups c xs (a.tups c xs q)
 frzs:=fun c ob xs q=>b.frzs c ob xs (a.frzs c ob xs q)
 tbls:=fun c ps q=>by
  obtain ⟨m1,e1⟩:=a.tbls c ps q
  obtain ⟨m2,e2⟩:=b.tbls c _ e1
  exact ⟨m1++m2,by rw [e2,Array.append_assoc]⟩
theorem Un.kept (k:∀ b u,h.get? b=some u→h'.get? b=some u):Un fs ex H H h h' :=
 ⟨fun b ob q _ _ _=>k b ob q,fun b ob q _ _ _=>⟨ob.slots,k b ob q⟩,fun _ _ _ n _=>n,fun b ob q _=>⟨ob,k b ob q⟩,fun _ _ q=>q,fun _ _ _ q=>q,fun _ ps q=>⟨#[],by rw [q];simp⟩⟩
theorem Un.refl:Un fs ex H H h h:=Un.kept fun _ _ q=>q
theorem Un.laid (k:∀ b u,h.get? b=some u→h'.get? b=some u) (hp:h.objs.size≤a) (hn:H a=none):Un fs ex H (upd H a o) h h' where
 keep:=fun b u q _ _ _=>k b u q
 slot:=fun b u q _ _ _=>⟨u.slots,k b u q⟩
 free:=fun b u q n _=>by rw [Yl (Nat.ne_of_lt (Nat.lt_of_lt_of_le (Heap.lt_size q) hp))];exact n
 there:=fun b u q _=>⟨u,k b u q⟩
 tups:=fun b xs q=>by rw [Yl (Yq q hn)];exact q
 frzs:=fun b u xs q=>by rw [Yl (Yq q hn)];exact q
 tbls:=fun b ps q=>⟨#[],by rw [Yl (Yq q hn),q];simp⟩
theorem Un.write (mu:Mut (H x)) (he:e=x∨H e=some (.own x)) (k:∀ b u,b≠e→h.get? b=some u→h'.get? b=some u) (heo:∃ u,h'.get? e=some u):Un fs ex H (upd H x o) h h':=by
 have hx:∀ b,H b=none→b≠x:=fun b n z=>by subst z;rw [n] at mu;exact mu
 have hb:∀ b,H b=none→b≠e:=fun b n z=>by
  subst z
  rcases he with r | r
  ·exact hx b n r
  ·rw [n] at r;cases r
 have hm:∀ b u,H b=some u→¬ Mut (some u)→b≠x:=fun b u q nm z=>by subst z;rw [q] at mu;exact nm mu
 refine ⟨fun b u q n _ _=>k b u (hb b n) q,fun b u q n _ _=>⟨u.slots,k b u (hb b n) q⟩,fun b u q n _=>by rw [Yl (hx b n)];exact n,fun b u q _=>?_,
  fun b xs q=>by rw [Yl (hm b _ q fun z=>z)];exact q,fun b u xs q=>by rw [Yl (hm b _ q fun z=>z)];exact q,fun b ps q=>⟨#[],by rw [Yl (hm b _ q fun z=>z),q];simp⟩⟩
 by_cases hbe:b=e
 ·subst hbe;exact heo
 ·exact ⟨u,k b u hbe q⟩
end
def trk (h:Heap) (H:Hp):List Addr:=(List.range h.objs.size).filter fun a=>(H a).isSome
def X8 (h:Heap) (H:Hp):Heap:=PySem.W.hideAll h (trk h H)
theorem QF (h:Heap) (H:Hp):(X8 h H).objs.size=h.objs.size:=PySem.W.hideAll_size _ _
theorem Yay {h:Heap} {H:Hp} {b:Addr} {o:Obj} (e:h.get? b=some o) (n:H b=none):(X8 h H).get? b=some o :=
 PySem.W.hideAll_get _ e fun hm=>by
  have q:(H b).isSome=true:=(List.mem_filter.mp hm).2
  rw [n] at q;simp at q
theorem Ybq {h:Heap} {H:Hp} {b:Addr} {o:Obj} (e:(X8 h H).get? b=some o):h.get? b=some o∧H b=none:=by
 have e':h.get? b=some o:=PySem.W.of_hideAll (trk h H) e
 refine ⟨e',?_⟩
 cases q:H b with
 | none=>rfl
 | some x =>
  have hm:b∈trk h H:=List.mem_filter.mpr ⟨List.mem_range.mpr (Heap.lt_size e'),by simp [q]⟩
  have z:(X8 h H).get? b=none:=PySem.W.hideAll_none (trk h H) hm
  rw [z] at e;cases e
def Ybr (g h:Heap) (L:Addr):List (Addr×Obj):=(List.range h.objs.size).filterMap fun a=>if a=L∨(g.get? a).isSome=true then none else (h.get? a).map fun o=>(a,o)
def YU (g h:Heap) (L d:Addr):List (Addr×Obj):=(Ybr g h L).filter fun p=>decide (p.1≠d)
end L2
namespace L2
open PySem PySem.Spec PyProof.Rows
structure Mod (K:PySem.W.Frag) (mg:Str→Option Value) (base:Heap):Prop where
 kin:K.In base
 glob:base.Ns mainGlobals mg
 blt:∃ mb,base.Ns builtinsNs mb∧∀ x:Str,x≠"__name__"→mb x=bootBuiltins x
 nolimit:base.NoLimit
structure Cx where
 prog:Program
 w:World
 K:PySem.W.Frag
 mg:Str→Option Value
 base:Heap
 A:Around
 N:List Str
 s₀:Shared
 H₀:Hp
 env:Env
 outer:List Env
 stack:List Env
 ex:List Addr
 fn:Str→Bool
 calm:Bool
 pn:List (Addr×Obj)
 xe:Value→Shared→Prop
def frs (l:List Env):List Addr:=l.filterMap (·.frame)
abbrev Cx.fs (X:Cx):List Addr:=frs X.outer
def Vis (sc:Scope) (x:Str):Prop:=sc.names.lookup x=some .local∨sc.names.lookup x=some .cell∨sc.names.lookup x=some .free
def Loc (sc:Scope) (x:Str):Prop:=sc.names.lookup x=some .local∨sc.names.lookup x=some .cell
def Look (env:Env) (h:Heap) (m:Str→Option Value) (x:Str) (u:Value):Prop :=
 (env.kindOf x=some .local∧m x=some u)∨((env.kindOf x=some .cell∨env.kindOf x=some .free)∧∃ c,env.cells.lookup x=some c∧h.IsCell c (some u))
structure Cx.Ok (X:Cx):Prop where
 mod:Mod X.K X.mg X.base
 kind:X.env.scope.kind = .function
 glob:X.env.globals=mainGlobals
 blt:X.env.builtins=builtinsNs
 above:X.s₀.heap.objs.size≤X.env.locals
 inj:∀ x y c,X.env.cells.lookup x=some c→X.env.cells.lookup y=some c→x=y
 has:∀ x,(X.env.kindOf x=some .cell∨X.env.kindOf x=some .free)→∃ c,X.env.cells.lookup x=some c
 cab:∀ x c,X.fn x=true→X.env.cells.lookup x=some c→X.s₀.heap.objs.size≤c
 hd:X.calm=true→X.A.handled=none
 frames:X.A.frames=some X.stack
 stk:X.stack=X.outer∨(X.stack=X.env::X.outer∧X.env.frame=some X.env.locals)
 exf:∀ b∈X.ex,b≠X.env.locals∧∀ x c,X.env.cells.lookup x=some c→c≠b
 bs:∀ b o,X.base.get? b=some o→X.s₀.heap.get? b=some o∧X.H₀ b=none
 bsz:X.base.objs.size≤X.s₀.heap.objs.size
 noex:∀ b o,X.base.get? b=some o→b∉X.ex
 exfs:∀ b∈X.ex,b∉X.fs
 funs:X.s₀.heap.FunFrames X.base X.outer
 frf:∀ b∈X.fs,X.H₀ b=none
structure Inv (X:Cx) (pins:List (Addr×Obj)) (σ:List (Option V)) (H:Hp) (s:Shared):Prop where
 ok:X.Ok
 os:s.os=X.s₀.os
 bare:AllBare s.gens
 base:Un X.fs X.ex X.H₀ H X.s₀.heap s.heap
 loc:∃ m,s.heap.Ns X.env.locals m∧∀ (i:Nat) (x:Str) (v:V),X.N[i]?=some x→σ[i]?=some (some v)→Vis X.env.scope x→∃ u,Yo v u∧Look X.env s.heap m x u
 cell:∀ x c,X.env.cells.lookup x=some c→∃ v,s.heap.IsCell c v
 free:H X.env.locals=none
 freeC:∀ x c,X.env.cells.lookup x=some c→H c=none
 pin:∀ p∈X.pn++pins,s.heap.get? p.1=some p.2∧H p.1=none∧p.1≠X.env.locals∧p.1∉X.fs∧∀ v,p.2.data ≠ .cell v
 hok:HOk X.prog X.w H s.heap
 len:σ.length=X.N.length
section
variable {X:Cx} {pins:List (Addr×Obj)} {σ:List (Option V)} {H H':Hp} {s:Shared} {h':Heap}
theorem Cx.Ok.nofr (ok:X.Ok) {b:Addr} {o:Obj} (e:X.base.get? b=some o):b∉X.fs:=fun hb=>by
 have:=(ok.funs.mem hb).1
 rw [e] at this;cases this
theorem Inv.bs (I:Inv X pins σ H s):∀ b o,X.base.get? b=some o→s.heap.get? b=some o∧H b=none:=fun b o e =>
 ⟨I.base.keep b o (I.ok.bs b o e).1 (I.ok.bs b o e).2 (I.ok.nofr e) (I.ok.noex b o e),I.base.free b o (I.ok.bs b o e).1 (I.ok.bs b o e).2 (I.ok.noex b o e)⟩
theorem Inv.bk (I:Inv X pins σ H s):∀ b o,X.base.get? b=some o→s.heap.get? b=some o:=fun b o e=>(I.bs b o e).1
theorem Inv.mod (I:Inv X pins σ H s):Mod X.K X.mg X.base:=I.ok.mod
theorem Inv.kIn (I:Inv X pins σ H s):X.K.In s.heap:=I.ok.mod.kin.keeps I.bk
theorem Inv.lt (I:Inv X pins σ H s):X.env.locals<s.heap.objs.size:=let ⟨_,hn,_⟩:=I.loc;hn.lt
theorem Inv.sz (I:Inv X pins σ H s):X.s₀.heap.objs.size≤s.heap.objs.size:=Nat.le_trans I.ok.above (Nat.le_of_lt I.lt)
theorem Inv.nofs (I:Inv X pins σ H s) {a:Addr} (h:s.heap.objs.size≤a):a∉X.fs:=fun hb=>by
 obtain ⟨_,o,ho,_⟩:=I.ok.funs.mem hb
 exact absurd (Nat.lt_of_lt_of_le (Heap.lt_size ho) (Nat.le_trans I.sz h)) (Nat.lt_irrefl _)
theorem Inv.cne (I:Inv X pins σ H s):∀ x c,X.env.cells.lookup x=some c→c≠X.env.locals:=fun x c e z=>by
 obtain ⟨v,o,ho,hd⟩:=I.cell x c e
 obtain ⟨m,⟨o',es,ep,ho',hd',_⟩,_⟩:=I.loc
 rw [z,ho'] at ho;cases ho;rw [hd'] at hd;cases hd
theorem Inv.funs (I:Inv X pins σ H s):s.heap.FunFrames X.base X.outer:=by
 have all:∀ (l:List Env),(∀ b∈frs l,b∈X.fs)→X.s₀.heap.FunFrames X.base l→s.heap.FunFrames X.base l:=by
  intro l
  induction l with
  | nil=>intro _ _;trivial
  | cons env r ih =>
   intro hs hl
   obtain ⟨hk,⟨L,o,hf,hn,ho,hd⟩,hr⟩:=hl
   have hL:L∈X.fs:=hs L (by unfold frs;rw [List.filterMap_cons,hf];exact List.mem_cons_self)
   obtain ⟨sl,e⟩:=I.base.slot L o ho (I.ok.frf L hL) hL fun z=>I.ok.exfs L z hL
   exact ⟨hk,⟨L,_,hf,hn,e,hd⟩,ih (fun b hb=>hs b (by unfold frs;rw [List.filterMap_cons,hf];exact List.mem_cons_of_mem _ hb)) hr⟩
 exact all X.outer (fun _ hb=>hb) I.ok.funs
theorem Inv.stack (I:Inv X pins σ H s):s.heap.FunFrames X.base X.stack:=by
 rcases I.ok.stk with e | ⟨e,hf⟩
 ·rw [e];exact I.funs
 ·rw [e]
  obtain ⟨m,hn,_⟩:=I.loc
  refine .cons (by rw [I.ok.kind];decide) hf hn ?_ I.funs
  exact Heap.get?_none_of_le (Nat.le_trans I.ok.bsz I.ok.above)
theorem Inv.stkSub (I:Inv X pins σ H s):∀ b∈frs X.stack,b∈X.env.locals::X.fs:=fun b hb=>by
 rcases I.ok.stk with e | ⟨e,hf⟩
 ·rw [e] at hb;exact List.mem_cons_of_mem _ hb
 ·rw [e] at hb
  unfold frs at hb
  rw [List.filterMap_cons,hf] at hb
  exact hb
theorem Inv.stkFree (I:Inv X pins σ H s):∀ b∈frs X.stack,H b=none:=fun b hb=>by
 rcases List.mem_cons.mp (I.stkSub b hb) with e | hb
 ·rw [e];exact I.free
 ·obtain ⟨_,o,ho,_⟩:=I.ok.funs.mem hb
  exact I.base.free b o ho (I.ok.frf b hb) fun z=>I.ok.exfs b z hb
theorem Inv.step {g':Array GenState} {t':Nat} {d':Drawn} {ch:List Addr} (I:Inv X pins σ H s)
  (hch:∀ b∈ch,(b∈X.ex∨X.s₀.heap.objs.size≤b)∧b≠X.env.locals∧(∀ x c,X.env.cells.lookup x=some c→c≠b)∧∀ p∈X.pn++pins,p.1≠b)
  (keep:∀ b o,b≠X.env.locals→b∉X.fs→b∉ch→s.heap.get? b=some o→H b=none→h'.get? b=some o)
  (slot:∀ b o,b≠X.env.locals→b∈X.fs→b∉ch→s.heap.get? b=some o→H b=none→∃ sl,h'.get? b=some { o with slots:=sl }) (free:∀ b o,b∉ch→s.heap.get? b=some o→H b=none→H' b=none)
  (there:∀ b o,b∉ch→s.heap.get? b=some o→∃ o',h'.get? b=some o')
  (tups:∀ b xs,H b=some (.tup xs)→H' b=some (.tup xs)) (frzs:∀ b o u,H b=some (.frz o u)→H' b=some (.frz o u)) (tbls:∀ b ps,H b=some (.tbl ps)→∃ more,H' b=some (.tbl (ps++more)))
  (ns:∀ m,s.heap.Ns X.env.locals m→h'.Ns X.env.locals m) (hok:HOk X.prog X.w H' h') (hg:AllBare g') :
  Inv X pins σ H' { s with heap:=h',gens:=g',drawn:=d',toks:=t' }:=by
 have neL:∀ b o,X.s₀.heap.get? b=some o→b≠X.env.locals:=fun b o e=>Nat.ne_of_lt (Nat.lt_of_lt_of_le (Heap.lt_size e) I.ok.above)
 have neC:∀ b o,X.s₀.heap.get? b=some o→b∉X.ex→b∉ch:=fun b o e hx hb=>by
  rcases (hch b hb).1 with z | z
  ·exact hx z
  ·exact absurd (Nat.lt_of_lt_of_le (Heap.lt_size e) z) (Nat.lt_irrefl _)
 have cellK:∀ x c,X.env.cells.lookup x=some c→∀ v,s.heap.IsCell c v→h'.IsCell c v:=fun x c e v ⟨o,ho,hd⟩=>by
  have nch:c∉ch:=fun z=>(hch c z).2.2.1 x c e rfl
  by_cases hc:c∈X.fs
  ·obtain ⟨sl,q⟩:=slot c o (I.cne x c e) hc nch ho (I.freeC x c e)
   exact ⟨_,q,hd⟩
  ·exact ⟨o,keep c o (I.cne x c e) hc nch ho (I.freeC x c e),hd⟩
 refine ⟨I.ok,I.os,hg,⟨fun b o e n hb hx=>?_,fun b o e n hb hx=>?_,fun b o e n hx=>?_,fun b o e hx=>?_,fun b xs e=>tups b xs (I.base.tups b xs e),fun b o xs e=>frzs b o xs (I.base.frzs b o xs e),fun b ps e=>?_⟩,?_,fun x c e=>?_,?_,fun x c e=>?_,fun p hp=>?_,hok,I.len⟩
 ·exact keep b o (neL b o e) hb (neC b o e hx) (I.base.keep b o e n hb hx) (I.base.free b o e n hx)
 ·obtain ⟨sl,e1⟩:=I.base.slot b o e n hb hx
  obtain ⟨sl',e2⟩:=slot b _ (neL b o e) hb (neC b o e hx) e1 (I.base.free b o e n hx)
  exact ⟨sl',e2⟩
 ·obtain ⟨o',e1⟩:=I.base.there b o e hx
  exact free b o' (neC b o e hx) e1 (I.base.free b o e n hx)
 ·obtain ⟨o',e1⟩:=I.base.there b o e hx
  exact there b o' (neC b o e hx) e1
 ·obtain ⟨m1,e1⟩:=I.base.tbls b ps e
  obtain ⟨m2,e2⟩:=tbls b _ e1
  exact ⟨m1++m2,by rw [e2,Array.append_assoc]⟩
 ·obtain ⟨m,hn,hl⟩:=I.loc
  refine ⟨m,ns m hn,fun i x v e1 e2 e3=>?_⟩
  obtain ⟨u,r,l⟩:=hl i x v e1 e2 e3
  refine ⟨u,r,?_⟩
  rcases l with l | ⟨k,c,e,z⟩
  ·exact .inl l
  ·exact .inr ⟨k,c,e,cellK x c e _ z⟩
 ·obtain ⟨v,z⟩:=I.cell x c e
  exact ⟨v,cellK x c e v z⟩
 ·obtain ⟨m,⟨o,_,_,ho,_⟩,_⟩:=I.loc
  exact free _ o (fun z=>(hch _ z).2.1 rfl) ho I.free
 ·obtain ⟨v,o,ho,hd⟩:=I.cell x c e
  exact free c o (fun z=>(hch c z).2.2.1 x c e rfl) ho (I.freeC x c e)
 ·obtain ⟨e,n,ne,nf,d⟩:=I.pin p hp
  have nch:p.1∉ch:=fun z=>(hch p.1 z).2.2.2 p hp rfl
  exact ⟨keep p.1 p.2 ne nf nch e n,free p.1 p.2 nch e n,ne,nf,d⟩
theorem Inv.un {t':Nat} (I:Inv X pins σ H s) (u:Un X.fs [] H H' s.heap h') (hok:HOk X.prog X.w H' h'):Inv X pins σ H' { s with heap:=h',toks:=t' }:=by
 obtain ⟨m,⟨o,es,ep,ho,r⟩,_⟩:=id I.loc
 obtain ⟨sl,hL⟩:=u.any ho I.free (by simp)
 exact I.step (g':=s.gens) (d':=s.drawn) (ch:=[]) (fun _ z=>nomatch z) (fun b o _ hb _ e n=>u.keep b o e n hb (by simp)) (fun b o _ hb _ e n=>u.slot b o e n hb (by simp)) (fun b o _ e n=>u.free b o e n (by simp)) (fun b o _ e=>u.there b o e (by simp)) u.tups u.frzs u.tbls (fun m' hm=>by
  obtain ⟨o',es',ep',ho',r'⟩:=hm
  rw [ho] at ho';cases ho'
  exact ⟨_,es',ep',hL,r'⟩) hok I.bare
theorem Inv.call {g':Array GenState} {t':Nat} {d':Drawn} {ch:List Addr} (I:Inv X pins σ H s) (u:Un (frs X.stack) ch H H' s.heap h') (hok:HOk X.prog X.w H' h') (hg:AllBare g')
  (hch:∀ b∈ch,(b∈X.ex∨X.s₀.heap.objs.size≤b)∧b≠X.env.locals∧(∀ x c,X.env.cells.lookup x=some c→c≠b)∧∀ p∈X.pn++pins,p.1≠b) :
  Inv X pins σ H' { s with heap:=h',gens:=g',drawn:=d',toks:=t' }:=by
 obtain ⟨m,⟨o,es,ep,ho,r⟩,_⟩:=id I.loc
 obtain ⟨sl,hL⟩:=u.any ho I.free fun z=>(hch _ z).2.1 rfl
 exact I.step (ch:=ch) hch (fun b o hL hb hc e n=>u.keep b o e n (fun z=>(List.mem_cons.mp (I.stkSub b z)).elim hL hb) hc) (fun b o _ _ hc e n=>u.any e n hc) (fun b o hc e n=>u.free b o e n hc) (fun b o hc e=>u.there b o e hc) u.tups u.frzs u.tbls (fun m' hm=>by
  obtain ⟨o',es',ep',ho',r'⟩:=hm
  rw [ho] at ho';cases ho'
  exact ⟨_,es',ep',hL,r'⟩) hok hg
theorem Inv.turned {t':Nat} {it:Addr} (I:Inv X pins σ H s) (k:∀ b o,b≠it→s.heap.get? b=some o→h'.get? b=some o) (hn:H it=none) (hL:it≠X.env.locals)
  (h1:it∈X.ex∨X.s₀.heap.objs.size≤it) (h2:∀ x c,X.env.cells.lookup x=some c→c≠it) (h3:∀ p∈X.pn++pins,p.1≠it):Inv X pins σ H { s with heap:=h',toks:=t' }:=by
 have nit:∀ b u,H b=some u→b≠it:=fun b u e z=>by rw [z,hn] at e;cases e
 refine I.step (g':=s.gens) (d':=s.drawn) (ch:=[it]) (fun b hb=>?_) (fun b o _ _ hc e _=>k b o (fun z=>hc (by simp [z])) e) (fun b o _ _ hc e _=>⟨o.slots,k b o (fun z=>hc (by simp [z])) e⟩) (fun _ _ _ _ n=>n)
  (fun b o hc e=>⟨o,k b o (fun z=>hc (by simp [z])) e⟩) (fun _ _ e=>e) (fun _ _ _ e=>e) (fun b ps e=>⟨#[],by rw [e];simp⟩) (fun m hm=>?_) (fun b u e=>?_) I.bare
 ·have e:b=it:=by simpa using hb
  subst e
  exact ⟨h1,hL,h2,h3⟩
 ·obtain ⟨o,es,ep,ho,r⟩:=hm
  exact ⟨o,es,ep,k _ o (Ne.symm hL) ho,r⟩
 ·refine (I.hok b u e).stay (fun c v hc q=>k c v ?_ q) (fun _ q=>q) fun _ _ q=>q
  rcases hc with z | z
  ·rw [z];exact nit b u e
  ·exact nit c _ z
theorem Inv.tok (I:Inv X pins σ H s) (t:Nat):Inv X pins σ H { s with toks:=t }:=I.un (h':=s.heap) (t':=t) Un.refl I.hok
theorem Inv.kept {t':Nat} (I:Inv X pins σ H s) (k:∀ b u,s.heap.get? b=some u→h'.get? b=some u):Inv X pins σ H { s with heap:=h',toks:=t' }:=I.un (Un.kept k) (I.hok.kept k)
theorem Inv.laid {a:Addr} {o:HO} {t':Nat} (I:Inv X pins σ H s) (k:∀ b u,s.heap.get? b=some u→h'.get? b=some u) (hp:s.heap.objs.size≤a) (new:YD X.prog X.w (upd H a o) h' a o) :
  Inv X pins σ (upd H a o) { s with heap:=h',toks:=t' }:=I.un (Un.laid k hp (I.hok.fresh hp)) (I.hok.laid k hp new)
theorem Inv.write {x e:Addr} {o:HO} {t':Nat} (I:Inv X pins σ H s) (mu:Mut (H x)) (he:e=x∨H e=some (.own x)) (k:∀ b u,b≠e→s.heap.get? b=some u→h'.get? b=some u) (heo:∃ u,h'.get? e=some u)
  (new:YD X.prog X.w (upd H x o) h' x o):Inv X pins σ (upd H x o) { s with heap:=h',toks:=t' }:=I.un (Un.write mu he k heo) (I.hok.write mu he k heo new)
theorem Inv.pins_of {pins':List (Addr×Obj)} (I:Inv X pins σ H s) (h:∀ p∈pins',s.heap.get? p.1=some p.2∧H p.1=none∧p.1≠X.env.locals∧p.1∉X.fs∧∀ v,p.2.data ≠ .cell v):Inv X pins' σ H s :=
 ⟨I.ok,I.os,I.bare,I.base,I.loc,I.cell,I.free,I.freeC,fun p hp=>(List.mem_append.mp hp).elim (fun z=>I.pin p (List.mem_append_left _ z)) (h p),I.hok,I.len⟩
theorem WK {N:List Str} (hN:N.Nodup) {i j:Nat} {x:Str} (a:N[i]?=some x) (b:N[j]?=some x):i=j:=by
 obtain ⟨h1,e1⟩:=List.getElem?_eq_some_iff.mp a
 obtain ⟨h2,e2⟩:=List.getElem?_eq_some_iff.mp b
 exact (List.getElem_inj hN).mp (e1.trans e2.symm)
theorem QG {M:Model} {A:Around} {E:Value→Shared→Prop} {i:Nat} {x:Str} {v:V} {u:Value} {Q:Unit→Shared→Prop} (I:Inv X pins σ H s) (hN:X.N.Nodup) (hi:X.N[i]?=some x) (hx:Loc X.env.scope x) (r:Yo v u)
  (h:∀ s',Inv X pins (σ.set i (some v)) H s'→(∃ a,Heap.SameBut a s.heap s'.heap∧(a=X.env.locals∨X.env.cells.lookup x=some a))→Q () s') (hf:X.fn x=true∨X.env.scope.names.lookup x=some .local:=by first | exact .inl rfl | exact .inr rfl | assumption):wpAny M A (storeName X.env x u) Q E s:=by
 obtain ⟨m,hn,hl⟩:=id I.loc
 have hcls:(X.env.scope.kind == .class||(X.env.scope.kind == .module&&X.env.locals != X.env.globals))=false:=by rw [I.ok.kind];rfl
 have hiσ:i<σ.length:=by rw [I.len];exact (List.getElem?_eq_some_iff.mp hi).1
 have cne:=I.cne
 have tracked:∀ {a:Addr} {h':Heap},(∃ o,s.heap.get? a=some o∧H a=none)→Heap.SameBut a s.heap h'→HOk X.prog X.w H h':=fun {a h'} ha hs b ob e=>by
  obtain ⟨_,_,hfree⟩:=ha
  refine (I.hok b ob e).stay (fun c w' hc q=>(hs.2 c ?_).trans q) (fun _ q=>q) fun _ _ q=>q
  rintro rfl
  rcases hc with rfl | hc
  ·rw [hfree] at e;cases e
  ·rw [hfree] at hc;cases hc
 rcases hx with hk | hk
 ·refine wpAny_storeName_local hk hn (fun h' hn' hs=>?_) hcls
  obtain ⟨oL,_,_,hoL,_⟩:=id hn
  refine h _ ⟨I.ok,I.os,I.bare,⟨fun b o e n hb hx=>?_,fun b o e n hb hx=>?_,I.base.free,fun b o e hx=>?_,I.base.tups,I.base.frzs,I.base.tbls⟩,⟨_,hn',fun j y v' e1 e2 e3=>?_⟩,fun y c e=>?_,I.free,I.freeC,fun p hp=>?_,tracked ⟨oL,hoL,I.free⟩ hs,by simpa using I.len⟩ ⟨_,hs,.inl rfl⟩
  ·exact (hs.2 b (Nat.ne_of_lt (Nat.lt_of_lt_of_le (Heap.lt_size e) I.ok.above))).trans (I.base.keep b o e n hb hx)
  ·obtain ⟨sl,e1⟩:=I.base.slot b o e n hb hx
   exact ⟨sl,(hs.2 b (Nat.ne_of_lt (Nat.lt_of_lt_of_le (Heap.lt_size e) I.ok.above))).trans e1⟩
  ·obtain ⟨o',e1⟩:=I.base.there b o e hx
   exact ⟨o',(hs.2 b (Nat.ne_of_lt (Nat.lt_of_lt_of_le (Heap.lt_size e) I.ok.above))).trans e1⟩
  ·by_cases hj:j=i
   ·subst hj
    rw [hi] at e1;cases e1
    rw [List.getElem?_set_self hiσ] at e2
    cases e2
    exact ⟨u,r,.inl ⟨hk,by simp⟩⟩
   ·rw [List.getElem?_set_ne (Ne.symm hj)] at e2
    obtain ⟨u',r',q⟩:=hl j y v' e1 e2 e3
    refine ⟨u',r',?_⟩
    rcases q with ⟨k,e⟩ | ⟨k,c,e,z⟩
    ·refine .inl ⟨k,?_⟩
     have:y≠x:=fun e=>hj (WK hN e1 (e▸hi))
     simp [this,e]
    ·exact .inr ⟨k,c,e,z.sameBut hs (cne y c e)⟩
  ·obtain ⟨w',z⟩:=I.cell y c e
   exact ⟨w',z.sameBut hs (cne y c e)⟩
  ·obtain ⟨e,n,ne,nf,d⟩:=I.pin p hp
   exact ⟨(hs.2 p.1 ne).trans e,n,ne,nf,d⟩
 ·have hfn:X.fn x=true:=by
   rcases hf with z | z
   ·exact z
   ·rw [z] at hk;cases hk
  obtain ⟨c,hc⟩:=I.ok.has x (.inl hk)
  obtain ⟨w',z⟩:=I.cell x c hc
  refine wpAny_storeName_cell I.ok.kind hk hc z (fun h' hc' hs=>?_)
  obtain ⟨oc,hoc,hocd⟩:=id z
  refine h { s with heap:=h' } ⟨I.ok,I.os,I.bare,⟨fun b o e n hb hx=>?_,fun b o e n hb hx=>?_,I.base.free,fun b o e hx=>?_,I.base.tups,I.base.frzs,I.base.tbls⟩,⟨m,hn.sameBut hs (Ne.symm (cne x c hc)),fun j y v' e1 e2 e3=>?_⟩,fun y c' e=>?_,I.free,I.freeC,fun p hp=>?_,tracked ⟨oc,hoc,I.freeC x c hc⟩ hs,by simpa using I.len⟩ ⟨c,hs,.inr hc⟩
  ·exact (hs.2 b (Nat.ne_of_lt (Nat.lt_of_lt_of_le (Heap.lt_size e) (I.ok.cab x c hfn hc)))).trans (I.base.keep b o e n hb hx)
  ·obtain ⟨sl,e1⟩:=I.base.slot b o e n hb hx
   exact ⟨sl,(hs.2 b (Nat.ne_of_lt (Nat.lt_of_lt_of_le (Heap.lt_size e) (I.ok.cab x c hfn hc)))).trans e1⟩
  ·obtain ⟨o',e1⟩:=I.base.there b o e hx
   exact ⟨o',(hs.2 b (Nat.ne_of_lt (Nat.lt_of_lt_of_le (Heap.lt_size e) (I.ok.cab x c hfn hc)))).trans e1⟩
  ·by_cases hj:j=i
   ·subst hj
    rw [hi] at e1;cases e1
    rw [List.getElem?_set_self hiσ] at e2
    cases e2
    exact ⟨u,r,.inr ⟨.inl hk,c,hc,hc'⟩⟩
   ·rw [List.getElem?_set_ne (Ne.symm hj)] at e2
    obtain ⟨u',r',q⟩:=hl j y v' e1 e2 e3
    refine ⟨u',r',?_⟩
    rcases q with q | ⟨k,c',e,z'⟩
    ·exact .inl q
    ·refine .inr ⟨k,c',e,z'.sameBut hs ?_⟩
     rintro rfl
     exact hj (WK hN e1 (I.ok.inj _ _ _ e hc▸hi))
  ·by_cases hcc:c'=c
   ·subst hcc;exact ⟨_,hc'⟩
   ·obtain ⟨w2,z2⟩:=I.cell y c' e
    exact ⟨w2,z2.sameBut hs hcc⟩
  ·obtain ⟨e,n,ne,nf,d⟩:=I.pin p hp
   refine ⟨(hs.2 p.1 ?_).trans e,n,ne,nf,d⟩
   intro q
   rw [q,hoc] at e
   have q':oc=p.2:=Option.some.inj e
   exact d w' (by rw [← q'];exact hocd)
theorem XL {M:Model} {A:Around} {E:Value→Shared→Prop} {i:Nat} {x:Str} {v:V} {u:Value} {Q:Unit→Shared→Prop} (I:Inv X pins σ H s) (hN:X.N.Nodup) (hi:X.N[i]?=some x) (hx:Loc X.env.scope x) (r:Yo v u)
  (h:∀ s',Inv X pins (σ.set i (some v)) H s'→Q () s') (hf:X.fn x=true∨X.env.scope.names.lookup x=some .local:=by first | exact .inl rfl | exact .inr rfl | assumption):wpAny M A (storeName X.env x u) Q E s :=
 QG I hN hi hx r (fun s' I' _=>h s' I') hf
theorem Inv.call' {s':Shared} {ch:List Addr} (I:Inv X pins σ H s) (ho:s'.os=s.os) (u:Un (frs X.stack) ch H H' s.heap s'.heap) (hok:HOk X.prog X.w H' s'.heap) (hg:AllBare s'.gens)
  (hch:∀ b∈ch,(b∈X.ex∨X.s₀.heap.objs.size≤b)∧b≠X.env.locals∧(∀ x c,X.env.cells.lookup x=some c→c≠b)∧∀ p∈X.pn++pins,p.1≠b):Inv X pins σ H' s':=by
 obtain ⟨h',g',d',t',o'⟩:=s'
 have e:o'=s.os:=ho
 subst e
 exact I.call (g':=g') (t':=t') (d':=d') u hok hg hch
end
abbrev XK:=Value→Option Addr→Hp→Prop
abbrev St:=List (Option V)
abbrev VK:=V→Hp→Prop
abbrev TE:=St→Hp→VK→Prop
abbrev TT:=St→Hp→(Bool→Hp→Prop)→Prop
abbrev TA:=St→Hp→(List V→Hp→Prop)→Prop
structure Ends where
 nx:St→Hp→Prop
 rt:VK
 bk:St→Hp→Prop:=fun _ _=>False
 ct:St→Hp→Prop:=fun _ _=>False
abbrev TS:=Ends→St→Hp→Prop
def EP (X:Cx) (pins:List (Addr×Obj)) (σ:St) (Q:VK) (u:Value) (s':Shared):Prop:=∃ v H',Inv X pins σ H' s'∧Yo v u∧Q v H'
def TP (X:Cx) (pins:List (Addr×Obj)) (σ:St) (Q:Bool→Hp→Prop) (b:Bool) (s':Shared):Prop:=∃ H',Inv X pins σ H' s'∧Q b H'
def AP (X:Cx) (pins:List (Addr×Obj)) (σ:St) (Q:List V→Hp→Prop) (us:List Value) (s':Shared):Prop:=∃ vs H',Inv X pins σ H' s'∧Yi vs us∧Q vs H'
def SP (X:Cx) (pins:List (Addr×Obj)) (D:Ends) (f:Flow) (s':Shared):Prop :=
 match f with
 | .next=>∃ σ' H',Inv X pins σ' H' s'∧D.nx σ' H'
 | .brk=>∃ σ' H',Inv X pins σ' H' s'∧D.bk σ' H'
 | .cont=>∃ σ' H',Inv X pins σ' H' s'∧D.ct σ' H'
 | .ret u=>∃ v σ' H',Inv X pins σ' H' s'∧Yo v u∧D.rt v H'
def PE (X:Cx) (e:Expr) (t:TE):Prop :=
 ∀ (pins:List (Addr×Obj)) (s:Shared) (σ:St) (H:Hp) (Q:VK),Inv X pins σ H s→t σ H Q→wpAny (model X.prog X.w) X.A (eval e X.env) (EP X pins σ Q) X.xe s
def PT (X:Cx) (e:Expr) (t:TT):Prop :=
 ∀ (pins:List (Addr×Obj)) (s:Shared) (σ:St) (H:Hp) (Q:Bool→Hp→Prop),Inv X pins σ H s→t σ H Q→wpAny (model X.prog X.w) X.A (isTrue e X.env (eval e X.env)) (TP X pins σ Q) X.xe s
def PW (X:Cx) (e:Expr) (t:TT):Prop :=
 ∀ (whole:Sem Value) (pins:List (Addr×Obj)) (s:Shared) (σ:St) (H:Hp) (Q:Bool→Hp→Prop),Inv X pins σ H s→t σ H Q→wpAny (model X.prog X.w) X.A (isTrue e X.env whole) (TP X pins σ Q) X.xe s
theorem PW.pt {X:Cx} {e:Expr} {t:TT} (h:PW X e t):PT X e t:=h _
def PA (X:Cx) (es:List Expr) (t:TA):Prop :=
 ∀ (pos:Pos) (pins:List (Addr×Obj)) (s:Shared) (σ:St) (H:Hp) (Q:List V→Hp→Prop),Inv X pins σ H s→t σ H Q→wpAny (model X.prog X.w) X.A (spliced (backTo pos (starEach es X.env))) (AP X pins σ Q) X.xe s
def PS (X:Cx) (st:Stmt) (t:TS):Prop :=
 ∀ (pins:List (Addr×Obj)) (s:Shared) (σ:St) (H:Hp) (D:Ends),Inv X pins σ H s→t D σ H→wpAny (model X.prog X.w) X.A (exec st X.env) (SP X pins D) X.xe s
def PSs (X:Cx) (st:List Stmt) (t:TS):Prop :=
 ∀ (pins:List (Addr×Obj)) (s:Shared) (σ:St) (H:Hp) (D:Ends),Inv X pins σ H s→t D σ H→wpAny (model X.prog X.w) X.A (execs st X.env) (SP X pins D) X.xe s
theorem thn {α:Type} {t:Sem α} {Q Q':α→Shared→Prop} {M:Model} {A:Around} {E:Value→Shared→Prop} {s:Shared} (h:wpAny M A t Q E s) (hQ:∀ a s,Q a s→Q' a s):wpAny M A t Q' E s:=wpAny_mono h hQ fun _ _ x=>x
end L2
namespace L2
open PySem PySem.Spec PyProof.Rows
section
variable {X:Cx}
def tVar (i:Nat):TE:=fun σ H Q=>∃ v,σ[i]?=some (some v)∧Q v H
def tC (v:V):TE:=fun _ H Q=>Q v H
theorem Ycn {i:Nat} {x:Str} {pos:Pos} (hN:X.N[i]?=some x) (hv:Vis X.env.scope x) (hd:(x==("__debug__":Str))=false:=by decide) (hcd:(x==("__classdict__":Str))=false:=by decide):PE X (.Name x pos) (tVar i):=by
 intro pins s σ H Q I h
 obtain ⟨v,e,h⟩:=h
 obtain ⟨m,hn,hl⟩:=I.loc
 obtain ⟨u,r,l⟩:=hl i x v hN e hv
 have fin:EP X pins σ Q u s:=⟨v,H,I,r,h⟩
 rcases l with ⟨hk,hm⟩ | ⟨hk,c,hc,hcell⟩
 ·exact wpAny_Name (wpAny_loadName_local I.ok.kind hk hn hm fin) hd
 ·rcases hk with hk | hk
  ·exact wpAny_Name (wpAny_loadName_cell I.ok.kind hk hc hcell fin) hd
  ·exact wpAny_Name (wpAny_loadName_free I.ok.kind hk hc hcell fin hcd) hd
theorem Yh {i j pos}:PE X (.Constant (.int i) j pos) (tC (.int i)):=fun _ _ _ H _ I h=>wpAny_Constant_int ⟨.int i,H,I.tok _,⟨_,rfl⟩,h⟩
theorem WW {b j pos}:PE X (.Constant (.bool b) j pos) (tC (.bl b)):=fun _ _ _ H _ I h=>Constant_bool ⟨.bl b,H,I,rfl,h⟩
theorem XM {j pos}:PE X (.Constant .none j pos) (tC .non):=fun _ _ _ H _ I h=>Constant_none ⟨.non,H,I,rfl,h⟩
theorem Yb {x j pos}:PE X (.Constant (.str x) j pos) (tC (.str x)):=fun _ _ _ H _ I h=>Calls.Constant_str ⟨.str x,H,I.tok _,⟨_,rfl⟩,h⟩
def Gl (X:Cx) (x:Str):Prop:=X.env.kindOf x=some .globalImplicit
theorem XF {E:Value→Shared→Prop} {pins:List (Addr×Obj)} {s:Shared} {σ:St} {H:Hp} {x:Str} {u:Value} {pos:Pos} {Q:Value→Shared→Prop} (I:Inv X pins σ H s) (hg:Gl X x) (hm:X.mg x=some u) (h:Q u s)
  (hd:(x==("__debug__":Str))=false:=by decide):wpAny (model X.prog X.w) X.A (eval (.Name x pos) X.env) Q E s :=
 Calls.Name_function_global I.ok.kind hg (Calls.loadGlobal_global (by rw [I.ok.glob];exact I.mod.glob.keeps I.bk) hm h) hd
theorem WX {E:Value→Shared→Prop} {pins:List (Addr×Obj)} {s:Shared} {σ:St} {H:Hp} {x:Str} {u:Value} {pos:Pos} {Q:Value→Shared→Prop} (I:Inv X pins σ H s) (hg:Gl X x) (hm:X.mg x=none) (hv:bootBuiltins x=some u) (h:Q u s)
  (hn:x≠"__name__":=by decide) (hd:(x==("__debug__":Str))=false:=by decide):wpAny (model X.prog X.w) X.A (eval (.Name x pos) X.env) Q E s:=by
 obtain ⟨mb,h1,h2⟩:=I.mod.blt
 exact Calls.Name_function_global I.ok.kind hg (Calls.loadGlobal_builtin (by rw [I.ok.glob];exact I.mod.glob.keeps I.bk) hm (by rw [I.ok.blt];exact h1.keeps I.bk) ((h2 x hn).trans hv) h) hd
theorem Vi {x:Str} {v:V} {u:Value} {pos:Pos} (hg:Gl X x) (hm:X.mg x=some u) (r:Yo v u) (hd:(x==("__debug__":Str))=false:=by decide):PE X (.Name x pos) (tC v) :=
 fun _ _ _ H _ I h=>XF I hg hm ⟨v,H,I,r,h⟩ hd
theorem Ybs {x:Str} {v:V} {u:Value} {pos:Pos} (hg:Gl X x) (hm:X.mg x=none) (hv:bootBuiltins x=some u) (r:Yo v u) (hn:x≠"__name__":=by decide) (hd:(x==("__debug__":Str))=false:=by decide):PE X (.Name x pos) (tC v) :=
 fun _ _ _ H _ I h=>WX I hg hm hv ⟨v,H,I,r,h⟩ hn hd
variable {a b:Expr} {ta tb:TE} {pos:Pos}
def tB (t:TE):TT:=fun σ H Q=>t σ H fun x H1=>∃ c,x = .bl c∧Q c H1
theorem Y1 {e:Expr} {t:TE} (h:PE X e t) (he:∀ whole,isTrue e X.env whole=(do let v ← whole;standAt e.pos;holding [v] (truthy v)):=by intro _;rfl):PT X e (tB t):=by
 intro pins s σ H Q I hw
 refine isTrue_plain (thn (h pins s σ H _ I hw) fun v s1 ⟨x,H1,I1,r1,q1⟩=>?_) (he _)
 obtain ⟨d,rfl,q⟩:=q1
 cases r1
 exact wpAny_truthy_bool ⟨H1,I1,q⟩
variable {tA tB':TT} {YU:List Expr}
def tAnd (t u:TT):TT:=fun σ H Q=>t σ H fun c H1=>if c=true then u σ H1 Q else Q false H1
def tOr (t u:TT):TT:=fun σ H Q=>t σ H fun c H1=>if c=true then Q true H1 else u σ H1 Q
def tNot (t:TT):TT:=fun σ H Q=>t σ H fun c H1=>Q (!c) H1
theorem Ybt (ha:PT X a tA):PW X (.BoolOp .And [a] pos) tA:=by
 intro wh pins s σ H Q I h
 refine isTrue_and (thn (ha pins s σ H Q I h) fun c s1 e=>?_)
 cases c with
 | true=>exact isTrue_and_nil e
 | false=>exact e
theorem VT (ha:PT X a tA):PW X (.BoolOp .Or [a] pos) tA:=by
 intro wh pins s σ H Q I h
 refine isTrue_or (thn (ha pins s σ H Q I h) fun c s1 e=>?_)
 cases c with
 | false=>exact isTrue_or_nil e
 | true=>exact e
theorem Yco (ha:PT X a tA) (hb:PW X (.BoolOp .And (b::YU) pos) tB'):PW X (.BoolOp .And (a::b::YU) pos) (tAnd tA tB'):=by
 intro wh pins s σ H Q I h
 refine isTrue_and (thn (ha pins s σ H _ I h) fun c s1 ⟨H1,I1,q1⟩=>?_)
 cases c with
 | true=>exact hb wh pins s1 σ H1 Q I1 q1
 | false=>exact ⟨H1,I1,q1⟩
theorem U5 (ha:PT X a tA) (hb:PW X (.BoolOp .Or (b::YU) pos) tB'):PW X (.BoolOp .Or (a::b::YU) pos) (tOr tA tB'):=by
 intro wh pins s σ H Q I h
 refine isTrue_or (thn (ha pins s σ H _ I h) fun c s1 ⟨H1,I1,q1⟩=>?_)
 cases c with
 | true=>exact ⟨H1,I1,q1⟩
 | false=>exact hb wh pins s1 σ H1 Q I1 q1
theorem Xh (ha:PT X a tA):PT X (.UnaryOp .Not a pos) (tNot tA):=by
 intro pins s σ H Q I h
 exact isTrue_not (ha pins s σ H (fun c H1=>Q (!c) H1) I h)
def YaU (ta tb:TE):TE:=fun σ H Q=>ta σ H fun x H1=>∃ c,x = .bl c∧if c=true then tb σ H1 Q else Q (.bl false) H1
def tOrV (ta tb:TE):TE:=fun σ H Q=>ta σ H fun x H1=>∃ c,x = .bl c∧if c=true then Q (.bl true) H1 else tb σ H1 Q
def tNotV (ta:TE):TE:=fun σ H Q=>ta σ H fun x H1=>∃ c,x = .bl c∧Q (.bl (!c)) H1
theorem Wl {op} {t:TE} (h:PE X a t):PE X (.BoolOp op [a] pos) t:=fun pins s σ H Q I hw=>BoolOp_one (h pins s σ H Q I hw)
theorem VU (ha:PE X a ta) (hb:PE X (.BoolOp .And (b::YU) pos) tb):PE X (.BoolOp .And (a::b::YU) pos) (YaU ta tb):=by
 intro pins s σ H Q I h
 refine BoolOp_and (thn (ha pins s σ H _ I h) fun v s1 ⟨x,H1,I1,r1,q1⟩=>?_)
 obtain ⟨c,rfl,q1⟩:=q1
 cases r1
 refine wpAny_truthy_bool ?_
 cases c with
 | true=>exact hb pins s1 σ H1 Q I1 q1
 | false=>exact ⟨.bl false,H1,I1,rfl,q1⟩
theorem U6 (ha:PE X a ta) (hb:PE X (.BoolOp .Or (b::YU) pos) tb):PE X (.BoolOp .Or (a::b::YU) pos) (tOrV ta tb):=by
 intro pins s σ H Q I h
 refine BoolOp_or (thn (ha pins s σ H _ I h) fun v s1 ⟨x,H1,I1,r1,q1⟩=>?_)
 obtain ⟨c,rfl,q1⟩:=q1
 cases r1
 refine wpAny_truthy_bool ?_
 cases c with
 | false=>exact hb pins s1 σ H1 Q I1 q1
 | true=>exact ⟨.bl true,H1,I1,rfl,q1⟩
def tIf (t:TT) (ta tb:TE):TE:=fun σ H Q=>t σ H fun c H1=>if c=true then ta σ H1 Q else tb σ H1 Q
theorem Yaz {c:Expr} (hc:PT X c tA) (ha:PE X a ta) (hb:PE X b tb):PE X (.IfExp c a b pos) (tIf tA ta tb):=by
 intro pins s σ H Q I h
 refine wpAny_IfExp (thn (hc pins s σ H _ I h) fun d s1 ⟨H1,I1,q1⟩=>?_)
 cases d with
 | true=>exact ha pins s1 σ H1 Q I1 q1
 | false=>exact hb pins s1 σ H1 Q I1 q1
end
end L2
namespace L2
open PySem PySem.Spec PyProof.Rows
def SqL (K:PySem.W.Frag) (H:Hp) (a:Addr) (xs:List V):Prop :=
 Rd H a (.lst xs) ∨
  ∃ (o:Obj) (its:Array Value) (n:Nat),K.lookup a=some o∧o.cls = .type "list"∧o.dict=none∧o.data = .seq its n∧its.size≤sizeLine∧Yi xs its.toList
def SqT (K:PySem.W.Frag) (H:Hp) (a:Addr) (xs:List V):Prop :=
 Rd H a (.tup xs) ∨
  ∃ (o:Obj) (its:Array Value) (n:Nat),K.lookup a=some o∧o.cls = .type "tuple"∧o.data = .seq its n∧its.size≤sizeLine∧Yi xs its.toList
def absV:Value→Option V
 | .none=>some .non
 | .bool b=>some (.bl b)
 | .int i _=>some (.int i)
 | .str x _=>some (.str x)
 | .bytes b _=>some (.byt b)
 | .float b _=>some (.flt b)
 | .ref a=>some (.ref a)
 | .type n=>some (.ty n)
 | _=>none
theorem Yo.abs {x:V} {u:Value} (r:Yo x u):absV u=some x:=by
 cases x with
 | non=>cases r;rfl
 | bl _=>cases r;rfl
 | int _=>obtain ⟨t,rfl⟩:=r;rfl
 | str _=>obtain ⟨t,rfl⟩:=r;rfl
 | byt _=>obtain ⟨t,rfl⟩:=r;rfl
 | flt _=>obtain ⟨t,rfl⟩:=r;rfl
 | ref _=>cases r;rfl
 | ty _=>cases r;rfl
theorem Yo.inj {x y:V} {u:Value} (r:Yo x u) (q:Yo y u):x=y:=Option.some.inj (r.abs.symm.trans q.abs)
theorem Yi.inj:∀ {xs ys:List V} {us:List Value},Yi xs us→Yi ys us→xs=ys
 | _,_,_,.nil,.nil=>rfl
 | _,_,_,.cons r t,.cons r' t'=>by rw [r.inj r',Yi.inj t t']
section
variable {X:Cx} {pins:List (Addr×Obj)} {σ:St} {H:Hp} {s:Shared} {a:Addr} {xs ys:List V}
theorem SqL.of {K:PySem.W.Frag} (h:H a=some (.lst xs)):SqL K H a xs := .inl (.inl h)
theorem SqT.of {K:PySem.W.Frag} (h:H a=some (.tup xs)):SqT K H a xs := .inl (.inl h)
theorem Inv.list (I:Inv X pins σ H s) (h:SqL X.K H a xs):∃ its:List Value,Yi xs its∧PlainL s.heap a its.toArray∧xs.length≤sizeLine:=by
 rcases h with h | ⟨o,its,n,hk,hc,hd,hs,hz,r⟩
 ·obtain ⟨z,its,n,r,e⟩:=h.ok I.hok
  exact ⟨its,r,⟨_,n,e,rfl,rfl,rfl⟩,z⟩
 ·refine ⟨its.toList,r,⟨o,n,I.kIn a o hk,hc,hd,by simpa using hs⟩,?_⟩
  have e:=r.length
  simp only [Array.length_toList] at e
  omega
theorem Inv.tuple (I:Inv X pins σ H s) (h:SqT X.K H a xs):∃ its:List Value,Yi xs its∧IsTup s.heap a its.toArray∧xs.length≤sizeLine:=by
 rcases h with h | ⟨o,its,n,hk,hc,hs,hz,r⟩
 ·obtain ⟨z,its,r,p⟩:=h.ok I.hok
  exact ⟨its,r,p,z⟩
 ·refine ⟨its.toList,r,⟨o,I.kIn a o hk,hc,n,by simpa using hs⟩,?_⟩
  have e:=r.length
  simp only [Array.length_toList] at e
  omega
theorem Inv.list_inj (I:Inv X pins σ H s) (h:SqL X.K H a xs) (h':SqL X.K H a ys):xs=ys:=by
 obtain ⟨its,r,⟨o,n,e,_,_,d⟩,_⟩:=I.list h
 obtain ⟨its',r',⟨o',n',e',_,_,d'⟩,_⟩:=I.list h'
 rw [e] at e';cases e'
 rw [d] at d'
 injection d' with d1 _
 have:its=its':=by simpa using congrArg Array.toList d1
 subst this
 exact r.inj r'
theorem Inv.tuple_inj (I:Inv X pins σ H s) (h:SqT X.K H a xs) (h':SqT X.K H a ys):xs=ys:=by
 obtain ⟨its,r,⟨o,e,_,n,d⟩,_⟩:=I.tuple h
 obtain ⟨its',r',⟨o',e',_,n',d'⟩,_⟩:=I.tuple h'
 rw [e] at e';cases e'
 rw [d] at d'
 injection d' with d1 _
 have:its=its':=by simpa using congrArg Array.toList d1
 subst this
 exact r.inj r'
end
abbrev Cx.wish (X:Cx) (E:Value→Shared→Prop):Cx:={ X with xe:=E }
abbrev Cx.nox (X:Cx):Cx:=X.wish fun _ _=>False
theorem Cx.Ok.wish {X:Cx} (ok:X.Ok) (E:Value→Shared→Prop):(X.wish E).Ok :=
 ⟨ok.mod,ok.kind,ok.glob,ok.blt,ok.above,ok.inj,ok.has,ok.cab,ok.hd,ok.frames,ok.stk,ok.exf,ok.bs,ok.bsz,ok.noex,ok.exfs,ok.funs,ok.frf⟩
theorem Cx.Ok.unwish {X:Cx} {E:Value→Shared→Prop} (ok:(X.wish E).Ok):X.Ok :=
 ⟨ok.mod,ok.kind,ok.glob,ok.blt,ok.above,ok.inj,ok.has,ok.cab,ok.hd,ok.frames,ok.stk,ok.exf,ok.bs,ok.bsz,ok.noex,ok.exfs,ok.funs,ok.frf⟩
section
variable {X:Cx} {pins:List (Addr×Obj)} {σ:St} {H:Hp} {s:Shared} {E:Value→Shared→Prop}
theorem Inv.wish (I:Inv X pins σ H s) (E:Value→Shared→Prop):Inv (X.wish E) pins σ H s:=⟨I.ok.wish E,I.os,I.bare,I.base,I.loc,I.cell,I.free,I.freeC,I.pin,I.hok,I.len⟩
theorem Inv.unwish (I:Inv (X.wish E) pins σ H s):Inv X pins σ H s:=⟨I.ok.unwish,I.os,I.bare,I.base,I.loc,I.cell,I.free,I.freeC,I.pin,I.hok,I.len⟩
theorem SP.unwish {D:Ends} {f:Flow} {s':Shared} (h:SP (X.wish E) pins D f s'):SP X pins D f s':=by
 cases f with
 | next=>obtain ⟨σ',H',I,q⟩:=h;exact ⟨σ',H',I.unwish,q⟩
 | brk=>obtain ⟨σ',H',I,q⟩:=h;exact ⟨σ',H',I.unwish,q⟩
 | cont=>obtain ⟨σ',H',I,q⟩:=h;exact ⟨σ',H',I.unwish,q⟩
 | ret u=>obtain ⟨v,σ',H',I,r,q⟩:=h;exact ⟨v,σ',H',I.unwish,r,q⟩
theorem PE.nox {e:Expr} {t:TE} (h:PE X.nox e t):PE X e t:=fun pins s σ H Q I hw =>
 wpAny_mono (h pins s σ H Q (I.wish _) hw) (fun _ _ ⟨v,H',I',r,q⟩=>⟨v,H',I'.unwish,r,q⟩) fun _ _ z=>False.elim z
theorem PT.nox {e:Expr} {t:TT} (h:PT X.nox e t):PT X e t:=fun pins s σ H Q I hw =>
 wpAny_mono (h pins s σ H Q (I.wish _) hw) (fun _ _ ⟨H',I',q⟩=>⟨H',I'.unwish,q⟩) fun _ _ z=>False.elim z
theorem PSs.nox {st:List Stmt} {t:TS} (h:PSs X.nox st t):PSs X st t:=fun pins s σ H D I hw =>
 wpAny_mono (h pins s σ H D (I.wish _) hw) (fun _ _ q=>q.unwish) fun _ _ z=>False.elim z
end
section
variable {X:Cx} {st:Stmt} {YU:List Stmt} {t u:TS} {e:Expr} {te:TE} {pos:Pos}
def YaV:TS:=fun D σ H=>D.nx σ H
def XN (t u:TS):TS:=fun D σ H=>t { D with nx:=u D } σ H
theorem Yk:PSs X [] YaV:=fun _ _ σ H _ I h=>wpAny_execs_nil ⟨σ,H,I,h⟩
theorem Yd (h1:PS X st t) (h2:PSs X YU u):PSs X (st::YU) (XN t u):=by
 intro pins s σ H D I h
 refine wpAny_execs_cons (thn (h1 pins s σ H { D with nx:=u D } I h) fun f s1 q=>?_)
 cases f with
 | next =>
  obtain ⟨σ',H',I',q⟩:=q
  exact h2 pins s1 σ' H' D I' q
 | ret v=>exact q
 | brk=>exact q
 | cont=>exact q
theorem Ye (h1:PS X st t):PSs X [st] t:=by
 intro pins s σ H D I h
 refine wpAny_execs_cons (thn (h1 pins s σ H D I h) fun f s1 q=>?_)
 cases f with
 | next=>exact wpAny_execs_nil q
 | ret v=>exact q
 | brk=>exact q
 | cont=>exact q
def Ycp:TS:=fun D σ H=>D.bk σ H
def tCont:TS:=fun D σ H=>D.ct σ H
theorem Inv.quiet {pins:List (Addr×Obj)} {σ:St} {H:Hp} {s:Shared} (I:Inv X pins σ H s):interactive X.env=false:=by simp [interactive,I.ok.kind]
def YaW (te:TE):TS:=fun D σ H=>te σ H fun _ H1=>D.nx σ H1
theorem XG (he:PE X e te) (hs:swapsWith e none pos.line X.env=pure false):PS X (.Expr e pos) (YaW te):=by
 intro pins s σ H D I h
 exact wpAny_Expr_any (thn (he pins s σ H _ I h) fun v s1 ⟨x,H1,I1,r1,q1⟩=>⟨σ,H1,I1,q1⟩) I.quiet hs
def tRet (te:TE):TS:=fun D σ H=>te σ H D.rt
theorem Yj (he:PE X e te):PS X (.Return (some e) pos) (tRet te):=by
 intro pins s σ H D I h
 exact wpAny_Return_some (thn (he pins s σ H _ I h) fun v s1 ⟨x,H1,I1,r1,q1⟩=>⟨x,σ,H1,I1,r1,q1⟩)
def tRetN:TS:=fun D _ H=>D.rt .non H
def tIfS (c:TT) (t u:TS):TS:=fun D σ H=>c σ H fun b H1=>if b=true then t D σ H1 else u D σ H1
theorem Yt {c:Expr} {a b:List Stmt} {tc:TT} (hc:PT X c tc) (ha:PSs X a t) (hb:PSs X b u):PS X (.If c a b pos) (tIfS tc t u):=by
 intro pins s σ H D I h
 refine wpAny_If (thn (hc pins s σ H _ I h) fun d s1 ⟨H1,I1,q1⟩=>?_)
 cases d with
 | true=>exact ha pins s1 σ H1 D I1 q1
 | false=>exact hb pins s1 σ H1 D I1 q1
def Ycq:TS:=fun _ _ _=>False
end
abbrev TG:=V→St→Hp→(St→Hp→Prop)→Prop
abbrev TGs:=List V→St→Hp→(St→Hp→Prop)→Prop
def PG (X:Cx) (target:Expr) (t:TG):Prop :=
 ∀ (pins:List (Addr×Obj)) (s:Shared) (σ:St) (H:Hp) (v:V) (u:Value) (Q:St→Hp→Prop),Inv X pins σ H s→Yo v u→t v σ H Q →
  wpAny (model X.prog X.w) X.A (assign target X.env u) (fun _ s'=>∃ σ' H',Inv X pins σ' H' s'∧Q σ' H') X.xe s
abbrev TSet:=V→V→V→Hp→(Hp→Prop)→Prop
abbrev TIp:=V→V→Hp→VK→Prop
def PIp (X:Cx) (op:Operator) (t:TIp):Prop :=
 ∀ (pins:List (Addr×Obj)) (s:Shared) (σ:St) (H:Hp) (x y:V) (v u:Value) (Q:VK),Inv X pins σ H s→Yo x v→Yo y u→t x y H Q →
  wpAny (model X.prog X.w) X.A (inplaceOp op v u) (EP X pins σ Q) X.xe s
section
variable {X:Cx} {pos:Pos}
def Y4 (i:Nat):TG:=fun v σ H Q=>Q (σ.set i (some v)) H
theorem Xt {i:Nat} {x:Str} (hN:X.N.Nodup) (hi:X.N[i]?=some x) (hx:Loc X.env.scope x) (hf:X.fn x=true∨X.env.scope.names.lookup x=some .local:=by first | exact .inl rfl | exact .inr rfl | assumption):PG X (.Name x pos) (Y4 i):=by
 intro pins s σ H v u Q I r h
 exact wpAny_assign_Name (XL I hN hi hx r (fun s' I'=>⟨_,H,I',h⟩) hf)
def gNil:TGs:=fun vs σ H Q=>vs=[]∧Q σ H
def gCons (t:TG) (u:TGs):TGs:=fun vs σ H Q=>∃ v r,vs=v::r∧t v σ H fun σ' H'=>u r σ' H' Q
def gTup (K:PySem.W.Frag) (n:Nat) (t:TGs):TG:=fun v σ H Q=>∃ a xs,v = .ref a∧SqT K H a xs∧xs.length=n∧t xs σ H Q
def gSub (to ti:TE) (t:TSet):TG:=fun v σ H Q=>to σ H fun o H1=>ti σ H1 fun i H2=>t o i v H2 fun H3=>Q σ H3
def tAsg (te:TE) (g:TG):TS:=fun D σ H=>te σ H fun x H1=>g x σ H1 D.nx
theorem Ym {i:Nat} {x:Str} {e:Expr} {te:TE} {pos':Pos} (hN:X.N.Nodup) (hi:X.N[i]?=some x) (hx:Loc X.env.scope x) (he:PE X e te) (hs:swapsWith e (some (.Name x pos')) pos.line X.env=pure false:=by rfl) (hf:X.fn x=true∨X.env.scope.names.lookup x=some .local:=by first | exact .inl rfl | exact .inr rfl | assumption) :
  PS X (.Assign [.Name x pos'] e pos) (tAsg te (Y4 i)):=by
 intro pins s σ H D I h
 refine wpAny_Assign_Name (thn (he pins s σ H _ I h) fun v s1 ⟨y,H1,I1,r1,q1⟩=>?_) hs
 exact XL I1 hN hi hx r1 (fun s2 I2=>⟨_,H1,I2,q1⟩) hf
def tAug (i:Nat) (te:TE) (ti:TIp):TS:=fun D σ H=>∃ x,σ[i]?=some (some x)∧te σ H fun y H1=>ti x y H1 fun z H2=>D.nx (σ.set i (some z)) H2
theorem QH {i:Nat} {x:Str} {e:Expr} {te:TE} {op:Operator} {ti:TIp} {pos':Pos} (hN:X.N.Nodup) (hi:X.N[i]?=some x) (hx:Loc X.env.scope x) (he:PE X e te) (ho:PIp X op ti) (hf:X.fn x=true∨X.env.scope.names.lookup x=some .local) :
  PS X (.AugAssign (.Name x pos') op e pos) (tAug i te ti):=by
 intro pins s σ H D I h
 obtain ⟨v,e1,h⟩:=h
 obtain ⟨m,hn,hl⟩:=I.loc
 have vis:Vis X.env.scope x:=by rcases hx with k | k;exact .inl k;exact .inr (.inl k)
 obtain ⟨u,r,l⟩:=hl i x v hi e1 vis
 refine wpAny_AugAssign_Name ?_
 have go:wpAny (model X.prog X.w) X.A (eval e X.env) (fun w s₂=>wpAny (model X.prog X.w) X.A (inplaceOp op u w) (fun r s₃=>wpAny (model X.prog X.w) X.A (storeName X.env x r) (fun _=>SP X pins D .next) X.xe s₃) X.xe s₂) X.xe s:=by
  refine thn (he pins s σ H _ I h) fun w s1 ⟨y,H1,I1,r1,q1⟩=>?_
  refine thn (ho pins s1 σ H1 v y u w _ I1 r r1 q1) fun z s2 ⟨zv,H2,I2,r2,q2⟩=>?_
  exact XL I2 hN hi hx r2 (fun s3 I3=>⟨_,H2,I3,q2⟩) hf
 rcases l with ⟨hk,hm⟩ | ⟨hk,c,hc,hcell⟩
 ·exact wpAny_loadName_local I.ok.kind hk hn hm go
 ·rcases hk with hk | hk
  ·exact wpAny_loadName_cell I.ok.kind hk hc hcell go
  ·rcases hx with k | k
   ·have:X.env.scope.names.lookup x=some .free:=hk
    rw [k] at this;cases this
   ·have:X.env.scope.names.lookup x=some .free:=hk
    rw [k] at this;cases this
def ipI (f:Int→Int→Int):TIp:=fun x y H Q=>∃ i j,x = .int i∧y = .int j∧Q (.int (f i j)) H
theorem Ycr:PIp X .Add (ipI fun i j=>i+j):=by
 intro pins s σ H x y v u Q I r1 r2 h
 obtain ⟨i,j,e1,e2,q⟩:=h
 subst e1;subst e2
 obtain ⟨t,rfl⟩:=r1
 obtain ⟨t',rfl⟩:=r2
 exact iadd_int ⟨.int _,H,I.tok _,⟨_,rfl⟩,q⟩
theorem Ycs:PIp X .Sub (ipI fun i j=>i - j):=by
 intro pins s σ H x y v u Q I r1 r2 h
 obtain ⟨i,j,e1,e2,q⟩:=h
 subst e1;subst e2
 obtain ⟨t,rfl⟩:=r1
 obtain ⟨t',rfl⟩:=r2
 exact isub_int ⟨.int _,H,I.tok _,⟨_,rfl⟩,q⟩
end
section
variable {X:Cx} {pos:Pos}
def Yct (c:TT) (tb:TS):TS:=fun D σ H=>∃ W:Nat→St→Hp→Prop,(∃ m,W m σ H)∧∀ m σ H,W m σ H →
 c σ H fun b H1=>if b=true then ∃ N:St→Hp→Prop,(∀ σ' H',N σ' H'→∃ m',m'<m∧W m' σ' H')∧tb { D with nx:=N,ct:=N,bk:=D.nx } σ H1 else D.nx σ H1
theorem VV {c:Expr} {body:List Stmt} {tc:TT} {tb:TS} (hp:PassesOwn (model X.prog X.w) X.A X.env X.xe) (hc:PT X c tc) (hb:PSs X body tb):PS X (.While c body [] pos) (Yct tc tb):=by
 intro pins s σ H D I h
 obtain ⟨W,⟨m0,w0⟩,turn⟩:=h
 refine wpAny_While (codeAny_whileLoop (fun n s'=>∃ σ' H',Inv X pins σ' H' s'∧W n σ' H') ?_ m0 ⟨σ,H,I,w0⟩)
 rintro n s1 ⟨σ1,H1,I1,w1⟩
 refine wpAny_passesOwn hp (thn (hc pins s1 σ1 H1 _ I1 (turn n σ1 H1 w1)) fun b s2 ⟨H2,I2,q2⟩=>?_)
 cases b with
 | true =>
  obtain ⟨N,hN,q2⟩:=q2
  rw [if_pos rfl]
  refine wpAny_passesOwn hp (thn (hb pins s2 σ1 H2 _ I2 q2) fun f s3 q3=>?_)
  cases f with
  | next =>
   obtain ⟨σ3,H3,I3,n3⟩:=q3
   obtain ⟨m',hm,w3⟩:=hN σ3 H3 n3
   exact ⟨m',hm,σ3,H3,I3,w3⟩
  | cont =>
   obtain ⟨σ3,H3,I3,n3⟩:=q3
   obtain ⟨m',hm,w3⟩:=hN σ3 H3 n3
   exact ⟨m',hm,σ3,H3,I3,w3⟩
  | brk=>exact q3
  | ret v=>exact q3
 | false =>
  rw [if_neg Bool.false_ne_true]
  exact wpAny_execs_nil ⟨σ1,H2,I2,q2⟩
end
structure It where
 go:Nat→Hp→Prop
 yld:Nat→Hp→V→Hp→Prop
 stop:Nat→Hp→Prop
def Xj (X:Cx) (pins:List (Addr×Obj)) (H:Hp) (b:Addr):Prop :=
 H b=none∧b≠X.env.locals∧b∉X.fs∧(b∈X.ex∨X.s₀.heap.objs.size≤b)∧(∀ x c,X.env.cells.lookup x=some c→c≠b)∧∀ p∈X.pn++pins,p.1≠b
theorem Inv.fpOk {X:Cx} {pins:List (Addr×Obj)} {σ:St} {H H':Hp} {s:Shared} {b:Addr} (I:Inv X pins σ H s) (hb:s.heap.objs.size≤b) (hn:H' b=none):Xj X pins H' b:=by
 refine ⟨hn,Nat.ne_of_gt (Nat.lt_of_lt_of_le I.lt hb),I.nofs hb,.inr (Nat.le_trans I.sz hb),fun x c e z=>?_,fun p hp z=>?_⟩
 ·obtain ⟨v,q⟩:=I.cell x c e
  exact absurd (Nat.lt_of_lt_of_le q.lt (by rw [z];exact hb)) (Nat.lt_irrefl _)
 ·exact absurd (Nat.lt_of_lt_of_le (Heap.lt_size (I.pin p hp).1) (by rw [z];exact hb)) (Nat.lt_irrefl _)
structure Turn (P:Program) (w:World) (K:PySem.W.Frag) (tg:Expr) (J:It) (fp:List Addr) (it:Addr) (tn:Nat→Heap→Prop):Prop where
 mem:it∈fp
 obj:∀ i h,tn i h→∀ b∈fp,∃ o,h.get? b=some o∧∀ v,o.data ≠ .cell v
 keep:∀ i h h',tn i h→(∀ b∈fp,∀ o,h.get? b=some o→h'.get? b=some o)→tn i h'
 item:∀ (X:Cx),X.prog=P→X.w=w→X.K=K→X.calm=true→∀ (i:Nat) (pins:List (Addr×Obj)) (s:Shared) (σ:St) (H:Hp) (E:Value→Shared→Prop),Inv X pins σ H s→(∀ b∈fp,Xj X pins H b)→tn i s.heap→J.go i H →
  wpAny (model P w) X.A (pyNext (.ref it)) (fun r s1=>∃ u,r=some u ∧
   wpAny (model P w) X.A (letOwnedTupleGo tg (.ref it) u) (fun _ s2=>∃ x H',Inv X pins σ H' s2∧Yo x u∧J.yld i H x H'∧tn (i+1) s2.heap∧∀ b∈fp,H' b=none) E s1) E s
 done:∀ (X:Cx),X.prog=P→X.w=w→X.K=K→X.calm=true→∀ (i:Nat) (pins:List (Addr×Obj)) (s:Shared) (σ:St) (H:Hp) (E:Value→Shared→Prop),Inv X pins σ H s→(∀ b∈fp,Xj X pins H b)→tn i s.heap→J.stop i H →
  wpAny (model P w) X.A (pyNext (.ref it)) (fun r s1=>r=none∧Inv X pins σ H s1) E s
 self:∀ (A:Around) (i:Nat) (s:Shared) (Q:Value→Shared→Prop) (E:Value→Shared→Prop),tn i s.heap→Q (.ref it) s→wpAny (model P w) A (pyIter (.ref it)) Q E s
abbrev TI:=St→Hp→(It→Hp→Prop)→Prop
def PIE (X:Cx) (pins:List (Addr×Obj)) (σ:St) (tg:Expr) (R:It→Hp→Prop) (itv:Value) (s2:Shared):Prop :=
 ∃ (it:Addr) (fp:List Addr) (tn:Nat→Heap→Prop) (J:It) (H':Hp),itv = .ref it∧Inv X pins σ H' s2∧Turn X.prog X.w X.K tg J fp it tn∧tn 0 s2.heap∧(∀ b∈fp,Xj X pins H' b)∧R J H'
def PI (X:Cx) (tg iter:Expr) (wi:TI):Prop :=
 ∀ (pins:List (Addr×Obj)) (s:Shared) (σ:St) (H:Hp) (R:It→Hp→Prop),Inv X pins σ H s→wi σ H R →
  wpAny (model X.prog X.w) X.A (eval iter X.env) (fun v s1=>wpAny (model X.prog X.w) X.A (pyIter v) (PIE X pins σ tg R) X.xe s1) X.xe s
theorem VN {M:Model} {A:Around} {E:Value→Shared→Prop} {s:Shared} {tg:Expr} {it:Addr} {u:Value} {o:Obj} {n:String} {vs:Array Value} {Q:Unit→Shared→Prop} (ho:s.heap.get? it=some o) (hc:o.cls = .type n) (hd:o.data = .fields vs)
  (hn:["enumerate","zip","dict_itemiterator","dict_reverseitemiterator","odict_iterator","itertools.zip_longest","itertools.pairwise"].contains n=false) (hQ:Q () s):wpAny M A (letOwnedTupleGo tg (.ref it) u) Q E s:=by
 unfold letOwnedTupleGo
 cases tg<;>first
  | exact wpAny_pure hQ
  | (cases u<;>first
    | exact wpAny_pure hQ
    | (refine wpAny_bind (wpAny_load ho ?_)
       rw [hc,hd]
       show wpAny M A (if (["enumerate","zip","dict_itemiterator","dict_reverseitemiterator","odict_iterator","itertools.zip_longest","itertools.pairwise"].contains n&&vs[0]?==some (rawInt _))=true then _ else _) Q E s
       rw [if_neg (by intro h;rw [hn,Bool.false_and] at h;cases h)]
       exact wpAny_pure hQ))
def Itl (K:PySem.W.Frag) (a:Addr):It :=
 ⟨fun i H=>∃ xs x,SqL K H a xs∧xs[i]?=some x,fun i H x H'=>H'=H∧∀ xs,SqL K H a xs→xs[i]?=some x,fun i H=>∃ xs,SqL K H a xs∧xs.length≤i⟩
def Itt (K:PySem.W.Frag) (a:Addr):It :=
 ⟨fun i H=>∃ xs x,SqT K H a xs∧xs[i]?=some x,fun i H x H'=>H'=H∧∀ xs,SqT K H a xs→xs[i]?=some x,fun i H=>∃ xs,SqT K H a xs∧xs.length≤i⟩
def Itr (lo:Int) (n:Nat):It:=⟨fun i _=>i<n,fun i H x H'=>H'=H∧x = .int (lo+i),fun i _=>n≤i⟩
theorem QI {P:Program} {w:World} {K:PySem.W.Frag} {tg:Expr} (a it:Addr):Turn P w K tg (Itl K a) [it] it (fun i h=>h.IsListIter it a i) where
 mem:=by simp
 obj:=fun i h st b hb=>by
  have e:b=it:=by simpa using hb
  subst e
  obtain ⟨o,e,c,d⟩:=st
  exact ⟨o,e,fun v z=>by rw [d] at z;cases z⟩
 keep:=fun i h h' st k=>st.at fun o e=>k it (by simp) o e
 item:=by
  intro X hP hw hK hc i pins s σ H E I hf st hg
  subst hP hw hK
  obtain ⟨xs,x,hq,hx⟩:=hg
  obtain ⟨its,rv,p,hz⟩:=I.list hq
  obtain ⟨u,hu,ru⟩:=rv.get hx
  obtain ⟨f0,f1,f2,f3,f4,f5⟩:=hf it (by simp)
  refine wpAny_pyNext_list_item st p.isList (x:=u) (by simpa using hu) fun h' st' sb=>?_
  have I1:Inv X pins σ H { s with heap:=h' }:=I.turned (t':=s.toks) (fun b o hb e=>(sb.2 b hb).trans e) f0 f1 f3 f4 f5
  obtain ⟨o,e,c,d⟩:=id st'
  exact ⟨u,rfl,VN (s:={ s with heap:=h' }) e c d (by decide) ⟨x,H,I1,ru,⟨rfl,fun ys hy=>by rw [I.list_inj hy hq];exact hx⟩,st',fun b hb=>(hf b hb).1⟩⟩
 done:=by
  intro X hP hw hK hc i pins s σ H E I hf st hg
  subst hP hw hK
  obtain ⟨xs,hq,hx⟩:=hg
  obtain ⟨its,rv,p,hz⟩:=I.list hq
  obtain ⟨f0,f1,f2,f3,f4,f5⟩:=hf it (by simp)
  have hl:=rv.length
  exact wpAny_pyNext_list_end (I.ok.hd hc) st p.isList (by simp;omega) fun h' eb=>⟨rfl,I.turned (t':=s.toks) (fun b o hb e=>eb b o hb e) f0 f1 f3 f4 f5⟩
 self:=fun _ _ _ _ _ st h=>wpAny_pyIter_listiter st h
theorem U7 {P:Program} {w:World} {K:PySem.W.Frag} {tg:Expr} (a it:Addr):Turn P w K tg (Itt K a) [it] it (fun i h=>h.IsTupleIter it a i) where
 mem:=by simp
 obj:=fun i h st b hb=>by
  have e:b=it:=by simpa using hb
  subst e
  obtain ⟨o,e,c,d⟩:=st
  exact ⟨o,e,fun v z=>by rw [d] at z;cases z⟩
 keep:=fun i h h' st k=>st.at fun o e=>k it (by simp) o e
 item:=by
  intro X hP hw hK hc i pins s σ H E I hf st hg
  subst hP hw hK
  obtain ⟨xs,x,hq,hx⟩:=hg
  obtain ⟨its,rv,p,hz⟩:=I.tuple hq
  obtain ⟨u,hu,ru⟩:=rv.get hx
  obtain ⟨f0,f1,f2,f3,f4,f5⟩:=hf it (by simp)
  refine wpAny_pyNext_tuple_item st (show s.heap.IsTuple a its.toArray from p) (x:=u) (by simpa using hu) fun h' st' sb=>?_
  have I1:Inv X pins σ H { s with heap:=h' }:=I.turned (t':=s.toks) (fun b o hb e=>(sb.2 b hb).trans e) f0 f1 f3 f4 f5
  obtain ⟨o,e,c,d⟩:=id st'
  exact ⟨u,rfl,VN (s:={ s with heap:=h' }) e c d (by decide) ⟨x,H,I1,ru,⟨rfl,fun ys hy=>by rw [I.tuple_inj hy hq];exact hx⟩,st',fun b hb=>(hf b hb).1⟩⟩
 done:=by
  intro X hP hw hK hc i pins s σ H E I hf st hg
  subst hP hw hK
  obtain ⟨xs,hq,hx⟩:=hg
  obtain ⟨its,rv,p,hz⟩:=I.tuple hq
  obtain ⟨f0,f1,f2,f3,f4,f5⟩:=hf it (by simp)
  have hl:=rv.length
  exact wpAny_pyNext_tuple_end (I.ok.hd hc) st (show s.heap.IsTuple a its.toArray from p) (by simp;omega) fun h' eb=>⟨rfl,I.turned (t':=s.toks) (fun b o hb e=>eb b o hb e) f0 f1 f3 f4 f5⟩
 self:=fun _ _ _ _ _ st h=>wpAny_pyIter_tupleiter st h
theorem U8 {P:Program} {w:World} {K:PySem.W.Frag} {tg:Expr} (it:Addr) (lo:Int) (n:Nat):Turn P w K tg (Itr lo n) [it] it (fun i h=>IsRangeIter h it (lo+(i:Nat)*1) ((n:Int) - (i:Nat)) 1) where
 mem:=by simp
 obj:=fun i h st b hb=>by
  have e:b=it:=by simpa using hb
  subst e
  exact ⟨_,st,fun v z=>by
   have z':Data.fields _=Data.cell v:=z
   cases z'⟩
 keep:=fun i h h' st k=>k it (by simp) _ st
 item:=by
  intro X hP hw hK hc i pins s σ H E I hf st hg
  subst hP hw hK
  obtain ⟨f0,f1,f2,f3,f4,f5⟩:=hf it (by simp)
  have W:=Walks.range (prog:=X.prog) (w:=X.w) (I.ok.hd hc) it lo 1 n
  refine W.item i s _ _ hg st fun v h' tk hv st' kk=>?_
  obtain ⟨t,rfl⟩:=hv
  have I1:Inv X pins σ H { s with heap:=h',toks:=tk }:=I.turned (fun b o hb e=>kk b o (by simpa using hb) e) f0 f1 f3 f4 f5
  refine ⟨_,rfl,VN (s:={ s with heap:=h',toks:=tk }) (n:="range_iterator") st' rfl rfl (by decide) ⟨.int (lo+i),H,I1,⟨t,?_⟩,⟨rfl,rfl⟩,st',fun b hb=>(hf b hb).1⟩⟩
  rw [Int.mul_one]
 done:=by
  intro X hP hw hK hc i pins s σ H E I hf st hg
  subst hP hw hK
  obtain ⟨f0,f1,f2,f3,f4,f5⟩:=hf it (by simp)
  exact wpAny_pyNext_range_end (I.ok.hd hc) st (by have:n≤i:=hg;omega) fun h' eb=>⟨rfl,I.turned (t':=s.toks) (fun b o hb e=>eb b o hb e) f0 f1 f3 f4 f5⟩
 self:=fun _ _ _ _ _ st h=>wpAny_pyIter_rangeiter st h
end L2
namespace L2
open PySem PySem.Spec PyProof.Rows
section
variable {X:Cx} {tg:Expr}
def YaX (K:PySem.W.Frag) (tl:TE):TI:=fun σ H R=>tl σ H fun x H1=>∃ a,x = .ref a∧(∃ xs,SqL K H1 a xs)∧R (Itl K a) H1
def iTup (K:PySem.W.Frag) (tl:TE):TI:=fun σ H R=>tl σ H fun x H1=>∃ a,x = .ref a∧(∃ xs,SqT K H1 a xs)∧R (Itt K a) H1
theorem Ybu {l:Expr} {tl:TE} (hl:PE X l tl):PI X tg l (YaX X.K tl):=by
 intro pins s σ H R I h
 refine thn (hl pins s σ H _ I h) fun v s1 ⟨x,H1,I1,r1,q1⟩=>?_
 obtain ⟨a,e,⟨xs,hq⟩,q⟩:=q1
 subst e
 cases r1
 obtain ⟨its,rv,p,hz⟩:=I1.list hq
 refine wpAny_pyIter_list p.isList ?_
 refine ⟨s1.heap.objs.size,[s1.heap.objs.size],_,_,H1,rfl,I1.kept (t':=s1.toks) fun b o e=>Heap.get?_push_of_some _ e,QI a _,⟨_,Heap.get?_push_size _ rfl,rfl,rfl⟩,fun b hb=>?_,q⟩
 have e:b=s1.heap.objs.size:=by simpa using hb
 subst e
 exact I1.fpOk (Nat.le_refl _) (I1.hok.fresh (Nat.le_refl _))
theorem Ycu {l:Expr} {tl:TE} (hl:PE X l tl):PI X tg l (iTup X.K tl):=by
 intro pins s σ H R I h
 refine thn (hl pins s σ H _ I h) fun v s1 ⟨x,H1,I1,r1,q1⟩=>?_
 obtain ⟨a,e,⟨xs,hq⟩,q⟩:=q1
 subst e
 cases r1
 obtain ⟨its,rv,p,hz⟩:=I1.tuple hq
 refine wpAny_pyIter_tuple (show s1.heap.IsTuple a its.toArray from p) ?_
 refine ⟨s1.heap.objs.size,[s1.heap.objs.size],_,_,H1,rfl,I1.kept (t':=s1.toks) fun b o e=>Heap.get?_push_of_some _ e,U7 a _,⟨_,Heap.get?_push_size _ rfl,rfl,rfl⟩,fun b hb=>?_,q⟩
 have e:b=s1.heap.objs.size:=by simpa using hb
 subst e
 exact I1.fpOk (Nat.le_refl _) (I1.hok.fresh (Nat.le_refl _))
theorem YaA {pins:List (Addr×Obj)} {σ:St} {H:Hp} {s:Shared} {R:It→Hp→Prop} {E:Value→Shared→Prop} {lo hi:Int} {t u v:Tok} {tk:Nat} (I:Inv X pins σ H s) (h1 : -(2^62)≤lo) (h2:lo<2^62) (h3 : -(2^62)≤hi) (h4:hi<2^62)
  (q:R (Itr lo (hi - lo).toNat) H):wpAny (model X.prog X.w) X.A (pyIter (.ref s.heap.objs.size)) (PIE X pins σ tg R) E { s with heap:=s.heap.push { cls := .type "range",data := .fields #[.int lo t,.int hi u,.int 1 v] },toks:=tk }:=by
 refine wpAny_pyIter_range (IsRange.new ..) (small_one h1 h2 h3 h4) ?_
 have I1:Inv X pins σ H { s with heap:=s.heap.push { cls := .type "range",data := .fields #[.int lo t,.int hi u,.int 1 v] },toks:=tk }:=I.kept fun b o e=>Heap.get?_push_of_some _ e
 refine ⟨(s.heap.push { cls := .type "range",data := .fields #[.int lo t,.int hi u,.int 1 v] }).objs.size,[(s.heap.push { cls := .type "range",data := .fields #[.int lo t,.int hi u,.int 1 v] }).objs.size],_,_,H,rfl,
  I1.kept (t':=tk) fun b o e=>Heap.get?_push_of_some _ e,U8 _ lo (hi - lo).toNat,?_,fun b hb=>?_,q⟩
 ·have e1:lo+((0:Nat):Int)*1=lo:=by simp
  have e2:(((hi - lo).toNat:Nat):Int) - ((0:Nat):Int)=Builtin.Range.rangeSize lo hi 1:=by rw [rangeSize_one];split<;>omega
  show IsRangeIter _ _ (lo+((0:Nat):Int)*1) ((((hi - lo).toNat:Nat):Int) - ((0:Nat):Int)) 1
  rw [e1,e2]
  exact Heap.get?_push_size _ rfl
 ·have e:b=(s.heap.push { cls := .type "range",data := .fields #[.int lo t,.int hi u,.int 1 v] }).objs.size:=by simpa using hb
  subst e
  exact I1.fpOk (Nat.le_refl _) (I1.hok.fresh (Nat.le_refl _))
def YaY (ta:TA):TI:=fun σ H R=>ta σ H fun vs H1=>∃ j:Int,vs=[.int j] ∧ -(2^62)≤j∧j<2^62∧R (Itr 0 j.toNat) H1
theorem QJ {a:Expr} {ta:TA} {p pos:Pos} (hg:Gl X "range") (hm:X.mg "range"=none) (ha:PA X [a] ta) (hs:starEach [a] X.env=[(false,eval a X.env)]):PI X tg (.Call (.Name "range" p) [a] [] pos) (YaY ta):=by
 intro pins s σ H R I h
 refine Call_ (WX I hg hm boot_range (PyProof.Rows.callWith_type1 (thn (ha pos pins s σ H _ I h) fun us s1 ⟨vs,H1,I1,r1,q1⟩=>?_) hs rfl))
 obtain ⟨j,e,q1,q2,q⟩:=q1
 subst e
 cases r1 with
 | cons r rr =>
  cases rr
  obtain ⟨t,rfl⟩:=r
  exact call_range_1 (YaA I1 (by omega) (by omega) q1 q2 (by simpa using q))
def tFor (wi:TI) (g:TG) (tb:TS):TS:=fun D σ H=>wi σ H fun J H1=>∃ W:Nat→Nat→St→Hp→Prop,(∃ m,W 0 m σ H1)∧∀ i m σ H,W i m σ H →
 (J.stop i H∧D.nx σ H)∨(J.go i H∧∃ N:St→Hp→Prop,(∀ σ' H',N σ' H'→∃ m',m'<m∧W (i+1) m' σ' H')∧∀ x H',J.yld i H x H'→g x σ H' fun σ2 H2=>tb { D with nx:=N,ct:=N,bk:=D.nx } σ2 H2)
def XO (fp:List Addr) (h:Heap):List (Addr×Obj):=fp.filterMap fun b=>(h.get? b).map fun o=>(b,o)
theorem YO {fp:List Addr} {h:Heap} {b:Addr} {o:Obj} (hb:b∈fp) (e:h.get? b=some o):(b,o)∈XO fp h:=List.mem_filterMap.mpr ⟨b,hb,by rw [e];rfl⟩
theorem QK {fp:List Addr} {h:Heap} {p:Addr×Obj} (hp:p∈XO fp h):p.1∈fp∧h.get? p.1=some p.2:=by
 obtain ⟨b,hb,e⟩:=List.mem_filterMap.mp hp
 cases q:h.get? b with
 | none=>rw [q] at e;cases e
 | some o =>
  rw [q] at e
  have e':(b,o)=p:=Option.some.inj e
  subst e'
  exact ⟨hb,q⟩
theorem Inv.pinned {pins:List (Addr×Obj)} {σ:St} {H:Hp} {s:Shared} {fp:List Addr} (I:Inv X pins σ H s) (hf:∀ b∈fp,Xj X pins H b) (ho:∀ b∈fp,∃ o,s.heap.get? b=some o∧∀ v,o.data ≠ .cell v):Inv X (pins++XO fp s.heap) σ H s :=
 I.pins_of fun p hp=>(List.mem_append.mp hp).elim (fun z=>I.pin p (List.mem_append_right _ z)) fun z=>by
  obtain ⟨hb,e⟩:=QK z
  obtain ⟨f0,f1,f2,_⟩:=hf p.1 hb
  obtain ⟨o,e',d⟩:=ho p.1 hb
  rw [e] at e';cases e'
  exact ⟨e,f0,f1,f2,d⟩
theorem Inv.unpinned {pins pl:List (Addr×Obj)} {σ:St} {H:Hp} {s:Shared} (I:Inv X (pins++pl) σ H s):Inv X pins σ H s:=I.pins_of fun p hp=>I.pin p (List.mem_append_right _ (List.mem_append_left _ hp))
theorem QL {iter:Expr} {body:List Stmt} {wi:TI} {g:TG} {tb:TS} {pos:Pos} (hp:PassesOwn (model X.prog X.w) X.A X.env X.xe) (hc:X.calm=true) (hi:PI X tg iter wi) (hg:PG X tg g) (hb:PSs X body tb)
  (hs:∀ x,foldedSetIterable iter X.env x=pure x):PS X (.For tg iter body [] pos) (tFor wi g tb):=by
 intro pins s σ H D I h
 refine wpAny_For (thn (hi pins s σ H _ I h) fun v s1 h1=>thn h1 fun itv s2 h2=>?_) hs
 obtain ⟨it,fp,tn,J,H2,e,I2,T,st2,f2,W,⟨m0,w0⟩,turn⟩:=h2
 subst e
 -- what stays true of the iterator's objects through the loop
 have stat:∀ {H':Hp},(∀ b∈fp,H' b=none)→∀ b∈fp,Xj X pins H' b:=fun hn b hb=>⟨hn b hb,(f2 b hb).2⟩
 refine codeAny_forLoop_any (fun n s'=>∃ i σ' H',Inv X pins σ' H' s'∧tn i s'.heap∧(∀ b∈fp,H' b=none)∧W i n σ' H') ?_ m0 ⟨0,σ,H2,I2,st2,fun b hb=>(f2 b hb).1,w0⟩
 rintro n s3 ⟨i,σ3,H3,I3,st3,fr3,w3⟩
 rcases turn i n σ3 H3 w3 with ⟨stop,qn⟩ | ⟨go,N,hN,step⟩
 ·refine wpAny_passesOwn hp (thn (T.done X rfl rfl rfl hc i pins s3 σ3 H3 X.xe I3 (stat fr3) st3 stop) fun r s4 ⟨hr,I4⟩=>?_)
  subst hr
  exact wpAny_execs_nil ⟨σ3,H3,I4,qn⟩
 ·refine wpAny_passesOwn hp (thn (T.item X rfl rfl rfl hc i pins s3 σ3 H3 X.xe I3 (stat fr3) st3 go) fun r s4 ⟨u,hr,h4⟩=>?_)
  subst hr
  refine wpAny_passesOwn hp (thn h4 fun _ s5 ⟨x,H5,I5,r5,y5,st5,fr5⟩=>?_)
  have I5':=I5.pinned (stat fr5) (T.obj _ _ st5)
  refine wpAny_passesOwn hp (thn (hg _ s5 σ3 H5 x u _ I5' r5 (step x H5 y5)) fun _ s6 ⟨σ6,H6,I6,q6⟩=>?_)
  refine wpAny_passesOwn hp (thn (hb _ s6 σ6 H6 _ I6 q6) fun f s7 q7=>?_)
  have again:∀ {σ7:St} {H7:Hp},Inv X (pins++XO fp s5.heap) σ7 H7 s7→N σ7 H7→∃ m,m<n∧∃ i σ' H',Inv X pins σ' H' s7∧tn i s7.heap∧(∀ b∈fp,H' b=none)∧W i m σ' H':=fun {σ7 H7} I7 n7=>by
   obtain ⟨m',hm,w7⟩:=hN σ7 H7 n7
   refine ⟨m',hm,i+1,σ7,H7,I7.unpinned,T.keep _ _ _ st5 fun b hb o e=>(I7.pin (b,o) (List.mem_append_right _ (List.mem_append_right _ (YO hb e)))).1,fun b hb=>?_,w7⟩
   obtain ⟨o,e,d⟩:=T.obj _ _ st5 b hb
   exact (I7.pin (b,o) (List.mem_append_right _ (List.mem_append_right _ (YO hb e)))).2.1
  cases f with
  | next=>obtain ⟨σ7,H7,I7,n7⟩:=q7;exact again I7 n7
  | cont=>obtain ⟨σ7,H7,I7,n7⟩:=q7;exact again I7 n7
  | brk=>obtain ⟨σ7,H7,I7,q7⟩:=q7;exact ⟨σ7,H7,I7.unpinned,q7⟩
  | ret v=>obtain ⟨x7,σ7,H7,I7,r7,q7⟩:=q7;exact ⟨x7,σ7,H7,I7.unpinned,r7,q7⟩
end
theorem QM {lo:Int} {n:Nat} {g:TG} {tb:TS} {D:Ends} {σ:St} {H:Hp} (Pv:Nat→St→Hp→Prop) (h0:Pv 0 σ H)
  (hs:∀ i σ H,i<n→Pv i σ H→g (.int (lo+i)) σ H fun σ2 H2=>tb { D with nx:=Pv (i+1),ct:=Pv (i+1),bk:=D.nx } σ2 H2) (hd:∀ σ H,Pv n σ H→D.nx σ H) :
  ∃ W:Nat→Nat→St→Hp→Prop,(∃ m,W 0 m σ H)∧∀ i m σ H,W i m σ H →
   ((Itr lo n).stop i H∧D.nx σ H)∨((Itr lo n).go i H∧∃ N:St→Hp→Prop,(∀ σ' H',N σ' H'→∃ m',m'<m∧W (i+1) m' σ' H')∧∀ x H',(Itr lo n).yld i H x H'→g x σ H' fun σ2 H2=>tb { D with nx:=N,ct:=N,bk:=D.nx } σ2 H2):=by
 refine ⟨fun i m σ H=>m=n - i∧i≤n∧Pv i σ H,⟨n,by simp,Nat.zero_le _,h0⟩,?_⟩
 rintro i m σ H ⟨rfl,hi,p⟩
 by_cases hlt:i<n
 ·refine .inr ⟨hlt,Pv (i+1),fun σ' H' p'=>⟨n - (i+1),by omega,rfl,hlt,p'⟩,fun x H' y=>?_⟩
  obtain ⟨e,y⟩:=y
  subst e y
  exact hs i σ _ hlt p
 ·have e:i=n:=by omega
  subst e
  exact .inl ⟨Nat.le_refl _,hd σ H p⟩
end L2
namespace L2
open PySem PySem.Spec PyProof.Rows
abbrev R2:=V→V→Hp→VK→Prop
def OpR (X:Cx) (f:Value→Value→Sem Value) (r:R2):Prop :=
 ∀ (pins:List (Addr×Obj)) (s:Shared) (σ:St) (H:Hp) (x y:V) (v u:Value) (Q:VK),Inv X pins σ H s→Yo x v→Yo y u→r x y H Q →
  wpAny (model X.prog X.w) X.A (f v u) (EP X pins σ Q) X.xe s
def YX (X:Cx) (f:Value) (r:List V→Hp→VK→Prop):Prop :=
 ∀ (pins:List (Addr×Obj)) (s:Shared) (σ:St) (H:Hp) (xs:List V) (us:List Value) (Q:VK),Inv X pins σ H s→Yi xs us→r xs H Q →
  wpAny (model X.prog X.w) X.A (call f us) (EP X pins σ Q) X.xe s
def tOp (r:R2) (ta tb:TE):TE:=fun σ H Q=>ta σ H fun x H1=>tb σ H1 fun y H2=>r x y H2 Q
def tUn (r:V→Hp→VK→Prop) (ta:TE):TE:=fun σ H Q=>ta σ H fun x H1=>r x H1 Q
def rI (C:Int→Int→Prop) (g:Int→Int→V):R2:=fun x y H Q=>∃ i j,x = .int i∧y = .int j∧C i j∧Q (g i j) H
def rI0 (g:Int→Int→V):R2:=fun x y H Q=>∃ i j,x = .int i∧y = .int j∧Q (g i j) H
def rU (g:Int→V):V→Hp→VK→Prop:=fun x H Q=>∃ i,x = .int i∧Q (g i) H
section
variable {X:Cx} {a b c:Expr} {ta tb tc:TE} {pos:Pos}
theorem binT (ha:PE X a ta) (hb:PE X b tb) {pins:List (Addr×Obj)} {s:Shared} {σ:St} {H:Hp} {R:V→V→Hp→Prop} (I:Inv X pins σ H s)
  (h:ta σ H fun x H1=>tb σ H1 fun y H2=>R x y H2) {Q:Value→Shared→Prop} {f:Value→Value→Sem Value}
  (hf:∀ v u s2 x y H2,Inv X pins σ H2 s2→Yo x v→Yo y u→R x y H2→wpAny (model X.prog X.w) X.A (f v u) Q X.xe s2) :
  wpAny (model X.prog X.w) X.A (eval a X.env) (fun v s₁=>wpAny (model X.prog X.w) X.A (eval b X.env) (fun u s₂=>wpAny (model X.prog X.w) X.A (f v u) Q X.xe s₂) X.xe s₁) X.xe s:=by
 refine thn (ha pins s σ H _ I h) fun v s1 ⟨x,H1,I1,r1,q1⟩=>?_
 refine thn (hb pins s1 σ H1 _ I1 q1) fun u s2 ⟨y,H2,I2,r2,q2⟩=>?_
 exact hf v u s2 x y H2 I2 r1 r2 q2
theorem Yn {op:Operator} {r:R2} (ho:OpR X (binaryOp op) r) (ha:PE X a ta) (hb:PE X b tb):PE X (.BinOp a op b pos) (tOp r ta tb):=by
 intro pins s σ H Q I h
 exact wpAny_BinOp (binT ha hb I h fun v u s2 x y H2 I2 rx ry q=>ho pins s2 σ H2 x y v u Q I2 rx ry q)
theorem opI {f:Value→Value→Sem Value} {C:Int→Int→Prop} {g:Int→Int→Int}
  (rule:∀ (i j:Int) (t u:Tok) (s:Shared) (Q:Value→Shared→Prop) (E:Value→Shared→Prop),C i j→Q (.int (g i j) s.toks) { s with toks:=s.toks+1 }→wpAny (model X.prog X.w) X.A (f (.int i t) (.int j u)) Q E s) :
  OpR X f (rI C fun i j => .int (g i j)):=by
 intro pins s σ H x y v u Q I rx ry h
 obtain ⟨i,j,rfl,rfl,hc,q⟩:=h
 obtain ⟨t,rfl⟩:=rx
 obtain ⟨t',rfl⟩:=ry
 exact rule i j t t' s _ _ hc ⟨.int (g i j),H,I.tok _,⟨_,rfl⟩,q⟩
theorem opI0 {f:Value→Value→Sem Value} {g:Int→Int→Int}
  (rule:∀ (i j:Int) (t u:Tok) (s:Shared) (Q:Value→Shared→Prop) (E:Value→Shared→Prop),Q (.int (g i j) s.toks) { s with toks:=s.toks+1 }→wpAny (model X.prog X.w) X.A (f (.int i t) (.int j u)) Q E s) :
  OpR X f (rI0 fun i j => .int (g i j)):=by
 intro pins s σ H x y v u Q I rx ry h
 obtain ⟨i,j,rfl,rfl,q⟩:=h
 obtain ⟨t,rfl⟩:=rx
 obtain ⟨t',rfl⟩:=ry
 exact rule i j t t' s _ _ ⟨.int (g i j),H,I.tok _,⟨_,rfl⟩,q⟩
theorem opB0 {f:Value→Value→Sem Value} {g:Int→Int→Bool}
  (rule:∀ (i j:Int) (t u:Tok) (s:Shared) (Q:Value→Shared→Prop) (E:Value→Shared→Prop),Q (.bool (g i j)) s→wpAny (model X.prog X.w) X.A (f (.int i t) (.int j u)) Q E s) :
  OpR X f (rI0 fun i j => .bl (g i j)):=by
 intro pins s σ H x y v u Q I rx ry h
 obtain ⟨i,j,rfl,rfl,q⟩:=h
 obtain ⟨t,rfl⟩:=rx
 obtain ⟨t',rfl⟩:=ry
 exact rule i j t t' s _ _ ⟨.bl (g i j),H,I,rfl,q⟩
def CPow (i j:Int):Prop:=0≤j∧j≤1000000∧i.natAbs<2^64
theorem QN:OpR X (binaryOp .Add) (rI0 fun i j => .int (i+j)):=opI0 fun _ _ _ _ _ _ _ q=>add_int q
theorem Y8:OpR X (binaryOp .Mod) (rI (fun _ j=>0<j) fun i j => .int (i%j)):=opI fun i j _ _ _ _ _ hc q=>by
 have h1:(0:Int)<j:=hc
 exact mod_int' (by omega) (by rw [Int.fmod_eq_emod_of_nonneg i (by omega)];exact q)
theorem VW:OpR X (binaryOp .Pow) (rI CPow fun i j => .int (i^j.toNat)):=opI fun _ _ _ _ _ _ _ hc q=>pow_int_small hc.1 hc.2.1 hc.2.2 q
end
def U9:V→V→Bool
 | .non,.non=>true | .non,.int _=>true | .int _,.non=>true | .non,.bl _=>true | .bl _,.non=>true | .non,.str _=>true | .str _,.non=>true
 | .int _,.int _=>true | .bl _,.bl _=>true | .str _,.str _=>true | .byt _,.byt _=>true
 | .int _,.str _=>true | .str _,.int _=>true | .bl _,.str _=>true | .str _,.bl _=>true
 | _,_=>false
def rEq:R2:=fun x y H Q=>U9 x y=true∧Q (.bl (decide (x=y))) H
def rNe:R2:=fun x y H Q=>U9 x y=true∧Q (.bl (!decide (x=y))) H
theorem UK {i j:Int}:decide (V.int i=V.int j)=(i==j):=by
 rw [Bool.eq_iff_iff]
 simp
theorem QO {i j:Bool}:decide (V.bl i=V.bl j)=(i==j):=by
 rw [Bool.eq_iff_iff]
 simp
theorem UL {i j:Str}:decide (V.str i=V.str j)=(i==j):=by
 rw [Bool.eq_iff_iff]
 simp
theorem UM {i j:Array UInt8}:decide (V.byt i=V.byt j)=(i.toList==j.toList):=by
 rw [Bool.eq_iff_iff]
 cases i
 cases j
 simp
section
variable {X:Cx} {a b c:Expr} {ta tb tc:TE} {pos:Pos}
theorem Yv {pins:List (Addr×Obj)} {σ:St} {H:Hp} {s:Shared} {Q:VK} {k k':Bool} (I:Inv X pins σ H s) (q:Q (.bl k) H) (e:k=k'):EP X pins σ Q (.bool k') s:=by
 subst e
 exact ⟨.bl k,H,I,rfl,q⟩
theorem YQ:OpR X (compareOp .Eq) rEq:=by
 intro pins s σ H x y v u Q I rx ry h
 obtain ⟨hs,q⟩:=h
 cases x with
 | non =>
  cases rx
  cases y with
  | non=>cases ry;exact PySem.EqNone.eq_none_none (Yv I q (by simp))
  | bl j=>cases ry;exact PySem.EqNone.eq_none_bool (Yv I q (by simp))
  | int j=>obtain ⟨t',rfl⟩:=ry;exact PySem.EqNone.eq_none_int (Yv I q (by simp))
  | str j=>obtain ⟨t',rfl⟩:=ry;exact PySem.EqNone.eq_none_str (Yv I q (by simp))
  | _=>exact absurd (show false=true from hs) Bool.false_ne_true
 | bl i =>
  cases rx
  cases y with
  | non=>cases ry;exact PySem.EqNone.eq_bool_none (Yv I q (by simp))
  | bl j=>cases ry;exact eq_bool (Yv I q QO)
  | str j=>obtain ⟨t',rfl⟩:=ry;exact PySem.EqMixed.eq_bool_str (Yv I q (by simp))
  | _=>exact absurd (show false=true from hs) Bool.false_ne_true
 | int i =>
  obtain ⟨t,rfl⟩:=rx
  cases y with
  | non=>cases ry;exact PySem.EqNone.eq_int_none (Yv I q (by simp))
  | int j=>obtain ⟨t',rfl⟩:=ry;exact eq_int (Yv I q UK)
  | str j=>obtain ⟨t',rfl⟩:=ry;exact PySem.EqMixed.eq_int_str (Yv I q (by simp))
  | _=>exact absurd (show false=true from hs) Bool.false_ne_true
 | str i =>
  obtain ⟨t,rfl⟩:=rx
  cases y with
  | non=>cases ry;exact PySem.EqNone.eq_str_none (Yv I q (by simp))
  | bl j=>cases ry;exact PySem.EqMixed.eq_str_bool (Yv I q (by simp))
  | int j=>obtain ⟨t',rfl⟩:=ry;exact PySem.EqMixed.eq_str_int (Yv I q (by simp))
  | str j=>obtain ⟨t',rfl⟩:=ry;exact eq_str (Yv I q UL)
  | _=>exact absurd (show false=true from hs) Bool.false_ne_true
 | byt i =>
  obtain ⟨t,rfl⟩:=rx
  cases y with
  | byt j=>obtain ⟨t',rfl⟩:=ry;exact PySem.W.eq_bytes (Yv I q UM)
  | _=>exact absurd (show false=true from hs) Bool.false_ne_true
 | _=>cases y<;>exact absurd (show false=true from hs) Bool.false_ne_true
theorem WB:OpR X (compareOp .NotEq) rNe:=by
 intro pins s σ H x y v u Q I rx ry h
 obtain ⟨hs,q⟩:=h
 cases x with
 | non =>
  cases rx
  cases y with
  | non=>cases ry;exact PySem.EqNone.ne_none_none (Yv I q (by simp))
  | bl j=>cases ry;exact PySem.EqNone.ne_none_bool (Yv I q (by simp))
  | int j=>obtain ⟨t',rfl⟩:=ry;exact PySem.EqNone.ne_none_int (Yv I q (by simp))
  | str j=>obtain ⟨t',rfl⟩:=ry;exact PySem.EqNone.ne_none_str (Yv I q (by simp))
  | _=>exact absurd (show false=true from hs) Bool.false_ne_true
 | bl i =>
  cases rx
  cases y with
  | non=>cases ry;exact PySem.EqNone.ne_bool_none (Yv I q (by simp))
  | bl j=>cases ry;exact ne_bool (Yv I q (congrArg not QO))
  | str j=>obtain ⟨t',rfl⟩:=ry;exact PySem.EqMixed.ne_bool_str (Yv I q (by simp))
  | _=>exact absurd (show false=true from hs) Bool.false_ne_true
 | int i =>
  obtain ⟨t,rfl⟩:=rx
  cases y with
  | non=>cases ry;exact PySem.EqNone.ne_int_none (Yv I q (by simp))
  | int j=>obtain ⟨t',rfl⟩:=ry;exact ne_int (Yv I q (congrArg not UK))
  | str j=>obtain ⟨t',rfl⟩:=ry;exact PySem.EqMixed.ne_int_str (Yv I q (by simp))
  | _=>exact absurd (show false=true from hs) Bool.false_ne_true
 | str i =>
  obtain ⟨t,rfl⟩:=rx
  cases y with
  | non=>cases ry;exact PySem.EqNone.ne_str_none (Yv I q (by simp))
  | bl j=>cases ry;exact PySem.EqMixed.ne_str_bool (Yv I q (by simp))
  | int j=>obtain ⟨t',rfl⟩:=ry;exact PySem.EqMixed.ne_str_int (Yv I q (by simp))
  | str j=>obtain ⟨t',rfl⟩:=ry;exact ne_str (Yv I q (congrArg not UL))
  | _=>exact absurd (show false=true from hs) Bool.false_ne_true
 | byt i =>
  obtain ⟨t,rfl⟩:=rx
  cases y with
  | byt j=>obtain ⟨t',rfl⟩:=ry;exact PySem.W.ne_bytes (Yv I q (congrArg not UM))
  | _=>exact absurd (show false=true from hs) Bool.false_ne_true
 | _=>cases y<;>exact absurd (show false=true from hs) Bool.false_ne_true
theorem Qa:OpR X (compareOp .Lt) (rI0 fun i j => .bl (decide (i<j))):=opB0 fun _ _ _ _ _ _ _ q=>lt_int q
theorem XV:OpR X (compareOp .LtE) (rI0 fun i j => .bl (decide (i≤j))):=opB0 fun _ _ _ _ _ _ _ q=>le_int q
theorem Qb:OpR X (compareOp .Gt) (rI0 fun i j => .bl (decide (j<i))):=opB0 fun _ _ _ _ _ _ _ q=>gt_int q
theorem QP:OpR X (compareOp .Is) (fun x y H Q=>y = .non∧Q (.bl (decide (x = .non))) H):=by
 intro pins s σ H x y v u Q I rx ry h
 obtain ⟨rfl,q⟩:=h
 cases ry
 refine is_none_gen (Yv I q ?_)
 cases x<;>first
  | (cases rx;rfl)
  | (obtain ⟨t,rfl⟩:=rx;rfl)
theorem Ybv:OpR X (compareOp .IsNot) (fun x y H Q=>y = .non∧Q (.bl (!decide (x = .non))) H):=by
 intro pins s σ H x y v u Q I rx ry h
 obtain ⟨rfl,q⟩:=h
 cases ry
 refine isnot_none_gen (Yv I q ?_)
 cases x<;>first
  | (cases rx;rfl)
  | (obtain ⟨t,rfl⟩:=rx;rfl)
theorem Yr (b:Expr) {op:CmpOp} (h:op ≠ .In:=by decide) (h2:op ≠ .NotIn:=by decide):behindInMarks op b=false:=by
 have e1:(op==CmpOp.In)=false:=by cases op<;>first | rfl | exact absurd rfl h
 have e2:(op==CmpOp.NotIn)=false:=by cases op<;>first | rfl | exact absurd rfl h2
 cases b<;>simp [behindInMarks,e1,e2]
theorem Xm {op:CmpOp} {r:R2} (ho:OpR X (compareOp op) r) (ha:PE X a ta) (hb:PE X b tb) (hm:behindInMarks op b=false):PE X (.Compare a [op] [b] pos) (tOp r ta tb):=by
 intro pins s σ H Q I h
 exact wpAny_Compare1 (binT ha hb I h fun v u s2 x y H2 I2 rx ry q=>ho pins s2 σ H2 x y v u Q I2 rx ry q) hm
def Qc (t:TE):TT:=fun σ H Q=>t σ H fun x H'=>∃ k,x = .bl k∧Q k H'
theorem Yp {op:CmpOp} {r:R2} (ho:OpR X (compareOp op) r) (ha:PE X a ta) (hb:PE X b tb) (hm:behindInMarks op b=false):PT X (.Compare a [op] [b] pos) (Qc (tOp r ta tb)):=by
 intro pins s σ H Q I h
 refine wpAny_isTrue_Compare1 (thn (ha pins s σ H _ I h) fun v s1 ⟨x,H1,I1,r1,q1⟩=>thn (hb pins s1 σ H1 _ I1 q1) fun u s2 ⟨y,H2,I2,r2,q2⟩ =>
  thn (ho pins s2 σ H2 x y v u _ I2 r1 r2 q2) fun c s3 ⟨z,H3,I3,r3,k,e,q3⟩=>?_) hm
 subst e
 cases r3
 exact wpAny_truthy_bool ⟨H3,I3,q3⟩
def VX (r r':R2) (ta tb tc:TE):TE:=fun σ H Q=>ta σ H fun x H1=>tb σ H1 fun y H2=>r x y H2 fun z H3=>∃ k,z = .bl k ∧
 (if k=true then tc σ H3 fun w' H4=>r' y w' H4 Q else Q (.bl false) H3)
theorem X9 {op op':CmpOp} {r r':R2} (ho:OpR X (compareOp op) r) (ho':OpR X (compareOp op') r') (ha:PE X a ta) (hb:PE X b tb) (hc:PE X c tc)
  (hm:lastMarks [op,op'] [b,c]=false:=by with_unfolding_all rfl):PE X (.Compare a [op,op'] [b,c] pos) (VX r r' ta tb tc):=by
 intro pins s σ H Q I h
 refine Compare_chain (thn (ha pins s σ H _ I h) fun v s1 ⟨x,H1,I1,r1,q1⟩=>chain_link (thn (hb pins s1 σ H1 _ I1 q1) fun u s2 ⟨y,H2,I2,r2,q2⟩ =>
  thn (ho pins s2 σ H2 x y v u _ I2 r1 r2 q2) fun d s3 ⟨z,H3,I3,r3,k,e,q3⟩=>?_)) hm
 subst e
 cases r3
 refine wpAny_truthy_bool ?_
 cases k with
 | false=>exact ite_ff ⟨.bl false,H3,I3,rfl,q3⟩
 | true=>exact ite_tt (chain_last (thn (hc pins s3 σ H3 _ I3 q3) fun w' s4 ⟨z',H4,I4,r4,q4⟩=>ho' pins s4 σ H4 y z' u w' Q I4 r2 r4 q4))
theorem WL {op op':CmpOp} {r r':R2} (ho:OpR X (compareOp op) r) (ho':OpR X (compareOp op') r') (ha:PE X a ta) (hb:PE X b tb) (hc:PE X c tc)
  (hm:lastMarks [op,op'] [b,c]=false):PT X (.Compare a [op,op'] [b,c] pos) (Qc (VX r r' ta tb tc)):=by
 intro pins s σ H Q I h
 refine isTrue_chain (thn (ha pins s σ H _ I h) fun v s1 ⟨x,H1,I1,r1,q1⟩=>test_link (thn (hb pins s1 σ H1 _ I1 q1) fun u s2 ⟨y,H2,I2,r2,q2⟩ =>
  thn (ho pins s2 σ H2 x y v u _ I2 r1 r2 q2) fun d s3 ⟨z,H3,I3,r3,k,e,q3⟩=>?_)) hm
 subst e
 cases r3
 refine wpAny_truthy_bool ?_
 cases k with
 | false =>
  obtain ⟨k',e',q'⟩:=q3
  cases e'
  exact ite_ff ⟨H3,I3,q'⟩
 | true =>
  refine ite_tt (test_last (thn (hc pins s3 σ H3 _ I3 q3) fun w' s4 ⟨z',H4,I4,r4,q4⟩=>thn (ho' pins s4 σ H4 y z' u w' _ I4 r2 r4 q4) fun d' s5 ⟨z2,H5,I5,r5,k2,e2,q5⟩=>?_))
  subst e2
  cases r5
  exact wpAny_truthy_bool ⟨H5,I5,q5⟩
theorem Wm:(sizeLine:Nat)<2^63:=by rw [sizeLine_eq];decide
theorem Yu:OpR X (binaryOp .Add) (fun x y H Q=>∃ i j,x = .str i∧y = .str j∧i.length+j.length≤sizeLine∧Q (.str (i++j)) H):=by
 intro pins s σ H x y v u Q I rx ry h
 obtain ⟨i,j,rfl,rfl,hz,q⟩:=h
 obtain ⟨t,rfl⟩:=rx
 obtain ⟨t',rfl⟩:=ry
 exact add_str (fun t' tk=>⟨.str (i++j),H,I.tok _,⟨_,rfl⟩,q⟩) hz
theorem XW {x:V} {us:List Value} (r:Yi [x] us):∃ u,us=[u]∧Yo x u:=by
 cases r with
 | cons r1 r2=>cases r2;exact ⟨_,rfl,r1⟩
theorem YaZ {x y:V} {us:List Value} (r:Yi [x,y] us):∃ u w',us=[u,w']∧Yo x u∧Yo y w':=by
 cases r with
 | cons r1 r2 =>
  cases r2 with
  | cons r3 r4=>cases r4;exact ⟨_,_,rfl,r1,r3⟩
theorem Xp:YX X (.type "str") (fun xs H Q=>∃ i,xs=[.int i]∧i.natAbs.log2<1920∧Q (.str (toString i)) H):=by
 intro pins s σ H xs us Q I r h
 obtain ⟨i,rfl,hz,q⟩:=h
 obtain ⟨u,rfl,t,rfl⟩:=XW r
 exact PySem.P.str_of_int hz ⟨.str _,H,I.tok _,⟨_,rfl⟩,q⟩
end
end L2
namespace L2
open PySem PySem.Spec PyProof.Rows
structure ObjM (h:Heap) (x dx C:Addr) (mA:Str→Option Value):Prop where
 obj:h.get? x=some (PySem.W.instObj C dx)
 ns:h.Ns1 dx mA
 ne:dx≠x
theorem QQ {h:Heap} {dx:Addr} {mA:Str→Option Value} (n:h.Ns1 dx mA):∃ od,h.get? dx=some od∧∀ name,PySem.W.lookIn name od=some (mA name):=by
 obtain ⟨o,es,ep,ho,hd,hk,_,hm⟩:=n
 refine ⟨o,ho,fun name=>?_⟩
 have e:=hm name
 unfold nsFind findBy at e
 rw [← Array.find?_toList] at e
 unfold PySem.W.lookIn
 rw [hd]
 dsimp only
 split
 ·rename_i y q
  rw [q] at e
  exact congrArg some e
 ·rename_i q
  rw [q] at e
  have a:es.toList.any (·.refKey)=false:=by
   rw [List.any_eq_false]
   intro y hy
   obtain ⟨z,t,hkey⟩:=hk y (Array.mem_toList_iff.mp hy)
   simp [DictEntry.refKey,hkey]
  have a':¬ es.toList.any (·.refKey)=true:=by rw [a];exact Bool.false_ne_true
  rw [if_neg a']
  exact congrArg some e
theorem ObjM.look {h:Heap} {x dx C:Addr} {mA:Str→Option Value} (I:ObjM h x dx C mA):∃ od,PySem.W.InstAt h x (PySem.W.instObj C dx) C (some od)∧∀ name,PySem.W.lookIn name od=some (mA name) :=
 let ⟨od,ho,hl⟩:=QQ I.ns
 ⟨od,⟨I.obj,rfl,rfl,ho⟩,hl⟩
section
variable {prog:Program} {w:World} {A:Around} {E:Value→Shared→Prop} {s:Shared} {K:PySem.W.Frag} {x dx C f:Addr} {mA:Str→Option Value} {name:Str} {v:Value}
theorem Ybw {expr:Bool} {Q:Value→Shared→Prop} (X:K.In s.heap) (I:ObjM s.heap x dx C mA) (hg:PySem.W.plainGet K C name=true) (hh:PySem.W.hasDictIn K C=true)
  (ha:PySem.W.findIn K (.ref C) name=some none) (hv:mA name=some v) (hv':PySem.W.handedIn v=true) (h:Q v { s with toks:=s.toks+1 }) :
  wpAny (model prog w) A (getAttr (.ref x) name expr) Q E s:=by
 obtain ⟨od,J,hl⟩:=I.look
 exact PySem.W.get_value X J (PySem.W.plainGet_of hg).1 (PySem.W.findObj_own hh ha rfl (by rw [hl,hv])) hv' h
theorem YaB {pl:Sem Bool} {Q:Value×List Value→Shared→Prop} (X:K.In s.heap) (I:ObjM s.heap x dx C mA) (hg:PySem.W.plainGet K C name=true)
  (hf:PySem.W.findIn K (.ref C) name=some (some (.ref f))) (ht:PySem.W.isFn K (.ref f)=true) (hv:mA name=none) (h:Q (.ref f,[.ref x]) s) :
  wpAny (model prog w) A (getMethod (.ref x) name pl) Q E s:=by
 obtain ⟨od,J,hl⟩:=I.look
 exact PySem.W.method_fn X J (PySem.W.plainGet_of hg).1 (PySem.W.plainGet_of hg).2 hf (beq_iff_eq.mp ht) (by show (PySem.W.lookIn name od).map (·.isSome)=some false;rw [hl,hv];rfl) h
theorem Ybx {ns:List Str} {Q:Unit→Shared→Prop} (X:K.In s.heap) (I:ObjM s.heap x dx C mA)
  (hs:PySem.W.findIn K (.ref C) "__setattr__"=some (some (.builtin "object.__setattr__"))) (hp:PySem.W.plainOver K C=true) (ht:PySem.W.takerIn K C name=some none) (hh:PySem.W.hasDictIn K C=true)
  (hw:PySem.Within mA ns) (hsz:ns.length≤sizeLine)
  (h:∀ h',ObjM h' x dx C (fun y=>if y=name then some v else mA y)→Heap.SameBut dx s.heap h'→Q () { s with heap:=h',toks:=s.toks+2 }) :
  wpAny (model prog w) A (setAttr (.ref x) name v) Q E s:=by
 obtain ⟨od,J,hl⟩:=I.look
 refine PySem.W.set_plain X J hs (PySem.W.osa_open (s:={ s with toks:=s.toks+1 }) (r:=none) X J hp ht fun b=>?_)
 obtain ⟨cd,hc,hd'⟩:=PySem.W.any_some hh
 have hx:s.heap.get? x=some ⟨.ref C,some dx,.plain,#[]⟩:=I.obj
 refine wpAny_bind (wpAny_pure (wpAny_bind (wpAny_bind (wpAny_loadPart hx (wpAny_bind (PySem.W.Looks.here (s:={ s with toks:=s.toks+1 }) (PySem.W.looks_clsIn X hc) ?_))))))
 rw [hd']
 refine wpAny_pure (a:=some dx) (wpAny_bind (wpAny_pure (wpAny_bind ?_)))
 refine wpAny_nsSet1 (s:={ s with toks:=s.toks+1 }) I.ns fun h' hn2 hs2=>?_
 obtain ⟨oD,esD,epD,hoD,hdD,hcD⟩:=hn2.count (PySem.Within.cons name v hw)
 refine wpAny_bind (wpAny_lookBehind hoD (by rw [hdD];exact pastItsLine_dict (Nat.le_trans hcD (by rw [List.length_cons];omega))) ?_)
 exact wpAny_pure (h _ ⟨(hs2.2 _ (Ne.symm I.ne)).trans I.obj,hn2,I.ne⟩ hs2)
theorem YaC {R:Result→Shared→Prop} {vs:List Value} {kw:List (Str×Value)} (X:K.In s.heap) (hm:PySem.W.makesIn K C=true)
  (hi:PySem.W.findIn K (.ref C) "__init__"=some (some (.ref f))) (hf:PySem.W.typeIn K (.ref f)=some (.type "function"))
  (h:codeAny (model prog w) (A.under (.builtin "type.__call__" ⟨.ref C::vs,kw⟩)) (.call (.ref f) ⟨.ref (s.heap.objs.size+1)::vs,kw⟩) (PySem.W.InitBack (s.heap.objs.size+1) R)
   { s with heap:=(s.heap.push PySem.W.emptyDict).push (PySem.W.instObj C s.heap.objs.size) }) :
  codeAny (model prog w) A (.call (.ref C) ⟨vs,kw⟩) R s:=by
 obtain ⟨hh,g,d,t,os⟩:=s
 exact PySem.W.make_core (PySem.W.makes_of X hm) (PySem.W.looks_findIn X hi) (fun self=>PySem.W.bind_fn X self hf) (.inl rfl) h
end
def YS (f:Str) (v:V):List (Str×V)→List (Str×V)
 | []=>[(f,v)]
 | (g,x)::r=>if g=f then (g,v)::r else (g,x)::YS f v r
theorem WI (f g:Str) (v:V):∀ fs:List (Str×V),(YS f v fs).lookup g=if g=f then some v else fs.lookup g
 | []=>by
  show List.lookup g [(f,v)]=_
  by_cases h:g=f
  ·have hb:(g==f)=true:=beq_iff_eq.mpr h
   simp only [List.lookup,hb,if_pos h]
  ·have hb:(g==f)=false:=beq_eq_false_iff_ne.mpr h
   simp only [List.lookup,hb,if_neg h]
 | (k,x)::r=>by
  have ih:=WI f g v r
  rw [show YS f v ((k,x)::r)=(if k=f then (k,v)::r else (k,x)::YS f v r) from rfl]
  by_cases hk:k=f
  ·rw [if_pos hk]
   by_cases h:g=k
   ·have hb:(g==k)=true:=beq_iff_eq.mpr h
    simp only [List.lookup,hb,if_pos (h.trans hk)]
   ·have hb:(g==k)=false:=beq_eq_false_iff_ne.mpr h
    simp only [List.lookup,hb,if_neg (fun e:g=f=>h (e.trans hk.symm))]
  ·rw [if_neg hk]
   by_cases h:g=k
   ·have hb:(g==k)=true:=beq_iff_eq.mpr h
    simp only [List.lookup,hb,if_neg (fun e:g=f=>hk (h.symm.trans e))]
   ·have hb:(g==k)=false:=beq_eq_false_iff_ne.mpr h
    simp only [List.lookup,hb]
    exact ih
theorem Wn (f:Str) (v:V):∀ fs:List (Str×V),f∈(YS f v fs).map (·.1)∧∀ g,g∈fs.map (·.1)→g∈(YS f v fs).map (·.1)
 | []=>⟨by simp [YS],fun g h=>by simp at h⟩
 | (k,x)::r=>by
  obtain ⟨i1,i2⟩:=Wn f v r
  rw [show YS f v ((k,x)::r)=(if k=f then (k,v)::r else (k,x)::YS f v r) from rfl]
  by_cases hk:k=f
  ·rw [if_pos hk]
   subst hk
   exact ⟨by simp,fun g h=>by simpa using h⟩
  ·rw [if_neg hk]
   refine ⟨?_,fun g h=>?_⟩
   ·rw [List.map_cons]
    exact List.mem_cons_of_mem _ i1
   ·rw [List.map_cons] at h ⊢
    rcases List.mem_cons.mp h with e | e
    ·exact List.mem_cons.mpr (.inl e)
    ·exact List.mem_cons_of_mem _ (i2 g e)
theorem WJ (f:Str) (v:V):∀ fs:List (Str×V),(YS f v fs).length≤fs.length+1
 | []=>by simp [YS]
 | (k,x)::r=>by
  have ih:=WJ f v r
  rw [show YS f v ((k,x)::r)=(if k=f then (k,v)::r else (k,x)::YS f v r) from rfl]
  by_cases hk:k=f
  ·rw [if_pos hk,List.length_cons,List.length_cons];omega
  ·rw [if_neg hk,List.length_cons,List.length_cons];omega
theorem X2.some_of {v:V} {o:Option Value} (r:X2 (some v) o):∃ u,o=some u∧Yo v u:=by
 cases o with
 | none=>exact (show False from r).elim
 | some u=>exact ⟨u,rfl,r⟩
theorem X2.none_of {o:Option Value} (r:X2 none o):o=none:=by
 cases o with
 | none=>rfl
 | some u=>exact (show False from r).elim
theorem QR {v:V} {u:Value} (r:Yo v u):PySem.W.handedIn u=true:=by
 cases v with
 | non=>cases (show u=Value.none from r);rfl
 | bl b=>cases (show u=Value.bool b from r);rfl
 | int i=>obtain ⟨t,e⟩:=(show ∃ t,u=Value.int i t from r);cases e;rfl
 | str x=>obtain ⟨t,e⟩:=(show ∃ t,u=Value.str x t from r);cases e;rfl
 | byt b=>obtain ⟨t,e⟩:=(show ∃ t,u=Value.bytes b t from r);cases e;rfl
 | flt b=>obtain ⟨t,e⟩:=(show ∃ t,u=Value.float b t from r);cases e;rfl
 | ref a=>cases (show u=Value.ref a from r);rfl
 | ty n=>cases (show u=Value.type n from r);rfl
section
variable {P:Program} {w:World} {H H':Hp} {h h':Heap} {a C dx:Addr} {fs fs':List (Str×V)}
theorem WC (hok:HOk P w H h) (e:H a=some (.ins C dx fs)):∃ mA,ObjM h a dx C mA∧(∀ f,X2 (fs.lookup f) (mA f))∧PySem.Within mA (fs.map (·.1))∧fs.length≤1000∧H dx=some (.own a):=by
 obtain ⟨d,z,ne,ob,mA,n,r,q⟩:=(show YD P w H h a (.ins C dx fs) from hok a _ e)
 exact ⟨mA,⟨ob,n,ne⟩,r,q,z,d⟩
end
structure Cls (K:PySem.W.Frag) (C:Addr):Prop where
 pg:PySem.W.plainGet K C Str.empty=true
 hd:PySem.W.hasDictIn K C=true
 po:PySem.W.plainOver K C=true
 sa:PySem.W.findIn K (.ref C) "__setattr__"=some (some (.builtin "object.__setattr__"))
theorem Cls.get {K:PySem.W.Frag} {C:Addr} (c:Cls K C) (f:Str):PySem.W.plainGet K C f=true:=c.pg
def YF (K:PySem.W.Frag) (C:Addr) (f:Str):Prop:=PySem.W.findIn K (.ref C) f=some none
theorem YF.taker {K:PySem.W.Frag} {C:Addr} {f:Str} (n:YF K C f):PySem.W.takerIn K C f=some none:=by
 unfold PySem.W.takerIn
 rw [show PySem.W.findIn K (.ref C) f=some none from n]
 rfl
structure Meth (K:PySem.W.Frag) (C:Addr) (m:Str) (f:Addr):Prop where
 at_:PySem.W.findIn K (.ref C) m=some (some (.ref f))
 fn:PySem.W.isFn K (.ref f)=true
 kp:PySem.W.keepIn K (.ref f)=true
section
variable {X:Cx} {pins:List (Addr×Obj)} {σ:St} {H:Hp} {s:Shared} {a C dx:Addr} {fs:List (Str×V)} {f:Str} {v:V} {A:Around} {E:Value→Shared→Prop}
theorem WY {b:Bool} {Q:Value→Shared→Prop} (I:Inv X pins σ H s) (e:H a=some (.ins C dx fs)) (c:Cls X.K C) (n:YF X.K C f) (l:fs.lookup f=some v)
  (h:∀ u s',Inv X pins σ H s'→Yo v u→Q u s'):wpAny (model X.prog X.w) A (getAttr (.ref a) f b) Q E s:=by
 obtain ⟨mA,O,r,_,_,_⟩:=WC I.hok e
 obtain ⟨u,hu,ru⟩:=X2.some_of (v:=v) (o:=mA f) (by rw [← l];exact r f)
 exact Ybw I.kIn O (c.get f) c.hd n hu (QR ru) (h u _ (I.tok _) ru)
theorem WZ {m:Str} {g:Addr} {pl:Sem Bool} {Q:Value×List Value→Shared→Prop} (I:Inv X pins σ H s) (e:H a=some (.ins C dx fs)) (c:Cls X.K C) (k:Meth X.K C m g) (l:fs.lookup m=none)
  (h:Q (.ref g,[.ref a]) s):wpAny (model X.prog X.w) A (getMethod (.ref a) m pl) Q E s:=by
 obtain ⟨mA,O,r,_,_,_⟩:=WC I.hok e
 have hn:mA m=none:=X2.none_of (by rw [← l];exact r m)
 exact YaB I.kIn O (c.get m) k.at_ k.fn hn h
theorem W0 {y:V} {u:Value} {Q:Unit→Shared→Prop} (I:Inv X pins σ H s) (e:H a=some (.ins C dx fs)) (c:Cls X.K C) (n:YF X.K C f) (hl:fs.length<1000) (ry:Yo y u)
  (h:∀ s',Inv X pins σ (upd H a (.ins C dx (YS f y fs))) s'→Q () s'):wpAny (model X.prog X.w) A (setAttr (.ref a) f u) Q E s:=by
 obtain ⟨mA,O,r,wi,_,ho⟩:=WC I.hok e
 have hz:(fs.map (·.1)).length≤sizeLine:=by rw [List.length_map,sizeLine_eq];omega
 refine Ybx I.kIn O c.sa c.po n.taker c.hd wi hz fun h' O' sb=>h _ ?_
 have hd:∃ o,h'.get? dx=some o:=let ⟨o,_,_,e',_⟩:=O'.ns;⟨o,e'⟩
 refine I.write (x:=a) (e:=dx) (by rw [e];exact True.intro) (.inr ho) (fun b q hb z=>(sb.2 b hb).trans z) hd ?_
 refine ⟨by rw [Yl O.ne];exact ho,?_,O.ne,O'.obj,_,O'.ns,fun g=>?_,fun g hg=>?_⟩
 ·have:=WJ f y fs;omega
 ·show X2 ((YS f y fs).lookup g) (if g=f then some u else mA g)
  rw [WI]
  by_cases q:g=f
  ·rw [if_pos q,if_pos q];exact ry
  ·rw [if_neg q,if_neg q];exact r g
 ·by_cases q:g=f
  ·rw [q];exact (Wn f y fs).1
  ·refine (Wn f y fs).2 g (wi g fun z=>hg ?_)
   show (if g=f then some u else mA g)=none
   rw [if_neg q];exact z
theorem Inv.made (I:Inv X pins σ H s):Inv X pins σ (upd (upd H s.heap.objs.size (.own (s.heap.objs.size+1))) (s.heap.objs.size+1) (.ins C s.heap.objs.size []))
  { s with heap:=(s.heap.push PySem.W.emptyDict).push (PySem.W.instObj C s.heap.objs.size) }:=by
 have e1:(s.heap.push PySem.W.emptyDict).get? s.heap.objs.size=some PySem.W.emptyDict:=Heap.get?_push_size s.heap rfl
 have e2:((s.heap.push PySem.W.emptyDict).push (PySem.W.instObj C s.heap.objs.size)).get? (s.heap.objs.size+1)=some (PySem.W.instObj C s.heap.objs.size):=by
  have:=Heap.get?_push_size (s.heap.push PySem.W.emptyDict) (o:=PySem.W.instObj C s.heap.objs.size) rfl
  rwa [Heap.size_push] at this
 have e3:(s.heap.push PySem.W.emptyDict).Ns s.heap.objs.size (fun _=>none):=⟨PySem.W.emptyDict,#[],_,e1,rfl,(fun e he=>absurd he (by simp)),fun _=>rfl⟩
 have I1:=I.laid (a:=s.heap.objs.size) (o := .own (s.heap.objs.size+1)) (h':=s.heap.push PySem.W.emptyDict) (t':=s.toks) (fun b u q=>Heap.get?_push_of_some _ q) (Nat.le_refl _) ⟨_,e1⟩
 refine I1.laid (a:=s.heap.objs.size+1) (o := .ins C s.heap.objs.size []) (t':=s.toks) (fun b u q=>Heap.get?_push_of_some _ q) (Nat.le_of_eq (Heap.size_push _ _)) ?_
 have ne:s.heap.objs.size≠s.heap.objs.size+1:=Nat.ne_of_lt (Nat.lt_succ_self _)
 refine ⟨by rw [Yl ne,Yf],Nat.zero_le _,ne,e2,fun _=>none,(Heap.Ns1.of_empty e3).at fun o q=>Heap.get?_push_of_some _ q,fun _=>True.intro,fun y hy=>absurd rfl hy⟩
theorem Yby {prog:Program} {w:World} {env:Env} {e:Expr} {f:Str} {pos:Pos} {s:Shared} {Q:Value→Shared→Prop} (hb:attributeBase e f env (eval e env)=eval e env)
  (h:wpAny (model prog w) A (eval e env) (fun o s₁=>wpAny (model prog w) A (getAttr o f true) Q E s₁) E s):wpAny (model prog w) A (eval (.Attribute e f pos) env) Q E s :=
 Attribute_any_ h (by rw [arm_eval_Attribute,hb])
end
def tFld (K:PySem.W.Frag) (ta:TE) (f:Str):TE:=fun σ H Q=>ta σ H fun x H1=>∃ a C dx fs v,x = .ref a∧H1 a=some (.ins C dx fs)∧Cls K C∧YF K C f∧fs.lookup f=some v∧Q v H1
def sFld (K:PySem.W.Frag) (ta tv:TE) (f:Str):TS:=fun D σ H=>tv σ H fun y H1=>ta σ H1 fun x H2=>∃ a C dx fs,x = .ref a∧H2 a=some (.ins C dx fs)∧Cls K C∧YF K C f∧fs.length<1000 ∧
 D.nx σ (upd H2 a (.ins C dx (YS f y fs)))
def InOp (X:Cx) (op:Operator) (rd:V→V→Hp→VK→Prop):Prop :=
 ∀ (pins:List (Addr×Obj)) (s:Shared) (σ:St) (H:Hp) (x y:V) (u v:Value) (Q:VK),Inv X pins σ H s→Yo x u→Yo y v→rd x y H Q→wpAny (model X.prog X.w) X.A (inplaceOp op u v) (EP X pins σ Q) X.xe s
def Ybz (K:PySem.W.Frag) (ta tv:TE) (rd:V→V→Hp→VK→Prop) (f:Str):TS:=fun D σ H=>ta σ H fun x H1=>∃ a C dx fs v,x = .ref a∧H1 a=some (.ins C dx fs)∧Cls K C∧YF K C f∧fs.lookup f=some v ∧
 tv σ H1 fun y H2=>rd v y H2 fun z H3=>∃ dx' fs',H3 a=some (.ins C dx' fs')∧fs'.length<1000∧D.nx σ (upd H3 a (.ins C dx' (YS f z fs')))
section
variable {X:Cx} {o e value:Expr} {f:Str} {pos pos' tpos:Pos} {ta tv:TE}
theorem Xz (he:PE X e ta) (hb:attributeBase e f X.env (eval e X.env)=eval e X.env):PE X (.Attribute e f pos) (tFld X.K ta f):=by
 intro pins s σ H Q I h
 refine Yby hb (thn (he pins s σ H _ I h) fun u s1 ⟨x,H1,I1,rx,a,C,dx,fs,v,ex,ea,c,n,l,q⟩=>?_)
 subst ex
 obtain rfl:u=Value.ref a:=rx
 exact WY I1 ea c n l fun u' s2 I2 ru=>⟨v,H1,I2,ru,q⟩
theorem QS (ha:PE X o ta) (hv:PE X value tv) (hs:swapsWith value (some (.Attribute o f pos')) pos.line X.env=pure false):PS X (.Assign [.Attribute o f pos'] value pos) (sFld X.K ta tv f):=by
 intro pins s σ H D I h
 refine plainObj_wpAny_Assign_Attribute (thn (hv pins s σ H _ I h) fun u s1 ⟨y,H1,I1,ry,q⟩=>thn (ha pins s1 σ H1 _ I1 q) fun ov s2 ⟨x,H2,I2,rx,a,C,dx,fs,ex,ea,c,n,l,q2⟩=>?_) hs
 subst ex
 obtain rfl:ov=Value.ref a:=rx
 exact W0 I2 ea c n l ry fun s3 I3=>⟨σ,_,I3,q2⟩
theorem Vz {op:Operator} {rd:V→V→Hp→VK→Prop} (ha:PE X o ta) (hv:PE X value tv) (hop:InOp X op rd):PS X (.AugAssign (.Attribute o f tpos) op value pos) (Ybz X.K ta tv rd f):=by
 intro pins s σ H D I h
 refine wpAny_AugAssign_AttributeAny (thn (ha pins s σ H _ I h) fun ov s1 ⟨x,H1,I1,rx,a,C,dx,fs,v,ex,ea,c,n,l,q⟩=>?_)
 subst ex
 obtain rfl:ov=Value.ref a:=rx
 refine WY I1 ea c n l fun u s2 I2 ru=>thn (hv pins s2 σ H1 _ I2 q) fun w3 s3 ⟨y,H2,I3,ry,q3⟩=>thn (hop pins s3 σ H2 v y u w3 _ I3 ru ry q3) fun w4 s4 ⟨z,H3,I4,rz,dx',fs',ea',l',q4⟩=>?_
 exact W0 I4 ea' c n l' rz fun s5 I5=>⟨σ,_,I5,q4⟩
def rAdd:V→V→Hp→VK→Prop:=fun x y H Q=>∃ i j,x = .int i∧y = .int j∧Q (.int (i+j)) H
theorem QT:InOp X .Add rAdd:=by
 rintro pins s σ H x y u v Q I rx ry ⟨i,j,rfl,rfl,q⟩
 obtain ⟨t,rfl⟩:=(show ∃ t,u=Value.int i t from rx)
 obtain ⟨t',rfl⟩:=(show ∃ t',v=Value.int j t' from ry)
 exact PyProof.Rows.iadd_int ⟨.int (i+j),H,I.tok _,⟨_,rfl⟩,q⟩
end
section
variable {X:Cx} {pins:List (Addr×Obj)} {σ:St} {H:Hp} {s:Shared} {A:Around} {E:Value→Shared→Prop} {Q:Value→Shared→Prop} {c:Value} {b:Bool}
inductive TyOf (K:PySem.W.Frag) (H:Hp):V→Value→Prop where
 | non:TyOf K H .non (.type "NoneType")
 | bl (x:Bool):TyOf K H (.bl x) (.type "bool")
 | int (i:Int):TyOf K H (.int i) (.type "int")
 | str (x:Str):TyOf K H (.str x) (.type "str")
 | flt (x:UInt64):TyOf K H (.flt x) (.type "float")
 | lst {a:Addr} {xs:List V} (e:H a=some (.lst xs)):TyOf K H (.ref a) (.type "list")
 | frz {a:Addr} {o:Obj} {xs:List V} (e:H a=some (.frz o (.lst xs))):TyOf K H (.ref a) (.type "list")
 | tup {a:Addr} {xs:List V} (e:H a=some (.tup xs)):TyOf K H (.ref a) (.type "tuple")
 | dK {a:Addr} {kvs:List (Key×V)} (e:H a=some (.dK kvs)):TyOf K H (.ref a) (.type "dict")
 | dT {a:Addr} {kvs:List (List Key×V)} (e:H a=some (.dT kvs)):TyOf K H (.ref a) (.type "dict")
 | ins {a C dx:Addr} {fs:List (Str×V)} (e:H a=some (.ins C dx fs)) (cl:Cls K C) (ha:PySem.W.findIn K (.ref C) "__class__"=some (some (.builtin "object.__class__")))
   (hn:PySem.W.specialIn K (.builtin "object.__class__") "__get__"=some (some (.builtin "getset_descriptor.__get__"))) (htk:PySem.W.takesIn K (.builtin "object.__class__")=some true)
   (hm:PySem.W.mroIn K C (.type "object")=some true):TyOf K H (.ref a) (.ref C)
theorem QU {x:V} {u t:Value} (I:Inv X pins σ H s) (rx:Yo x u) (ty:TyOf X.K H x t) (e:PySem.W.kitOne X.K t c=some b) (h:∀ tk,Q (.bool b) { s with toks:=tk }) :
  wpAny (model X.prog X.w) A (call (.builtin "isinstance") [u,c]) Q E s:=by
 cases ty with
 | non=>cases (show u=Value.none from rx);exact PySem.W.kia_one PySem.W.kitx_none I.kIn True.intro e (fun z=>nomatch z) h
 | bl y=>cases (show u=Value.bool y from rx);exact PySem.W.kia_one PySem.W.kitx_bool I.kIn True.intro e (fun z=>nomatch z) h
 | int i=>obtain ⟨t,q⟩:=(show ∃ t,u=Value.int i t from rx);cases q;exact PySem.W.kia_one PySem.W.kitx_int I.kIn True.intro e (fun z=>nomatch z) h
 | str y=>obtain ⟨t,q⟩:=(show ∃ t,u=Value.str y t from rx);cases q;exact PySem.W.kia_one PySem.W.kitx_str I.kIn True.intro e (fun z=>nomatch z) h
 | flt y=>obtain ⟨t,q⟩:=(show ∃ t,u=Value.float y t from rx);cases q;exact PySem.W.kia_one PySem.W.kitx_float I.kIn True.intro e (fun z=>nomatch z) h
 | @lst a xs ea =>
  cases (show u=Value.ref a from rx)
  obtain ⟨_,_,n,_,h1⟩:=(show YD X.prog X.w H s.heap a (.lst xs) from I.hok a _ ea)
  exact PySem.W.kia_one PySem.W.kitx_list I.kIn ⟨_,h1,rfl⟩ e (fun z=>nomatch z) h
 | @frz a ob xs ea =>
  cases (show u=Value.ref a from rx)
  obtain ⟨_,_,_,n,_,h1⟩:=(show YD X.prog X.w H s.heap a (.frz ob (.lst xs)) from I.hok a _ ea)
  exact PySem.W.kia_one PySem.W.kitx_list I.kIn ⟨_,h1,rfl⟩ e (fun z=>nomatch z) h
 | @tup a xs ea =>
  cases (show u=Value.ref a from rx)
  obtain ⟨_,_,_,p⟩:=(show YD X.prog X.w H s.heap a (.tup xs) from I.hok a _ ea)
  obtain ⟨o,h1,h2,_⟩:=p
  exact PySem.W.kia_one PySem.W.kitx_tuple I.kIn ⟨o,h1,h2⟩ e (fun z=>nomatch z) h
 | @dK a kvs ea =>
  cases (show u=Value.ref a from rx)
  obtain ⟨_,_,vs,_,p⟩:=(show YD X.prog X.w H s.heap a (.dK kvs) from I.hok a _ ea)
  obtain ⟨o,es,ep,h1,h2,_⟩:=p
  exact PySem.W.kia_one PySem.W.kitx_dict I.kIn ⟨o,h1,h2.1⟩ e (fun z=>nomatch z) h
 | @dT a kvs ea =>
  cases (show u=Value.ref a from rx)
  obtain ⟨_,_,xs,_,o,es,ep,h1,h2,_⟩:=(show YD X.prog X.w H s.heap a (.dT kvs) from I.hok a _ ea)
  exact PySem.W.kia_one PySem.W.kitx_dict I.kIn ⟨o,h1,h2.1⟩ e (fun z=>nomatch z) h
 | @ins a C dx fs ea cl ha hn htk hm =>
  cases (show u=Value.ref a from rx)
  obtain ⟨mA,O,_⟩:=WC I.hok ea
  obtain ⟨od,J,_⟩:=O.look
  exact PySem.W.kia_one (PySem.W.kitx_own (cl.get _) cl.hd ha hn htk hm) I.kIn J e (fun z=>nomatch z) h
end
end L2
namespace L2
open PySem PySem.Spec PyProof.Rows
structure Room (k:Nat) (A:Around):Prop where
 hd:A.handled=none
 dp:A.depth+3*k+5<recursionLimit
 un:A.units+16*k+200<cLine
theorem Room.mono {j k:Nat} {A:Around} (r:Room k A) (h:j≤k):Room j A:=⟨r.hd,by have:=r.dp;omega,by have:=r.un;omega⟩
theorem Room.deeper {k:Nat} {A:Around} (r:Room (k+1) A) (env:Env):Room k (A.deeper env) :=
 ⟨r.hd,by have:=r.dp;show A.depth+1+3*k+5<_;omega,by have:=r.un;show A.units+3+16*k+200<_;omega⟩
theorem Room.in1 {k:Nat} {A:Around} (r:Room (k+1) A):Room k A.in1 :=
 ⟨r.hd,by have:=r.dp;show A.depth+3*k+5<_;omega,by have:=r.un;show A.units+1+16*k+200<_;omega⟩
theorem Qd {A:Around} {C:Addr} {us:List Value} {kw:List (Str×Value)}:(A.under (.builtin "type.__call__" ⟨.ref C::us,kw⟩)).depth=A.depth+1:=by
 first | rfl | simp [Around.under,Code.weight,Code.isCreation,Code.isGuard,Code.isCaller,Code.frames,Code.isFrame,guardIds]
theorem Qe {A:Around} {C:Addr} {us:List Value} {kw:List (Str×Value)}:(A.under (.builtin "type.__call__" ⟨.ref C::us,kw⟩)).units=A.units+1:=by
 first | rfl | simp [Around.under,Code.cUnits,Code.frames,Code.isFrame]
theorem Room.make {k:Nat} {A:Around} (r:Room (k+1) A) (C:Addr) (us:List Value) (kw:List (Str×Value)):Room k (A.under (.builtin "type.__call__" ⟨.ref C::us,kw⟩)) :=
 ⟨r.hd,by have:=r.dp;rw [Qd];omega,by have:=r.un;rw [Qe];omega⟩
theorem Room.depth {k:Nat} {A:Around} (r:Room k A):A.depth<recursionLimit:=by have:=r.dp;omega
theorem Room.units {k:Nat} {A:Around} (r:Room k A):A.units+64<cLine:=by have:=r.un;omega
def VY:TA:=fun _ H Q=>Q [] H
def Ya0 (ta:TE) (tr:TA):TA:=fun σ H Q=>ta σ H fun x H1=>tr σ H1 fun xs H2=>Q (x::xs) H2
section
variable {X:Cx} {e:Expr} {es:List Expr} {te:TE} {t:TA} {pos:Pos}
theorem Yc:PA X [] VY:=fun _ _ _ _ H Q I h=>Calls.spliced_nil ⟨[],H,I,.nil,h⟩
theorem Ya (ha:PE X e te) (hr:PA X es t) (hs:starEach (e::es) X.env=(false,eval e X.env)::starEach es X.env:=by rfl):PA X (e::es) (Ya0 te t):=by
 intro pos pins s σ H Q I h
 rw [hs]
 show wpAny _ _ (spliced ((false,eval e X.env)::backTo pos (starEach es X.env))) _ _ s
 refine Calls.spliced_cons (thn (ha pins s σ H _ I h) fun u s1 ⟨x,H1,I1,r1,q1⟩=>?_)
 exact thn (hr pos pins s1 σ H1 _ I1 q1) fun us s2 ⟨xs,H2,I2,r2,q2⟩=>⟨x::xs,H2,I2,.cons r1 r2,q2⟩
def tTup (t:TA):TE:=fun σ H Q=>t σ H fun xs H1=>xs.length≤sizeLine∧∀ p,H1 p=none→Q (.ref p) (upd H1 p (.tup xs))
def tLst (t:TA):TE:=fun σ H Q=>t σ H fun xs H1=>xs.length≤sizeLine∧∀ p,H1 p=none→Q (.ref p) (upd H1 p (.lst xs))
theorem Y9 {x1} (h:PA X es t):PE X (.Tuple es x1 pos) (tTup t):=by
 intro pins s σ H Q I hq
 refine wpAny_Tuple_spliced (thn (h pos pins s σ H _ I hq) fun us s1 ⟨xs,H1,I1,r,z,q⟩=>⟨by rw [← r.length];exact z,?_⟩)
 have hf:H1 s1.heap.objs.size=none:=I1.hok.fresh (Nat.le_refl _)
 refine ⟨.ref s1.heap.objs.size,upd H1 s1.heap.objs.size (.tup xs),I1.laid (t':=s1.toks) (fun b u e=>Heap.get?_push_of_some _ e) (Nat.le_refl _) ?_,rfl,q _ hf⟩
 exact ⟨z,us,r,⟨_,Heap.get?_push_size _ rfl,rfl,_,rfl⟩⟩
theorem YJ (h:PA X es t):PE X (.List es pos) (tLst t):=by
 intro pins s σ H Q I hq
 refine wpAny_List_spliced (thn (h pos pins s σ H _ I hq) fun us s1 ⟨xs,H1,I1,r,z,q⟩=>⟨by rw [← r.length];exact z,?_⟩)
 have hf:H1 s1.heap.objs.size=none:=I1.hok.fresh (Nat.le_refl _)
 refine ⟨.ref s1.heap.objs.size,upd H1 s1.heap.objs.size (.lst xs),I1.laid (t':=s1.toks) (fun b u e=>Heap.get?_push_of_some _ e) (Nat.le_refl _) ?_,rfl,q _ hf⟩
 exact ⟨z,us,0,r,Heap.get?_push_size _ rfl⟩
end
abbrev Sp:=List V→Hp→VK→XK→Prop
abbrev CXT:=List Env→Hp→Shared→XK→Value→Shared→Prop
structure Env0 (P:Program) (w:World) (K:PySem.W.Frag) (mg:Str→Option Value) (base:Heap) (A:Around) (outer:List Env) (s:Shared) (H:Hp):Prop where
 frames:A.frames=some outer
 mod:Mod K mg base
 bs:∀ b o,base.get? b=some o→s.heap.get? b=some o∧H b=none
 bsz:base.objs.size≤s.heap.objs.size
 funs:s.heap.FunFrames base outer
 frf:∀ b∈frs outer,H b=none
 hok:HOk P w H s.heap
 bare:AllBare s.gens
def CE (outer:List Env) (P:Program) (w:World) (H:Hp) (s:Shared) (Q:VK) (u:Value) (s':Shared):Prop :=
 ∃ v H',s'.os=s.os∧AllBare s'.gens∧Un (frs outer) [] H H' s.heap s'.heap∧HOk P w H' s'.heap∧Yo v u∧Q v H'
def CR (CX:CXT) (outer:List Env) (P:Program) (w:World) (H:Hp) (s:Shared) (Q:VK) (E:XK) (r:Result) (s':Shared):Prop :=
 match r with
 | .ok (.ret u)=>CE outer P w H s Q u s'
 | .ok _=>False
 | .error e=>CX outer H s E e s'
structure FnOk (P:Program) (w:World) (K:PySem.W.Frag) (mg:Str→Option Value) (base:Heap) (CX:CXT) (k:Nat) (f:Addr) (fd:FuncData) (ps:List Str) (sp:Sp):Prop where
 len:∀ vs H Q E,sp vs H Q E→vs.length=ps.length
 run:∀ (A:Around) (outer:List Env) (s:Shared) (H:Hp) (args:Args) (us:List Value) (vs:List V) (Q:VK) (E:XK),Room k A→Env0 P w K mg base A outer s H→BindsTo s fd args (ps.zip us)→Yi vs us→sp vs H Q E →
  codeAny (model P w) A (.call (.ref f) args) (CR CX outer P w H s Q E) s
theorem FnOk.mono {P:Program} {w:World} {K:PySem.W.Frag} {mg:Str→Option Value} {base:Heap} {CX:CXT} {j k:Nat} {f:Addr} {fd:FuncData} {ps:List Str} {sp:Sp} (F:FnOk P w K mg base CX j f fd ps sp) (h:j≤k) :
  FnOk P w K mg base CX k f fd ps sp:=⟨F.len,fun A outer s H args us vs Q E hr=>F.run A outer s H args us vs Q E (hr.mono h)⟩
theorem Env0.make {P:Program} {w:World} {K:PySem.W.Frag} {mg:Str→Option Value} {base:Heap} {A:Around} {outer:List Env} {s:Shared} {H:Hp} (e:Env0 P w K mg base A outer s H) (C:Addr) (us:List Value) (kw:List (Str×Value)) :
  Env0 P w K mg base (A.under (.builtin "type.__call__" ⟨.ref C::us,kw⟩)) outer s H:=⟨by first | exact e.frames | (simpa [Around.under,Code.envs,Code.isFrame,pushEnvs] using e.frames),e.mod,e.bs,e.bsz,e.funs,e.frf,e.hok,e.bare⟩
theorem Env0.in1 {P:Program} {w:World} {K:PySem.W.Frag} {mg:Str→Option Value} {base:Heap} {A:Around} {outer:List Env} {s:Shared} {H:Hp} (e:Env0 P w K mg base A outer s H) :
  Env0 P w K mg base A.in1 outer s H:=⟨e.frames,e.mod,e.bs,e.bsz,e.funs,e.frf,e.hok,e.bare⟩
section
variable {X:Cx} {pins:List (Addr×Obj)} {σ:St} {H:Hp} {s s':Shared}
theorem Inv.env0 (I:Inv X pins σ H s):Env0 X.prog X.w X.K X.mg X.base X.A X.stack s H :=
 ⟨I.ok.frames,I.ok.mod,I.bs,Nat.le_trans I.ok.bsz I.sz,I.stack,I.stkFree,I.hok,I.bare⟩
theorem Inv.after {Q:VK} {u:Value} (I:Inv X pins σ H s) (h:CE X.stack X.prog X.w H s Q u s'):EP X pins σ Q u s':=by
 obtain ⟨v,H',os,bare,un,hok,r,q⟩:=h
 obtain ⟨hh,g,d,t,os'⟩:=s'
 obtain rfl:os'=s.os:=os
 exact ⟨v,H',I.call (h':=hh) (g':=g) (d':=d) (t':=t) (ch:=[]) un hok bare (fun b z=>absurd z (by simp)),r,q⟩
end
def VO (sp:Sp) (dvs:List V) (E:XK) (t:TA):TE:=fun σ H Q=>t σ H fun vs H1=>sp (vs++dvs) H1 Q E
def WD (C:Addr) (m:Str) (sp:Sp) (dvs:List V) (E:XK) (ta:TE) (t:TA):TE:=fun σ H Q=>ta σ H fun x H1=>∃ a dx fs,x = .ref a∧H1 a=some (.ins C dx fs)∧fs.lookup m=none ∧
 t σ H1 fun vs H2=>sp (x::(vs++dvs)) H2 Q E
def Qf (C:Addr) (sp:Sp) (dvs:List V) (E:XK) (t:TA):TE:=fun σ H Q=>t σ H fun vs H1=>∀ x dx,H1 x=none→H1 dx=none→dx≠x →
 sp (.ref x::(vs++dvs)) (upd (upd H1 dx (.own x)) x (.ins C dx [])) (fun v H2=>v = .non∧Q (.ref x) H2) E
def YY (K:PySem.W.Frag) (fd:FuncData) (ps:List Str) (ds:List Value):Prop :=
 ∀ (s:Shared) (us:List Value),K.In s.heap→(us++ds).length=ps.length→BindsTo s fd ⟨us,[]⟩ (ps.zip (us++ds))
theorem YY.all {K:PySem.W.Frag} {fd:FuncData} {ps:List Str} (h:∀ us:List Value,us.length=ps.length→bindArgs fd ⟨us,[]⟩=pure (ps.zip us)):YY K fd ps []:=fun s us _ hl=>by
 rw [List.append_nil] at hl ⊢
 exact .of_eq (h us hl)
def Xa (CX:CXT) (X:Cx) (E:XK):Prop:=∀ (pins:List (Addr×Obj)) (σ:St) (H:Hp) (s:Shared) (e:Value) (s':Shared),Inv X pins σ H s→CX X.stack H s E e s'→X.xe e s'
section
variable {X:Cx} {CX:CXT} {k:Nat} {f C:Addr} {fd:FuncData} {ps:List Str} {sp:Sp} {dvs:List V} {ds:List Value} {E:XK} {x m:Str} {p pos apos:Pos} {e o:Expr} {es:List Expr} {ta:TE} {t:TA}
theorem VZ {pins:List (Addr×Obj)} {σ:St} {H:Hp} {s:Shared} {Q:VK} {us:List Value} {vs:List V} (F:FnOk X.prog X.w X.K X.mg X.base CX k f fd ps sp) (hr:Room k X.A) (hb:YY X.K fd ps ds) (hd:Yi dvs ds) (hx:Xa CX X E)
  (I:Inv X pins σ H s) (r:Yi vs us) (h:sp (vs++dvs) H Q E):wpAny (model X.prog X.w) X.A (call (.ref f) us) (EP X pins σ Q) X.xe s:=by
 have r2:Yi (vs++dvs) (us++ds):=r.append hd
 have hl:(us++ds).length=ps.length:=by rw [← r2.length];exact F.len _ _ _ _ h
 refine wpAny_call (codeAny_mono (F.run X.A X.stack s H ⟨us,[]⟩ (us++ds) (vs++dvs) Q E hr I.env0 (hb s us I.kIn hl) r2 h) fun r s' hq=>?_)
 cases r with
 | error e=>exact hx pins σ H s e s' I hq
 | ok fl =>
  cases fl with
  | ret u=>exact I.after hq
  | next=>exact False.elim hq
  | brk=>exact False.elim hq
  | cont=>exact False.elim hq
theorem UN (F:FnOk X.prog X.w X.K X.mg X.base CX k f fd ps sp) (hr:Room k X.A) (hg:Gl X x) (hm:X.mg x=some (.ref f)) (hk:PySem.W.keepIn X.K (.ref f)=true) (hb:YY X.K fd ps ds) (hd:Yi dvs ds) (hx:Xa CX X E)
  (ha:PA X (e::es) t) (hdb:(x==("__debug__":Str))=false:=by decide) (he:starEach (e::es) X.env=(false,eval e X.env)::starEach es X.env:=by rfl) (hpl:(backTo pos (starEach es X.env)).any (·.1)=false:=by rfl) :
  PE X (.Call (.Name x p) (e::es) [] pos) (VO sp dvs E t):=by
 intro pins s σ H Q I h
 refine wpAny_Call_Name_kw (XF I hg hm ?_ hdb)
 refine PySem.W.callWith_K (h₀:=X.base) I.ok.mod.kin hk (thn (ha pos pins s σ H _ I h) fun us s1 ⟨vs,H1,I1,r,q⟩=>⟨I1.kIn,?_⟩) he hpl
 exact VZ F hr hb hd hx I1 r q
theorem YbA {pl:Sem Bool} (he:PE X o ta) (c:Cls X.K C) (hm:Meth X.K C m f) (F:FnOk X.prog X.w X.K X.mg X.base CX k f fd ps sp) (hr:Room k X.A) (hb:YY X.K fd ps ds) (hd:Yi dvs ds) (hx:Xa CX X E) (ha:PA X (e::es) t)
  (hst:starEach (e::es) X.env=(false,eval e X.env)::starEach es X.env:=by rfl) (hpl:(backTo pos (starEach es X.env)).any (·.1)=false:=by rfl)
  (ht:eval (.Call (.Attribute o m apos) (e::es) [] pos) X.env=(do
   let ov ← eval o X.env
   standAt apos.atName
   let (f,first) ← holding [ov] (getMethod ov m pl)
   callWith pos f first (backTo pos (starEach (e::es) X.env)) (backToKw pos (keywordEach [] X.env))):=by rfl) :
  PE X (.Call (.Attribute o m apos) (e::es) [] pos) (WD C m sp dvs E ta t):=by
 intro pins s σ H Q I h
 refine PySem.W.methodCall_KW (pl:=pl) (thn (he pins s σ H _ I h) fun u s1 ⟨x,H1,I1,rx,a,dx,fs,ex,ea,l,q⟩=>?_) ht
 subst ex
 obtain rfl:u=Value.ref a:=rx
 refine WZ I1 ea c hm l ?_
 refine PySem.W.callWith_K (first:=[.ref a]) (h₀:=X.base) I.ok.mod.kin hm.kp (thn (ha pos pins s1 σ H1 _ I1 q) fun us s2 ⟨vs,H2,I2,r,q2⟩=>⟨I2.kIn,?_⟩) hst hpl
 exact VZ (us := .ref a::us) (vs := .ref a::vs) F hr hb hd hx I2 (.cons rfl r) q2
theorem V0 {pl:Sem Bool} (he:PE X o ta) (c:Cls X.K C) (hm:Meth X.K C m f) (F:FnOk X.prog X.w X.K X.mg X.base CX k f fd ps sp) (hr:Room k X.A) (hb:YY X.K fd ps ds) (hd:Yi dvs ds) (hx:Xa CX X E)
  (ht:eval (.Call (.Attribute o m apos) [] [] pos) X.env=(do
   let ov ← eval o X.env
   standAt apos.atName
   let (f,first) ← holding [ov] (getMethod ov m pl)
   callWith pos f first (backTo pos (starEach [] X.env)) (backToKw pos (keywordEach [] X.env))):=by rfl) :
  PE X (.Call (.Attribute o m apos) [] [] pos) (WD C m sp dvs E ta VY):=by
 intro pins s σ H Q I h
 refine PySem.W.methodCall_KW (pl:=pl) (thn (he pins s σ H _ I h) fun u s1 ⟨x,H1,I1,rx,a,dx,fs,ex,ea,l,q⟩=>?_) ht
 subst ex
 obtain rfl:u=Value.ref a:=rx
 refine WZ I1 ea c hm l ?_
 exact PySem.W.callWith_K0 (first:=[.ref a]) I1.kIn hm.kp (VZ (us:=[.ref a]) (vs:=[.ref a]) F hr hb hd hx I1 (.cons rfl .nil) q)
structure Mk (K:PySem.W.Frag) (C f:Addr):Prop where
 makes:PySem.W.makesIn K C=true
 init:PySem.W.findIn K (.ref C) "__init__"=some (some (.ref f))
 fn:PySem.W.isFn K (.ref f)=true
 kp:PySem.W.keepIn K (.ref C)=true
theorem YaD {pins:List (Addr×Obj)} {σ:St} {H:Hp} {s:Shared} {Q:VK} {us:List Value} {vs:List V} (M:Mk X.K C f) (F:FnOk X.prog X.w X.K X.mg X.base CX k f fd ps sp) (hr:Room (k+1) X.A) (hb:YY X.K fd ps ds) (hd:Yi dvs ds)
  (hx:Xa CX X E) (I:Inv X pins σ H s) (r:Yi vs us)
  (h:∀ x dx,H x=none→H dx=none→dx≠x→sp (.ref x::(vs++dvs)) (upd (upd H dx (.own x)) x (.ins C dx [])) (fun v H2=>v = .non∧Q (.ref x) H2) E) :
  wpAny (model X.prog X.w) X.A (call (.ref C) us) (EP X pins σ Q) X.xe s:=by
 have hq:=h (s.heap.objs.size+1) s.heap.objs.size (I.hok.fresh (Nat.le_succ _)) (I.hok.fresh (Nat.le_refl _)) (Nat.ne_of_lt (Nat.lt_succ_self _))
 have I2:=Inv.made (C:=C) I
 have r2:Yi (V.ref (s.heap.objs.size+1)::(vs++dvs)) (Value.ref (s.heap.objs.size+1)::(us++ds)) := .cons rfl (r.append hd)
 have hl:(Value.ref (s.heap.objs.size+1)::us++ds).length=ps.length:=by
  have e:=r2.length
  rw [F.len _ _ _ _ hq] at e
  exact e.symm
 refine wpAny_call (YaC (f:=f) I.kIn M.makes M.init (beq_iff_eq.mp M.fn) (codeAny_mono (F.run _ X.stack _ _ ⟨Value.ref (s.heap.objs.size+1)::us,[]⟩ (Value.ref (s.heap.objs.size+1)::(us++ds)) _ _ E (hr.make C us [])
  (I2.env0.make C us []) (hb _ (Value.ref (s.heap.objs.size+1)::us) I2.kIn hl) r2 hq) fun r s' hq'=>?_))
 cases r with
 | error e=>exact hx pins σ _ _ e s' I2 hq'
 | ok fl =>
  cases fl with
  | ret u =>
   obtain ⟨v,H',I3,rv,ev,q3⟩:=I2.after hq'
   subst ev
   exact ⟨rv,⟨V.ref (s.heap.objs.size+1),H',I3,rfl,q3⟩⟩
  | next=>exact False.elim hq'
  | brk=>exact False.elim hq'
  | cont=>exact False.elim hq'
theorem YbB (M:Mk X.K C f) (F:FnOk X.prog X.w X.K X.mg X.base CX k f fd ps sp) (hr:Room (k+1) X.A) (hg:Gl X x) (hm:X.mg x=some (.ref C)) (hb:YY X.K fd ps ds) (hd:Yi dvs ds) (hx:Xa CX X E)
  (ha:PA X (e::es) t) (hdb:(x==("__debug__":Str))=false:=by decide) (he:starEach (e::es) X.env=(false,eval e X.env)::starEach es X.env:=by rfl) (hpl:(backTo pos (starEach es X.env)).any (·.1)=false:=by rfl) :
  PE X (.Call (.Name x p) (e::es) [] pos) (Qf C sp dvs E t):=by
 intro pins s σ H Q I h
 refine wpAny_Call_Name_kw (XF I hg hm ?_ hdb)
 refine PySem.W.callWith_K (h₀:=X.base) I.ok.mod.kin M.kp (thn (ha pos pins s σ H _ I h) fun us s1 ⟨vs,H1,I1,r,q⟩=>⟨I1.kIn,?_⟩) he hpl
 exact YaD M F hr hb hd hx I1 r q
end
section
variable {X:Cx} {CX:CXT} {k:Nat} {f C:Addr} {fd:FuncData} {ps ks:List Str} {sp:Sp} {E:XK} {x m:Str} {p pos apos kpos:Pos} {e o:Expr} {es:List Expr} {kws:List Keyword} {te ta:TE} {t tk:TA} {nm:Option Str}
variable {g:List Value→List Value→List Value} {gV:List V→List V→List V}
end
structure FnScope (N P:List Str) (sc:Scope):Prop where
 kind:sc.kind = .function
 co:sc.isCoroutine=false
 gen:sc.isGenerator=false
 nd:N.Nodup
 pre:N.take P.length=P
 par:∀ x∈P,sc.names.lookup x=some .local∨sc.names.lookup x=some .cell
 nofree:∀ y∈sc.names,y.2 ≠ .free
theorem VA {kindOf:Str→Option NameKind} {x:Str}:∀ {binds:List (Str×Value)} {m:Str→Option Value},(∀ v,(x,v)∉binds)→bindL kindOf binds m x=m x
 | [],_,_=>rfl
 | (n,v)::r,m,h=>by
  unfold bindL
  rw [VA fun w hw=>h w (List.mem_cons_of_mem _ hw)]
  split
  ·have:x≠n:=by rintro rfl;exact h v List.mem_cons_self
   simp [this]
  ·rfl
theorem VB {kindOf:Str→Option NameKind} {x:Str}:∀ {binds:List (Str×Value)} {m:Str→Option Value},(∀ v,(x,v)∉binds)→bindC kindOf binds m x=m x
 | [],_,_=>rfl
 | (n,v)::r,m,h=>by
  unfold bindC
  rw [VB fun w hw=>h w (List.mem_cons_of_mem _ hw)]
  split
  ·rfl
  ·have:x≠n:=by rintro rfl;exact h v List.mem_cons_self
   simp [this]
theorem VC {kindOf:Str→Option NameKind} {x:Str} {v:Value}:∀ {P:List Str} {vs:List Value} {i:Nat} {m:Str→Option Value},P.Nodup→P[i]?=some x→vs[i]?=some v→kindOf x=some .local →
  bindL kindOf (P.zip vs) m x=some v
 | [],_,_,_,_,h,_,_=>by simp at h
 | _::_,[],_,_,_,_,h,_=>by simp at h
 | p::P,w::vs,0,m,nd,h1,h2,hk=>by
  simp at h1 h2;subst h1;subst h2
  show bindL kindOf ((p,w)::P.zip vs) m p=_
  unfold bindL
  rw [VA fun v hv=>(List.nodup_cons.mp nd).1 (List.of_mem_zip hv).1,if_pos hk]
  simp
 | p::P,w::vs,i+1,m,nd,h1,h2,hk=>by
  show bindL kindOf ((p,w)::P.zip vs) m x=_
  unfold bindL
  exact VC (i:=i) (List.nodup_cons.mp nd).2 (by simpa using h1) (by simpa using h2) hk
theorem VD {kindOf:Str→Option NameKind} {x:Str} {v:Value}:∀ {P:List Str} {vs:List Value} {i:Nat} {m:Str→Option Value},P.Nodup→P[i]?=some x→vs[i]?=some v→kindOf x≠some .local →
  bindC kindOf (P.zip vs) m x=some v
 | [],_,_,_,_,h,_,_=>by simp at h
 | _::_,[],_,_,_,_,h,_=>by simp at h
 | p::P,w::vs,0,m,nd,h1,h2,hk=>by
  simp at h1 h2;subst h1;subst h2
  show bindC kindOf ((p,w)::P.zip vs) m p=_
  unfold bindC
  rw [VB fun v hv=>(List.nodup_cons.mp nd).1 (List.of_mem_zip hv).1,if_neg hk]
  simp
 | p::P,w::vs,i+1,m,nd,h1,h2,hk=>by
  show bindC kindOf ((p,w)::P.zip vs) m x=_
  unfold bindC
  exact VD (i:=i) (List.nodup_cons.mp nd).2 (by simpa using h1) (by simpa using h2) hk
def Xq (N:List Str) (vs:List V):St:=vs.map some++List.replicate (N.length - vs.length) none
def Wa (CX:CXT) (P:Program) (w:World) (K:PySem.W.Frag) (mg:Str→Option Value) (base:Heap) (N:List Str) (qual:Str) (scope:Scope) (f:Addr) (cd:Value) (A:Around) (outer:List Env) (s:Shared) (H:Hp) (E:XK):Cx where
 prog:=P
 w:=w
 K:=K
 mg:=mg
 base:=base
 A:=A.deeper (envOfC qual scope s.heap.objs.size f cd)
 N:=N
 s₀:=s
 H₀:=H
 env:=envOfC qual scope s.heap.objs.size f cd
 outer:=outer
 stack:=envOfC qual scope s.heap.objs.size f cd::outer
 ex:=[]
 calm:=true
 fn:=fun _=>true
 pn:=[]
 xe:=fun e s'=>wpAny (model P w) (A.deeper (envOfC qual scope s.heap.objs.size f cd)) (leaving (envOfC qual scope s.heap.objs.size f cd) e) (fun _ s''=>CX outer H s E e s'') (fun e' s''=>CX outer H s E e' s'') s'
theorem V1 {sc:Scope} {n:Nat} {x:Str} (h:sc.names.lookup x=some .cell):∃ c,(cellsFrom n sc.names []).lookup x=some c:=by
 have q:=PySem.W.cellsFrom_some sc.names n [] (.inl h)
 exact Option.isSome_iff_exists.mp q
theorem QV {CX:CXT} {P:Program} {w:World} {K:PySem.W.Frag} {mg:Str→Option Value} {base:Heap} {N ps:List Str} {qual:Str} {scope:Scope} {f:Addr} {cd:Value} {A:Around} {outer:List Env} {s s1:Shared} {H:Hp} {E:XK} {us:List Value} {vs:List V}
  (S:FnScope N ps scope) (hd:A.handled=none) (e0:Env0 P w K mg base A outer s H) (hl:vs.length=ps.length) (r:Yi vs us)
  (x:InCallC s s.heap.objs.size (bindL (envOfC qual scope s.heap.objs.size f cd).kindOf (ps.zip us) fun _=>none) (cellsFrom (s.heap.objs.size+1) scope.names []) (bindC (envOfC qual scope s.heap.objs.size f cd).kindOf (ps.zip us) fun _=>none) s1) :
  Inv (Wa CX P w K mg base N qual scope f cd A outer s H E) [] (Xq N vs) H s1:=by
 have hpl:ps.length≤N.length:=by have:=congrArg List.length S.pre;rw [List.length_take] at this;omega
 obtain ⟨h1,tk,rfl,hk⟩:=x.done
 have noA:∀ b:Addr,b∉(Wa CX P w K mg base N qual scope f cd A outer s H E).ex:=fun b z=>absurd (show b∈([]:List Addr) from z) (by simp)
 refine ⟨⟨e0.mod,S.kind,rfl,rfl,Nat.le_refl _,fun y z c h1 h2=>?_,fun y hy=>?_,fun y c _ h=>?_,fun _=>hd,Around.frames_deeper e0.frames,.inr ⟨rfl,rfl⟩,fun b z=>absurd z (noA b),e0.bs,e0.bsz,fun b _ _=>noA b,fun b z=>absurd z (noA b),e0.funs,e0.frf⟩,
  rfl,e0.bare,Un.kept hk,⟨_,x.toInCall.ns,fun i y v h1 h2 h3=>?_⟩,fun y c h=>⟨_,x.cell y c h⟩,e0.hok.fresh (Nat.le_refl _),fun y c h=>?_,fun p hp=>absurd (show p∈([]:List (Addr×Obj)) from hp) (by simp),e0.hok.kept hk,?_⟩
 ·exact name_of_addr x.apart (PySem.mem_of_lookup h1) (PySem.mem_of_lookup h2)
 ·have hy:scope.names.lookup y=some .cell∨scope.names.lookup y=some .free:=hy
  rcases hy with hy | hy
  ·exact V1 hy
  ·exact absurd rfl (S.nofree _ (PySem.mem_of_lookup hy))
 ·exact Nat.le_of_lt (x.above y c (PySem.mem_of_lookup h))
 ·have hi:i<vs.length:=by
   unfold Xq at h2
   by_cases hi:i<vs.length
   ·exact hi
   ·rw [List.getElem?_append_right (by simpa using hi)] at h2
    rw [List.getElem?_replicate] at h2
    split at h2<;>cases h2
  have ha:vs[i]?=some v:=by
   unfold Xq at h2
   rw [List.getElem?_append_left (by simpa using hi),List.getElem?_map] at h2
   cases e:vs[i]? with
   | none=>rw [e] at h2;cases h2
   | some a=>rw [e] at h2;cases h2;rfl
  obtain ⟨u,hu,rv⟩:=r.get ha
  have hp:ps[i]?=some y:=by
   rw [← S.pre,List.getElem?_take_of_lt (by omega)];exact h1
  have ndP:ps.Nodup:=by rw [← S.pre];exact S.nd.sublist (List.take_sublist _ _)
  refine ⟨u,rv,?_⟩
  rcases S.par y (List.mem_of_getElem? hp) with k | k
  ·exact .inl ⟨k,VC ndP hp hu k⟩
  ·obtain ⟨c,e⟩:=V1 (n:=s.heap.objs.size+1) k
   refine .inr ⟨.inl k,c,e,?_⟩
   have q:=x.cell y c e
   rw [VD ndP hp hu (by show scope.names.lookup y≠_;rw [k];decide)] at q
   exact q
 ·exact e0.hok.fresh (Nat.le_of_lt (x.above y c (PySem.mem_of_lookup h)))
 ·unfold Xq
  show _=N.length
  rw [List.length_append,List.length_map,List.length_replicate]
  omega
theorem Qg {CX:CXT} {P:Program} {w:World} {K:PySem.W.Frag} {mg:Str→Option Value} {base:Heap} {k:Nat} {f:Addr} {name qual:Str} {params:Arguments} {body:List Stmt} {scope:Scope} {dV kV doc pm cdv ct oc:Value} {an od:Option Addr}
  {osl:Array (Option Value)} {N ps:List Str} {sp:Sp} (lk:K.lookup f=some ⟨oc,od,.func (PySem.W.fnOf name qual params body scope dV kV doc pm an cdv ct),osl⟩) (hcd:PySem.W.codeIn K cdv qual=true) (S:FnScope N ps scope)
  (len:∀ vs H Q E,sp vs H Q E→vs.length=ps.length)
  (hbody:∀ (A:Around) (outer:List Env) (s:Shared) (H:Hp) (vs:List V) (Q:VK) (E:XK),Room k (A.deeper (envOfC qual scope s.heap.objs.size f cdv))→sp vs H Q E →
   ∃ t,PSs (Wa CX P w K mg base N qual scope f cdv A outer s H E) body t∧t { nx:=fun _ H'=>Q .non H',rt:=Q } (Xq N vs) H) :
  FnOk P w K mg base CX (k+1) f (PySem.W.fnOf name qual params body scope dV kV doc pm an cdv ct) ps sp:=by
 refine ⟨len,fun A outer s H args us vs Q E hr e0 hb r hsp=>?_⟩
 have hl:=len _ _ _ _ hsp
 have KX:K.In s.heap:=e0.mod.kin.keeps fun b o e=>(e0.bs b o e).1
 have lim:s.heap.NoLimit:=e0.mod.nolimit.keeps fun b o e=>(e0.bs b o e).1
 have hkind:∀ y∈ps.zip us,scope.names.lookup y.1=some .local∨(scope.names.lookup y.1=some .cell∧((cellsFrom (s.heap.objs.size+1) scope.names []).lookup y.1).isSome=true):=fun ⟨n,v⟩ hy=>by
  rcases S.par n (List.of_mem_zip hy).1 with q | q
  ·exact .inl q
  ·exact .inr ⟨q,PySem.W.cellsFrom_some _ _ _ (.inl q)⟩
 refine codeAny_call_function hr.depth (KX _ _ lk) rfl S.co S.gen rfl (PySem.W.codeRec_of KX hcd) (hb _ _ _ _ ?_)
 refine wpAny_newFunctionEnv_cells S.kind hkind fun env he s1 x=>?_
 subst he
 refine ⟨lim.keeps x.toInCall.keep,codeAny_func ?_⟩
 obtain ⟨t,ht,hq⟩:=hbody A outer s H vs Q E (hr.deeper _) hsp
 have I:Inv (Wa CX P w K mg base N qual scope f cdv A outer s H E) [] (Xq N vs) H s1:=QV S hr.hd e0 hl r x
 refine wpAny_mono (ht [] s1 (Xq N vs) H _ I hq) (fun fl s' hs=>?_) fun e s' hs=>hs
 have fin:∀ {σ':St} {H':Hp} {v:V} {u:Value},Inv (Wa CX P w K mg base N qual scope f cdv A outer s H E) [] σ' H' s'→Yo v u→Q v H'→CE outer P w H s Q u s' :=
  fun {σ' H' v u} J rv q=>⟨v,H',J.os,J.bare,J.base,J.hok,rv,q⟩
 cases fl with
 | ret u =>
  obtain ⟨v,σ',H',J,rv,q⟩:=hs
  exact fin J rv q
 | next =>
  obtain ⟨σ',H',J,q⟩:=hs
  exact fin (v:=V.non) (u:=Value.none) J rfl q
 | brk =>
  obtain ⟨_,_,_,q⟩:=hs
  exact False.elim q
 | cont =>
  obtain ⟨_,_,_,q⟩:=hs
  exact False.elim q
end L2
namespace L2
open PySem PySem.Spec PyProof.Rows
section
variable {X:Cx} {x:Str} {p pos:Pos} {e:Expr} {es:List Expr} {t:TA} {id T:String} {r:List V→Hp→VK→Prop}
def tCB (r:List V→Hp→VK→Prop) (t:TA):TE:=fun σ H Q=>t σ H fun vs H1=>r vs H1 Q
theorem YaE (hc:YX X (.builtin id) r) (hg:Gl X x) (hm:X.mg x=none) (hv:bootBuiltins x=some (.builtin id)) (ha:PA X (e::es) t) (hn:x≠"__name__":=by decide) (hdb:(x==("__debug__":Str))=false:=by decide)
  (he:starEach (e::es) X.env=(false,eval e X.env)::starEach es X.env:=by rfl) (hpl:(backTo pos (starEach es X.env)).any (·.1)=false:=by rfl):PE X (.Call (.Name x p) (e::es) [] pos) (tCB r t):=by
 intro pins s σ H Q I h
 refine wpAny_Call_Name_kw (WX I hg hm hv ?_ hn hdb)
 exact PyProof.Rows.callWith_builtin1 (thn (ha pos pins s σ H _ I h) fun us s1 ⟨vs,H1,I1,r1,q1⟩=>hc pins s1 σ H1 vs us Q I1 r1 q1) he hpl
theorem QW (hc:YX X (.type T) r) (hg:Gl X x) (hm:X.mg x=none) (hv:bootBuiltins x=some (.type T)) (ha:PA X (e::es) t) (hn:x≠"__name__":=by decide) (hdb:(x==("__debug__":Str))=false:=by decide)
  (he:starEach (e::es) X.env=(false,eval e X.env)::starEach es X.env:=by rfl) (hpl:(backTo pos (starEach es X.env)).any (·.1)=false:=by rfl):PE X (.Call (.Name x p) (e::es) [] pos) (tCB r t):=by
 intro pins s σ H Q I h
 refine wpAny_Call_Name_kw (WX I hg hm hv ?_ hn hdb)
 exact PyProof.Rows.callWith_type1 (thn (ha pos pins s σ H _ I h) fun us s1 ⟨vs,H1,I1,r1,q1⟩=>hc pins s1 σ H1 vs us Q I1 r1 q1) he hpl
end
end L2
namespace HT
open PySem PyProof.Rows
section
open PySem.SeqAt
open PySem.AutoSeq1 (wpAny_loadPart')
open PySem.MeetsSeq PySem.MeetsSeq2 PySem.MeetsSeq3
end
section
variable {prog:Program} {w:World} {A:Around} {E:Value→Shared→Prop} {s:Shared}
def sIx (n d:Nat):Option Int→Nat
 | none=>d
 | some v=>if v<0 then (v+(n:Int)).toNat else min v.toNat n
theorem sIx_none (n d:Nat):sIx n d none=d:=rfl
theorem sIx_nat (n d k:Nat):sIx n d (some (k:Int))=min k n:=by
 show (if (k:Int)<0 then ((k:Int)+(n:Int)).toNat else min (k:Int).toNat n)=min k n
 rw [if_neg (by omega),Int.toNat_natCast]
theorem sIx_le (n d:Nat) (hd:d≤n) (o:Option Int):sIx n d o≤n:=by
 cases o with
 | none=>exact hd
 | some v =>
  show (if v<0 then (v+(n:Int)).toNat else min v.toNat n)≤n
  by_cases hv:v<0
  ·rw [if_pos hv];omega
  ·rw [if_neg hv];exact Nat.min_le_right _ _
end
end HT
namespace L2
open PySem PySem.Spec PyProof.Rows
abbrev TO:=St→Hp→(Option Int→Hp→Prop)→Prop
def PO (X:Cx) (e:Option Expr) (t:TO):Prop :=
 ∀ (pins:List (Addr×Obj)) (s:Shared) (σ:St) (H:Hp) (Q:Option Int→Hp→Prop),Inv X pins σ H s→t σ H Q →
  wpAny (model X.prog X.w) X.A (evalPart e X.env) (fun u s'=>∃ o H',Inv X pins σ H' s'∧IsPart u o∧Q o H') X.xe s
def UO:TO:=fun _ H Q=>Q none H
def Ya1 (t:TE):TO:=fun σ H Q=>t σ H fun x H1=>∃ i,x = .int i∧Q (some i) H1
section
variable {X:Cx} {e:Expr} {te:TE} {lo hi:Option Expr} {tl th:TO} {pos p2:Pos}
theorem YbC:PO X none UO:=by
 intro pins s σ H Q I h
 rw [evalPart_none]
 exact wpAny_pure ⟨none,H,I,.none,h⟩
theorem X4 (h:PE X e te):PO X (some e) (Ya1 te):=by
 intro pins s σ H Q I hw
 rw [evalPart_some]
 refine thn (h pins s σ H _ I hw) fun u s1 ⟨x,H1,I1,r1,q1⟩=>?_
 obtain ⟨i,rfl,q⟩:=q1
 obtain ⟨t,rfl⟩:=r1
 exact ⟨some i,H1,I1,.int i t,q⟩
def SlR (X:Cx) (r:V→Option Int→Option Int→Hp→VK→Prop):Prop :=
 ∀ (pins:List (Addr×Obj)) (s:Shared) (σ:St) (H:Hp) (x:V) (v vl vu:Value) (lo hi:Option Int) (sl:Addr) (Q:VK),Inv X pins σ H s→Yo x v→s.heap.IsSliceOf sl vl vu .none→IsPart vl lo→IsPart vu hi→r x lo hi H Q →
  ∃ T id,typeLookup (.type T) "__getitem__"=pure (some (.builtin id))∧s.TypeIs v T∧wpAny (model X.prog X.w) X.A (getItem v (.ref sl)) (EP X pins σ Q) X.xe s
def tSl (r:V→Option Int→Option Int→Hp→VK→Prop) (te:TE) (tl th:TO):TE:=fun σ H Q=>te σ H fun x H1=>tl σ H1 fun l H2=>th σ H2 fun u H3=>r x l u H3 Q
theorem WM {r:V→Option Int→Option Int→Hp→VK→Prop} (hr:SlR X r) (he:PE X e te) (hl:PO X lo tl) (hu:PO X hi th):PE X (.Subscript e (.Slice lo hi none p2) pos) (tSl r te tl th):=by
 intro pins s σ H Q I h
 refine Subscript_ (thn (he pins s σ H _ I h) fun v s1 ⟨x,H1,I1,r1,q1⟩=>?_)
 refine wpAny_Slice (thn (hl pins s1 σ H1 _ I1 q1) fun vl s2 ⟨l,H2,I2,pl,q2⟩=>thn (hu pins s2 σ H2 _ I2 q2) fun vu s3 ⟨u,H3,I3,pu,q3⟩=>?_)
 rw [evalPart_none]
 refine wpAny_pure ?_
 have I4:Inv X pins σ H3 { s3 with heap:=s3.heap.push { cls := .type "slice",data := .fields #[vl,vu,.none] } }:=I3.kept (t':=s3.toks) fun b ob q=>Heap.get?_push_of_some _ q
 obtain ⟨T,id,hT,ht,hg⟩:=hr pins { s3 with heap:=s3.heap.push { cls := .type "slice",data := .fields #[vl,vu,.none] } } σ H3 x v vl vu l u s3.heap.objs.size Q I4 r1 (Heap.IsSliceOf.new ..) pl pu q3
 show wpAny (model X.prog X.w) X.A (subscriptTail e (.Slice lo hi none p2) v (.ref s3.heap.objs.size)) (EP X pins σ Q) X.xe { s3 with heap:=s3.heap.push { cls := .type "slice",data := .fields #[vl,vu,.none] } }
 exact tail_any (ops:=[.ref s3.heap.objs.size,v]) ht hT hg (by with_unfolding_all rfl)
def cutV (xs:List V) (lo hi:Option Int):List V:=(xs.drop (HT.sIx xs.length 0 lo)).take (HT.sIx xs.length xs.length hi - HT.sIx xs.length 0 lo)
end
end L2
namespace L2
open PySem PySem.Spec PyProof.Rows
def ixN (n:Nat) (i:Int):Option Nat:=if 0≤i then (if i<n then some i.toNat else none) else if -(n:Int)≤i then some (i+n).toNat else none
def atI {α:Type} (xs:List α) (i:Int):Option α:=(ixN xs.length i).bind fun j=>xs[j]?
theorem YbD {n:Nat} {i:Int} {j:Nat} (h:ixN n i=some j):seqIndex? i n=some j∧j<n ∧ -(n:Int)≤i∧i<n:=by
 unfold ixN at h
 by_cases h0:0≤i
 ·rw [if_pos h0] at h
  by_cases h1:i<n
  ·rw [if_pos h1] at h
   have e:i.toNat=j:=Option.some.inj h
   exact ⟨by rw [seqIndex_of h0 h1,e],by omega,by omega,h1⟩
  ·rw [if_neg h1] at h;cases h
 ·rw [if_neg h0] at h
  by_cases h1 : -(n:Int)≤i
  ·rw [if_pos h1] at h
   have e:(i+n).toNat=j:=Option.some.inj h
   exact ⟨by rw [seqIndex_neg (by omega) h1,e],by omega,h1,by omega⟩
  ·rw [if_neg h1] at h;cases h
theorem Vj {α:Type} {xs:List α} {i:Int} {v:α} (h:atI xs i=some v):∃ j,seqIndex? i xs.length=some j∧xs[j]?=some v∧j<xs.length ∧ -(xs.length:Int)≤i∧i<xs.length:=by
 unfold atI at h
 cases e:ixN xs.length i with
 | none=>rw [e] at h;cases h
 | some j =>
  rw [e] at h
  obtain ⟨h1,h2,h3,h4⟩:=YbD e
  exact ⟨j,h1,h,h2,h3,h4⟩
theorem Y6 {α:Type} {xs:List α} {j:Nat} {v:α} (h:xs[j]?=some v):atI xs (j:Int)=some v:=by
 have hj:j<xs.length:=(List.getElem?_eq_some_iff.mp h).1
 have e:ixN xs.length (j:Int)=some j:=by
  unfold ixN
  rw [if_pos (by omega),if_pos (by omega)];simp
 unfold atI;rw [e];exact h
def YbE (b:Expr):Prop:=∀ o i,subscripted b false o i=operate [o,i] (getItem o i)
def IxR (X:Cx) (r:R2):Prop :=
 ∀ (value slice:Expr) (pins:List (Addr×Obj)) (s:Shared) (σ:St) (H:Hp) (x y:V) (v u:Value) (Q:VK),Inv X pins σ H s→Yo x v→Yo y u→r x y H Q →
  subscripted slice false v u=operate [v,u] (getItem v u)→wpAny (model X.prog X.w) X.A (subscriptTail value slice v u) (EP X pins σ Q) X.xe s
def MtR (X:Cx) (id:String) (r:V→List V→Hp→VK→Prop):Prop :=
 ∀ (pins:List (Addr×Obj)) (s:Shared) (σ:St) (H:Hp) (x:V) (xs:List V) (v:Value) (us:List Value) (Q:VK),Inv X pins σ H s→Yo x v→Yi xs us→r x xs H Q →
  wpAny (model X.prog X.w) X.A (call (.builtin id) (v::us)) (EP X pins σ Q) X.xe s
section
variable {X:Cx} {a b:Expr} {ta tb:TE} {pos:Pos}
theorem Yz {r:R2} (hr:IxR X r) (ha:PE X a ta) (hb:PE X b tb) (hs:YbE b):PE X (.Subscript a b pos) (tOp r ta tb):=by
 intro pins s σ H Q I h
 exact Subscript_ (binT ha hb I h fun v u s2 x y H2 I2 rx ry q=>hr a b pins s2 σ H2 x y v u Q I2 rx ry q (hs _ _))
def rIxL (K:PySem.W.Frag):R2:=fun x y H Q=>∃ p xs i v,x = .ref p∧y = .int i∧SqL K H p xs∧atI xs i=some v∧Q v H
def rIxT (K:PySem.W.Frag):R2:=fun x y H Q=>∃ p xs i v,x = .ref p∧y = .int i∧SqT K H p xs∧atI xs i=some v∧Q v H
def rIxS:R2:=fun x y H Q=>∃ z i c,x = .str z∧y = .int i∧z.length≤sizeLine∧atI z.cps.toList i=some c∧Q (.str ⟨#[c]⟩) H
theorem Xu:IxR X (rIxL X.K):=by
 intro value slice pins s σ H x y v u Q I rx ry h hs
 obtain ⟨p,xs,i,z,rfl,rfl,hq,he,q⟩:=h
 cases rx
 obtain ⟨t,rfl⟩:=ry
 obtain ⟨its,r,pl,hz⟩:=I.list hq
 obtain ⟨j,h1,h2,h3,h4,h5⟩:=Vj he
 obtain ⟨w,ew,rw'⟩:=r.get h2
 have hl:=r.length
 have hn:=Wm
 have fin:EP X pins σ Q w s:=⟨z,H,I,rw',q⟩
 by_cases h0:0≤i
 ·have hj:i.toNat=j:=by
   rw [seqIndex_of h0 h5] at h1
   exact Option.some.inj h1
  exact item_listR pl.isList h0 (by omega) (by rw [hj];simpa using ew) fin hs
 ·have hj:(i+(its.toArray.size:Int)).toNat=j:=by
   rw [seqIndex_neg (by omega) h4] at h1
   rw [List.size_toArray,← hl]
   exact Option.some.inj h1
  exact subscriptTail_builtinR (x:=w) pl.isList.typeIs slot_list_getitem.lookup
   (wpAny_getItem_list_neg (Q:=fun r s'=>r=w∧EP X pins σ Q r s') pl.isList (by omega) (by rw [List.size_toArray]<;>omega) (by omega) (by rw [hj];simpa using ew) ⟨rfl,fin⟩) hs
theorem YG:IxR X (rIxT X.K):=by
 intro value slice pins s σ H x y v u Q I rx ry h hs
 obtain ⟨p,xs,i,z,rfl,rfl,hq,he,q⟩:=h
 cases rx
 obtain ⟨t,rfl⟩:=ry
 obtain ⟨its,r,pl,hz⟩:=I.tuple hq
 obtain ⟨j,h1,h2,h3,h4,h5⟩:=Vj he
 obtain ⟨w,ew,rw'⟩:=r.get h2
 have hl:=r.length
 have hn:=Wm
 have fin:EP X pins σ Q w s:=⟨z,H,I,rw',q⟩
 exact subscriptTail_builtinR (x:=w) pl.typeIs slot_tuple_getitem.lookup
  (getItem_tuple (j:=j) (Q:=fun r s'=>r=w∧EP X pins σ Q r s') pl (by omega) (by omega) (by rw [List.size_toArray,← hl];exact h1) (by simpa using ew) ⟨rfl,fin⟩) hs
theorem Ycv:IxR X rIxS:=by
 intro value slice pins s σ H x y v u Q I rx ry h hs
 obtain ⟨z,i,c,rfl,rfl,hz,he,q⟩:=h
 obtain ⟨t,rfl⟩:=rx
 obtain ⟨t',rfl⟩:=ry
 obtain ⟨j,h1,h2,h3,h4,h5⟩:=Vj he
 have hl:z.cps.toList.length=z.length:=by simp [Str.length]
 rw [hl] at h1 h4 h5
 have hn:=Wm
 exact tail_any (typeIs_str s z t) slot_str_getitem.lookup (getItem_str (c:=c) (by
  have e1:decide (i < -(2^63:Int))=false:=decide_eq_false (by omega)
  have e2:decide (i≥2^63)=false:=decide_eq_false (by omega)
  rw [e1,e2,Bool.or_false]) (by rw [h1];simpa using h2) ⟨.str ⟨#[c]⟩,H,I.tok _,⟨_,rfl⟩,q⟩) hs
theorem Inv.lst {pins:List (Addr×Obj)} {σ:St} {H:Hp} {s:Shared} {p:Addr} {xs:List V} (I:Inv X pins σ H s) (h:H p=some (.lst xs)) :
  ∃ (its:List Value) (n:Nat),Yi xs its∧s.heap.get? p=some { cls := .type "list",data := .seq its.toArray n }∧xs.length≤sizeLine:=by
 obtain ⟨z,its,n,r,e⟩:=I.hok p _ h
 exact ⟨its,n,r,e,z⟩
def rSetL:V→V→V→Hp→(Hp→Prop)→Prop:=fun o i v H Q=>∃ p xs k j,o = .ref p∧i = .int k∧H p=some (.lst xs)∧ixN xs.length k=some j∧Q (upd H p (.lst (xs.set j v)))
def rSlL (K:PySem.W.Frag):V→Option Int→Option Int→Hp→VK→Prop:=fun x lo hi H Q=>∃ a xs,x = .ref a∧SqL K H a xs∧∀ p,H p=none→Q (.ref p) (upd H p (.lst (cutV xs lo hi)))
def XX:V→Bool
 | .non=>true
 | .bl _=>true
 | .int _=>true
 | .str _=>true
 | _=>false
def eqV:V→V→Bool
 | .non,.non=>true
 | .bl a,.bl b=>a==b
 | .bl a,.int b=>(if a then 1 else 0)==b
 | .int a,.bl b=>a==(if b then 1 else 0)
 | .int a,.int b=>a==b
 | .str a,.str b=>a==b
 | _,_=>false
theorem Ycw {A:Around} {s:Shared} {y x:V} {u v:Value} (ry:Yo y u) (rx:Yo x v) (fy:XX y=true) (fx:XX x=true):SeqAt.EqAt A s u v (eqV y x):=by
 cases y with
 | non =>
  cases ry
  cases x with
  | non=>cases rx;exact SeqAt.EqAt.same _
  | bl b=>cases rx;exact SeqAt.EqAt.none_bool b
  | int b=>obtain ⟨t,rfl⟩:=rx;exact SeqAt.EqAt.none_int b t
  | str b=>obtain ⟨t,rfl⟩:=rx;exact SeqAt.EqAt.none_str b t
  | _=>exact absurd (show false=true from fx) Bool.false_ne_true
 | bl a =>
  cases ry
  cases x with
  | non=>cases rx;exact SeqAt.EqAt.bool_none a
  | bl b=>cases rx;exact SeqAt.EqAt.bool_bool a b
  | int b=>obtain ⟨t,rfl⟩:=rx;exact SeqAt.EqAt.bool_int a b t
  | str b=>obtain ⟨t,rfl⟩:=rx;exact SeqAt.EqAt.bool_str a b t
  | _=>exact absurd (show false=true from fx) Bool.false_ne_true
 | int a =>
  obtain ⟨t',rfl⟩:=ry
  cases x with
  | non=>cases rx;exact SeqAt.EqAt.int_none a t'
  | bl b=>cases rx;exact SeqAt.EqAt.int_bool a t' b
  | int b=>obtain ⟨t,rfl⟩:=rx;exact SeqAt.EqAt.int_int a t' b t
  | str b=>obtain ⟨t,rfl⟩:=rx;exact SeqAt.EqAt.int_str a t' b t
  | _=>exact absurd (show false=true from fx) Bool.false_ne_true
 | str a =>
  obtain ⟨t',rfl⟩:=ry
  cases x with
  | non=>cases rx;exact SeqAt.EqAt.str_none a t'
  | bl b=>cases rx;exact SeqAt.EqAt.str_bool a t' b
  | int b=>obtain ⟨t,rfl⟩:=rx;exact SeqAt.EqAt.str_int a t' b t
  | str b=>obtain ⟨t,rfl⟩:=rx;exact SeqAt.EqAt.str_str a t' b t
  | _=>exact absurd (show false=true from fx) Bool.false_ne_true
 | _=>exact absurd (show false=true from fy) Bool.false_ne_true
def eqU (x:V) (u:Value):Bool:=match u with
 | .none=>eqV .non x
 | .bool b=>eqV (.bl b) x
 | .int i _=>eqV (.int i) x
 | .str z _=>eqV (.str z) x
 | _=>false
theorem QX {x y:V} {u:Value} (r:Yo y u) (f:XX y=true):eqU x u=eqV y x:=by
 cases y with
 | non=>cases r;rfl
 | bl b=>cases r;rfl
 | int i=>obtain ⟨t,rfl⟩:=r;rfl
 | str z=>obtain ⟨t,rfl⟩:=r;rfl
 | _=>exact absurd (show false=true from f) Bool.false_ne_true
theorem Vk {x:V}:∀ {xs:List V} {us:List Value},Yi xs us→xs.all XX=true→us.any (eqU x)=xs.any fun y=>eqV y x
 | _,_,.nil,_=>rfl
 | y::xs,u::us,.cons r t,f=>by
  rw [List.all_cons,Bool.and_eq_true] at f
  rw [List.any_cons,List.any_cons,QX r f.1,Vk t f.2]
theorem WN {A:Around} {s:Shared} {x:V} {v:Value} (rx:Yo x v) (fx:XX x=true):∀ {xs:List V} {us:List Value},Yi xs us→xs.all XX=true→∀ u∈us,SeqAt.EqAt A s u v (eqU x u)
 | _,_,.nil,_=>fun u hu=>by cases hu
 | y::xs,u::us,.cons r t,f=>fun u' hu=>by
  rw [List.all_cons,Bool.and_eq_true] at f
  rcases List.mem_cons.mp hu with rfl | hu
  ·rw [QX r f.1];exact Ycw r rx f.1 fx
  ·exact WN rx fx t f.2 u' hu
def inV (x:V) (xs:List V):Bool:=xs.any fun y=>eqV y x
def rIn (K:PySem.W.Frag) (neg:Bool):R2:=fun x y H Q=>∃ p xs,y = .ref p∧(SqL K H p xs∨SqT K H p xs)∧XX x=true∧xs.all XX=true∧Q (.bl (if neg then !inV x xs else inV x xs)) H
theorem XY:OpR X (compareOp .In) (rIn X.K false):=by
 intro pins s σ H x y v u Q I rx ry h
 obtain ⟨p,xs,rfl,hq,fx,fs,q⟩:=h
 cases ry
 rcases hq with hq | hq
 ·obtain ⟨its,r,pl,hz⟩:=I.list hq
  refine SeqAt.in_listAt (eqU x) pl.isList (fun w hw=>WN rx fx r fs w (by simpa using hw)) ⟨.bl _,H,I,rfl,?_⟩
  rw [show its.toArray.any (eqU x)=its.any (eqU x) by simp,Vk r fs]
  exact q
 ·obtain ⟨its,r,pl,hz⟩:=I.tuple hq
  refine SeqAt.in_tupleAt (eqU x) pl (fun w hw=>WN rx fx r fs w (by simpa using hw)) ⟨.bl _,H,I,rfl,?_⟩
  rw [show its.toArray.any (eqU x)=its.any (eqU x) by simp,Vk r fs]
  exact q
theorem Wo:YX X (.builtin "len") (fun xs H Q=>∃ p ys,xs=[.ref p]∧(SqL X.K H p ys∨SqT X.K H p ys)∧Q (.int ys.length) H):=by
 intro pins s σ H xs us Q I r h
 obtain ⟨p,ys,rfl,hq,q⟩:=h
 obtain ⟨u,rfl,rx⟩:=XW r
 cases rx
 have hn:=Wm
 rcases hq with hq | hq
 ·obtain ⟨its,r',pl,hz⟩:=I.list hq
  have hlen:=r'.length
  exact Calls.call_len_list pl.isList (by simp only [List.size_toArray]<;>omega) ⟨.int ys.length,H,I.tok _,⟨s.toks+1,by rw [List.size_toArray,hlen]⟩,q⟩
 ·obtain ⟨its,r',pl,hz⟩:=I.tuple hq
  have hlen:=r'.length
  exact len_tuple pl (by simp only [List.size_toArray]<;>omega) ⟨.int ys.length,H,I.tok _,⟨s.toks+1,by rw [List.size_toArray,hlen]⟩,q⟩
theorem Xb:YX X (.builtin "len") (fun xs H Q=>∃ z,xs=[.str z]∧z.length≤sizeLine∧Q (.int z.length) H):=by
 intro pins s σ H xs us Q I r h
 obtain ⟨z,rfl,hz,q⟩:=h
 obtain ⟨u,rfl,t,rfl⟩:=XW r
 have hn:=Wm
 exact len_str (by omega) ⟨.int z.length,H,I.tok _,⟨_,rfl⟩,q⟩
theorem V2:YX X (.type "list") (fun xs H Q=>∃ p ys,xs=[.ref p]∧(SqL X.K H p ys∨SqT X.K H p ys)∧∀ l,H l=none→Q (.ref l) (upd H l (.lst ys))):=by
 intro pins s σ H xs us Q I r h
 obtain ⟨p,ys,rfl,hq,q⟩:=h
 obtain ⟨u,rfl,rx⟩:=XW r
 cases rx
 have fin:∀ (its:List Value),Yi ys its→ys.length≤sizeLine→∀ (h':Heap) (c':Nat),(∀ b o',s.heap.get? b=some o'→h'.get? b=some o') →
   h'.get? s.heap.objs.size=some { cls := .type "list",dict:=none,data := .seq its.toArray c',slots:=#[] }→EP X pins σ Q (.ref s.heap.objs.size) { s with heap:=h' }:=fun its r' hz h' c' kp e =>
  ⟨.ref s.heap.objs.size,_,I.laid (t':=s.toks) kp (Nat.le_refl _) (show YD X.prog X.w _ h' _ (.lst ys) from ⟨hz,its,c',r',e⟩),rfl,q _ (I.hok.fresh (Nat.le_refl _))⟩
 rcases hq with hq | hq
 ·obtain ⟨its,r',pl,hz⟩:=I.list hq
  have hlen:=r'.length
  obtain ⟨o,ho,hc,n,hd⟩:=pl.isList
  exact call_list_seq p (.inl rfl) ho hc hd (fun h' c' kp e=>fin its r' hz h' c' kp e) (by simp only [List.size_toArray]<;>omega)
 ·obtain ⟨its,r',pl,hz⟩:=I.tuple hq
  have hlen:=r'.length
  obtain ⟨o,ho,hc,n,hd⟩:=pl
  exact call_list_seq p (.inr rfl) ho hc hd (fun h' c' kp e=>fin its r' hz h' c' kp e) (by simp only [List.size_toArray]<;>omega)
theorem Wj:YX X (.type "tuple") (fun xs H Q=>∃ p ys,xs=[.ref p]∧((SqL X.K H p ys∧∀ l,H l=none→Q (.ref l) (upd H l (.tup ys)))∨(SqT X.K H p ys∧Q (.ref p) H))):=by
 intro pins s σ H xs us Q I r h
 obtain ⟨p,ys,rfl,h⟩:=h
 obtain ⟨u,rfl,rx⟩:=XW r
 cases rx
 rcases h with ⟨hq,q⟩ | ⟨hq,q⟩
 ·obtain ⟨its,r',pl,hz⟩:=I.list hq
  have hlen:=r'.length
  refine call_tuple_list pl.isList (fun h' kp=>?_) (by simp only [List.size_toArray]<;>omega)
  have I1:Inv X pins σ H { s with heap:=h' }:=I.kept (t':=s.toks) kp
  have I2:Inv X pins σ (upd H h'.objs.size (.tup ys)) { s with heap:=h'.push { cls := .type "tuple",data := .seq its.toArray } } :=
   I1.laid (t':=s.toks) (fun b o e=>Heap.get?_push_of_some _ e) (Nat.le_refl _) (show YD X.prog X.w _ _ _ (.tup ys) from ⟨hz,its,r',IsTup.new _ _⟩)
  exact ⟨.ref h'.objs.size,_,I2,rfl,q _ (I1.hok.fresh (Nat.le_refl _))⟩
 ·obtain ⟨its,r',pl,hz⟩:=I.tuple hq
  exact call_tuple_same pl ⟨.ref p,H,I,rfl,q⟩
def tyV (K:PySem.W.Frag) (T:String) (x:V) (H:Hp):Prop:=match x with
 | .str _=>T="str"
 | .int _=>T="int"
 | .ref p=>(T="list"∧∃ xs,SqL K H p xs)∨(T="tuple"∧∃ o,K.lookup p=some o∧o.cls = .type "tuple"∧o.dict=none) ∨
   (T="dict"∧((∃ kvs,H p=some (.dK kvs))∨∃ kvs,H p=some (.dT kvs)))∨(T="set"∧∃ S n,H p=some (.set S n))
 | _=>False
theorem Ycx {pins:List (Addr×Obj)} {σ:St} {H:Hp} {s:Shared} {T:String} {x:V} {v:Value} (I:Inv X pins σ H s) (r:Yo x v) (ty:tyV X.K T x H) :
  s.TypeIs v T∧∀ a,v = .ref a→∃ ob,s.heap.get? a=some ob∧ob.dict=none:=by
 cases x with
 | str z =>
  obtain ⟨t,rfl⟩:=r
  cases (show T="str" from ty)
  exact ⟨typeIs_str s z t,fun _ e=>nomatch e⟩
 | int i =>
  obtain ⟨t,rfl⟩:=r
  cases (show T="int" from ty)
  exact ⟨typeIs_int s i t,fun _ e=>nomatch e⟩
 | ref p =>
  cases r
  rcases ty with ⟨rfl,xs,hq⟩ | ⟨rfl,o,hk,hc,hd⟩ | ⟨rfl,hk⟩ | ⟨rfl,S,n,hk⟩
  ·obtain ⟨its,_,pl,_⟩:=I.list hq
   refine ⟨pl.isList.typeIs,fun a e=>?_⟩
   cases e
   obtain ⟨o,n,e,c,hd,_⟩:=pl
   exact ⟨o,e,hd⟩
  ·refine ⟨⟨o,I.kIn p o hk,hc⟩,fun a e=>?_⟩
   cases e
   exact ⟨o,I.kIn _ o hk,hd⟩
  ·have z:∃ o,s.heap.get? p=some o∧o.ExactDict:=by
    rcases hk with ⟨kvs,hk⟩ | ⟨kvs,hk⟩
    ·obtain ⟨_,_,_,_,o,_,_,e,ex,_⟩:=I.hok p _ hk
     exact ⟨o,e,ex⟩
    ·obtain ⟨_,_,_,_,o,_,_,e,ex,_⟩:=I.hok p _ hk
     exact ⟨o,e,ex⟩
   obtain ⟨o,e,ex⟩:=z
   refine ⟨⟨o,e,ex.1⟩,fun a e2=>?_⟩
   cases e2
   exact ⟨o,e,ex.2.1⟩
  ·obtain ⟨o,_,_,_,e,ex,_⟩:=I.hok p _ hk
   refine ⟨⟨o,e,ex.1⟩,fun a e2=>?_⟩
   cases e2
   exact ⟨o,e,ex.2.1⟩
 | _=>exact False.elim ty
def tBM0 (K:PySem.W.Frag) (T:String) (r:V→List V→Hp→VK→Prop) (to:TE):TE:=fun σ H Q=>to σ H fun x H1=>tyV K T x H1∧r x [] H1 Q
def tBM (K:PySem.W.Frag) (T:String) (r:V→List V→Hp→VK→Prop) (to:TE) (t:TA):TE:=fun σ H Q=>to σ H fun x H1=>tyV K T x H1∧t σ H1 fun xs H2=>r x xs H2 Q
variable {o e:Expr} {es:List Expr} {to:TE} {t:TA} {name:Str} {apos cpos:Pos} {T id:String} {r:V→List V→Hp→VK→Prop}
theorem VP (pa:PlainAttrs T) (slot:Slot T name id) (hty:typeOf (.builtin id)=pure (.type "method_descriptor")) (hm:MtR X id r) (ho:PE X o to) (ha:PA X (e::es) t)
  (hbase:attributeBase o name X.env (eval o X.env)=eval o X.env)
  (hfew:((backTo cpos (starEach (e::es) X.env)).all (fun x => !x.1)&&(backToKw cpos (keywordEach [] X.env)).all (fun x=>x.1.isSome)
   && decide ((e::es).length+([]:List Keyword).length+(if ([]:List Keyword).isEmpty then 0 else 1)<30))=true)
  (hline:(apos.endLine==cpos.line)=true) (hs:starEach (e::es) X.env=(false,eval e X.env)::starEach es X.env) (hplain:(backTo cpos (starEach es X.env)).any (·.1)=false) :
  PE X (.Call (.Attribute o name apos) (e::es) [] cpos) (tBM X.K T r to t):=by
 intro pins s σ H Q I h
 refine wpAny_Call_method_late hbase hfew hline rfl (thn (ho pins s σ H _ I h) fun v s1 ⟨x,H1,I1,r1,ty,q1⟩=>?_)
 obtain ⟨h1,h2⟩:=Ycx I1 r1 ty
 refine ⟨T,id,pa,slot,hty,h1,h2,?_⟩
 have hA:=ha cpos pins s1 σ H1 _ I1 q1
 rw [hs] at hA ⊢
 refine Calls.callWith_builtin (by show (false||(backTo cpos (starEach es X.env)).any (·.1))=false;rw [hplain]<;>rfl) (Calls.evalArgs_plain ?_)
 exact thn hA fun us s2 ⟨vs,H2,I2,r2,q2⟩=>hm pins s2 σ H2 x vs v us Q I2 r1 r2 q2
/- xs.append(e),list.index on a module's tuple .. are MtR facts of 06m -/
end
end L2
namespace L2
open PySem PySem.Spec PyProof.Rows
def MtM (X:Cx) (id:String) (r:V→List V→Hp→VK→Prop):Prop :=
 ∀ (pins:List (Addr×Obj)) (s:Shared) (σ:St) (H:Hp) (x:V) (xs:List V) (v:Value) (us:List Value) (Q:VK),Inv X pins σ H s→Yo x v→Yi xs us→r x xs H Q →
  wpAny (model X.prog X.w) X.A (call (.builtin id) (v::us)) (EP X pins σ Q) X.xe s
theorem Yi.one:∀ {x:V} {us:List Value},Yi [x] us→∃ u,us=[u]∧Yo x u
 | _,_,.cons r .nil=>⟨_,rfl,r⟩
theorem Yi.zero:∀ {us:List Value},Yi [] us→us=[]
 | _,.nil=>rfl
theorem Yi.reverse {xs:List V} {us:List Value} (h:Yi xs us):Yi xs.reverse us.reverse:=by
 induction h with
 | nil=>exact .nil
 | cons r t ih=>rw [List.reverse_cons,List.reverse_cons];exact Yi.append ih (.cons r .nil)
section
variable {X:Cx} {pins:List (Addr×Obj)} {σ:St} {H:Hp} {s:Shared} {l b:Addr} {xs ys zs:List V}
theorem Inv.lset {its its':List Value} {n:Nat} {f:Array Value→Array Value} {t':Nat} (I:Inv X pins σ H s) (hH:H l=some (.lst xs))
  (e:s.heap.get? l=some { cls := .type "list",data := .seq its.toArray n }) (hf:f its.toArray=its'.toArray) (hv:Yi ys its') (hz:ys.length≤sizeLine) :
  Inv X pins σ (upd H l (.lst ys)) { s with heap:=s.heap.update l (Obj.mapSeq f),toks:=t' }:=by
 have q:=PySem.IsL.update e f
 rw [hf] at q
 refine I.write (x:=l) (e:=l) (by rw [hH];exact trivial) (.inl rfl) (fun b' u hb hu=>(Heap.get?_update_other s.heap (Obj.mapSeq f) (Ne.symm hb)).trans hu) ⟨_,q⟩ ?_
 exact ⟨hz,its',_,hv,q⟩
theorem Inv.lnew {its:List Value} {t':Nat} (I:Inv X pins σ H s) (hv:Yi ys its) (hz:ys.length≤sizeLine) :
  Inv X pins σ (upd H s.heap.objs.size (.lst ys)) { s with heap:=s.heap.push { cls := .type "list",data := .seq its.toArray },toks:=t' } :=
 I.laid (fun _ _ q=>Heap.get?_push_of_some _ q) (Nat.le_refl _) ⟨hz,its,0,hv,Heap.get?_push_size _ rfl⟩
theorem Inv.fresh (I:Inv X pins σ H s):H s.heap.objs.size=none:=I.hok.fresh (Nat.le_refl _)
theorem Inv.lstM (I:Inv X pins σ H s) (hH:H l=some (.lst xs)):xs.length≤sizeLine∧∃ (its:List Value) (n:Nat),Yi xs its∧xs.length=its.length∧s.heap.get? l=some { cls := .type "list",data := .seq its.toArray n }:=by
 obtain ⟨z,its,n,r,e⟩:=I.hok l _ hH
 exact ⟨z,its,n,r,r.length,e⟩
end
section
variable {X:Cx}
def UP:V→List V→Hp→VK→Prop:=fun x vs H Q=>∃ l xs y,x = .ref l∧vs=[y]∧H l=some (.lst xs)∧xs.length<sizeLine∧Q .non (upd H l (.lst (xs++[y])))
theorem XA:MtM X "list.append" UP:=by
 intro pins s σ H x vs v us Q I rx rv h
 obtain ⟨l,xs,y,rfl,rfl,hH,hz,q⟩:=h
 cases rx
 obtain ⟨u,rfl,ru⟩:=rv.one
 obtain ⟨z,its,n,r,hl,e⟩:=I.lstM hH
 refine call_meets F.slot_list_append ⟨_,e,rfl⟩ F.entry_list_append (F.args_list_append_2 _ _) (PySem.list_append l its.toArray n u (by rw [List.size_toArray];omega)) ⟨e,?_⟩
 refine ⟨.non,_,I.lset (its':=its++[u]) hH e (by simp) (r.append (.cons ru .nil)) ?_,rfl,q⟩
 rw [List.length_append,List.length_singleton]
 omega
def YaF:V→List V→Hp→VK→Prop:=fun x vs H Q=>∃ l xs,x = .ref l∧vs=[]∧H l=some (.lst xs)∧Q .non (upd H l (.lst xs.reverse))
def rCat:R2:=fun x y H Q=>∃ l b xs zs,x = .ref l∧y = .ref b∧H l=some (.lst xs)∧H b=some (.lst zs)∧xs.length+zs.length≤sizeLine∧∀ p,H p=none→Q (.ref p) (upd H p (.lst (xs++zs)))
theorem XQ:OpR X (binaryOp .Add) rCat:=by
 intro pins s σ H x y v u Q I rx ry h
 obtain ⟨l,b,xs,zs,rfl,rfl,hH,hB,hz,q⟩:=h
 cases rx
 cases ry
 obtain ⟨z,its,n,r,hl,e⟩:=I.lstM hH
 obtain ⟨z2,its2,n2,r2,hl2,e2⟩:=I.lstM hB
 refine PySem.P.add_list e e2 ?_ (by rw [List.size_toArray,List.size_toArray];omega)
 have ea:its.toArray++its2.toArray=(its++its2).toArray:=by simp
 rw [ea]
 exact ⟨.ref _,_,I.lnew (t':=s.toks) (r.append r2) (by rw [List.length_append];omega),rfl,q _ I.fresh⟩
end
section
variable {prog:Program} {w:World} {A:Around} {E:Value→Shared→Prop} {s:Shared}
end
section
variable {X:Cx}
end
end L2
namespace Att
open PySem PySem.W PySem.Calls PyProof.Rows
theorem W1 {P:Params} {h:Heap}:∀ (ns:List Int) (vs:List Value),WellAll P h vs (ns.map WData.int)→IntsAre vs ns:=by
 intro ns
 induction ns with
 | nil =>
  intro vs w
  rw [List.map_nil] at w
  cases w
  exact .nil
 | cons n ns ih =>
  intro vs w
  rw [List.map_cons] at w
  cases w with
  | cons a b =>
   cases a
   exact .cons _ _ (ih _ b)
theorem QY {l:OpenLaw} {n:Nat} (hn:l.most=some n) {P:Params} {h:Heap} {args:List WData} {vals:List Value}
  (hpre:l.row.toRowW.claim.pre args=true) (hwl:WellAll P h vals args) :
  ∃ a vs ns,vals=[Value.ref a]∧args=[WData.list (ns.map WData.int)]∧h.get? a=some { cls := .type "list",data := .seq vs.toArray }∧IntsAre vs ns∧ns.length≤n:=by
 have hsh:WShape.hasAll [] args [.list .int]=true:=(pre_splitW hpre).1
 have hc:l.pre.holds [] { args:=args }=true:=(pre_splitW hpre).2
 obtain ⟨d,r,rfl,h1,h2⟩:=hasAllW_cons hsh
 obtain rfl:=hasAllW_nil h2
 obtain ⟨xs,rfl,h3⟩:=hasW_list h1
 obtain ⟨ns,rfl⟩:=items_int h3
 have hlen:ns.length≤n:=by
  unfold OpenLaw.pre at hc
  have h4:(WTm.not (.lt (.lit (.int (n:Int))) (.len (.arg 0)))).holds [] { args:=[.list (ns.map .int)] }=true:=by
   have h4:=(holds_andW hc).1
   rw [hn] at h4
   exact h4
  have h5:=condW_of h4 (w_not (w_lt w_lit (w_len_list (w_arg rfl))))
  rw [List.length_map] at h5
  refine Nat.le_of_not_lt fun q=>?_
  have q':(n:Int)<((ns.length:Nat):Int):=by omega
  first
   | (rw [decide_eq_true q'] at h5;exact absurd h5 (by decide))
   | (simp at h5;omega)
 cases hwl with
 | cons w1 w2 =>
  cases w2
  cases w1 with
  | list ho hall=>exact ⟨_,_,ns,rfl,rfl,ho,W1 ns _ hall,hlen⟩
theorem QZ (l:OpenLaw) (args:List WData):l.row.toRowW.claim.post args (.bool true) args=true :=
 postW_of (r:=l.row.toRowW) (X:=(true==true))
  (show WShape.has [] (.bool true) .bool=true by first | rfl | decide | simp [WShape.has,WShape.arms,WShape.armsAll])
  (show (WTm.eq .res (.lit (.bool true))).value [] { args:=args,res:=some (.bool true),after:=args }=some (.bool (true==true)) from w_eq_bool (w_res rfl) w_lit) rfl
theorem attach_call {l:OpenLaw} {n:Nat} {q:Program} {loose:List Str} {XP:(Str→Option Value)→Heap→Prop} {YP:World→Heap→Prop} {d:DefRec}
  (hn:l.most=some n) (hdf:d.params.defaults=[])
  (call:∀ (w:World) (s₀ s₁:Shared) (mg mb:Str→Option Value) (fa:Addr) (o:Obj) (pm cd doc:Value) (a:Addr) (vs:List Value) (ns:List Int),
   Ground q loose [] XP w s₀ mg mb s₁.heap→YP w s₁.heap →
   s₁.heap.get? fa=some o→o.data = .func (docDef d.name d.params d.body d.scope pm cd doc)→s₁.heap.CodeRec cd d.name→mg d.name=some (.ref fa) →
   s₁.heap.get? a=some { cls := .type "list",data := .seq vs.toArray }→IntsAre vs ns→ns.length≤n→s₁.gens=#[] →
   codeAny (model l.prog w) callerA (.call (.ref fa) ⟨[.ref a],[]⟩) (fun r s'=>r = .ok (.ret (.bool true))∧OldK s₁.heap s'.heap∧s'.os=s₁.os∧AllBare s'.gens) s₁) :
  WalkO q loose XP YP l.row.toRowW d [] (fun f vs=>PySem.call f vs):=by
 intro w s₀ s₁ mg mb G Y fa o pm cd doc dV kV ho hd hcd hD hmg hg args vals as hpre hlay hrd hwl hlo
 obtain rfl:dV = .none:=Dflts.none hD hdf
 obtain rfl:kV = .none:=Dflts.noKw hD
 obtain ⟨a,vs,ns,rfl,rfl,hobj,hints,hlen⟩:=QY hn hpre hwl
 refine enter_call (codeAny_mono (call w s₀ s₁ mg mb fa o pm cd doc a vs ns G Y ho (fd_plain hd) hcd hmg hobj hints hlen hg) fun r s' hq=>?_)
 obtain ⟨rfl,h2,h3,h4⟩:=hq
 exact ⟨.inl ⟨.bool true,.bool true,[],rfl,fun _=>rfl,.bool true,QZ l _,fun _=>⟨List.Pairwise.nil,fun _ hm=>(nomatch hm)⟩⟩,h2,h3,h4⟩
section
variable {prog:Program} {w:World} {A:Around} {E:Value→Shared→Prop} {s:Shared} {K:Frag}
def ledger (h:Heap) (L d:Addr):List (Addr×Obj):=(List.range h.objs.size).filterMap fun a=>if a=L∨a=d then none else (h.get? a).map fun o=>(a,o)
end
end Att
namespace L2
open PySem PySem.Spec PyProof.Rows
theorem VE:∀ {vs:List Value} {ns:List Int},IntsAre vs ns→Yi (ns.map V.int) vs
 | _,_,.nil => .nil
 | _,_,.cons n t h => .cons ⟨t,rfl⟩ (VE h)
def Only (H:Hp):Prop:=∀ b,H b=none∨∃ o xs,H b=some (.frz o (.lst xs))
theorem YaG {P:Program} {w:World} {K:PySem.W.Frag} {mg mb:Str→Option Value} {CX:CXT} {k:Nat} {fa a:Addr} {fd:FuncData} {x:Str} {sp:Sp} {s₁:Shared} {vs:List Value} {ns:List Int}
  (KX:K.In s₁.heap) (hns:s₁.heap.Ns mainGlobals mg) (hb:s₁.heap.Ns builtinsNs mb) (hbb:∀ x:Str,x≠"__name__"→mb x=bootBuiltins x) (hlim:s₁.heap.NoLimit) (hg:s₁.gens=#[])
  (ha:s₁.heap.get? a=some { cls := .type "list",data := .seq vs.toArray }) (hi:IntsAre vs ns) (hl:ns.length≤sizeLine) (hr:Room k callerA)
  (F:∀ base:Heap,K.In base→base.Ns mainGlobals mg→FnOk P w K mg base CX k fa fd [x] sp) (hbind:∀ (s:Shared) (u:Value),BindsTo s fd ⟨[u],[]⟩ [(x,u)])
  (hsp:∀ H:Hp,Only H→SqL K H a (ns.map V.int)→sp [.ref a] H (fun v _=>v = .bl true) fun _ _ _=>False)
  (hCX:∀ H e s',CX [] H s₁ (fun _ _ _=>False) e s'→False) :
  codeAny (model P w) callerA (.call (.ref fa) ⟨[.ref a],[]⟩) (fun r s'=>r = .ok (.ret (.bool true))∧OldK s₁.heap s'.heap∧s'.os=s₁.os∧AllBare s'.gens) s₁:=by
 have rv:=VE hi
 have lenV:=hi.length
 -- from an abstract heap in which nothing but the script may be tracked
 have core:∀ H:Hp,Only H→SqL K H a (ns.map V.int)→HOk P w H s₁.heap→(∀ b,H b≠none→b=a)→(H a≠none→K.lookup a=none) →
   codeAny (model P w) callerA (.call (.ref fa) ⟨[.ref a],[]⟩) (fun r s'=>r = .ok (.ret (.bool true))∧OldK s₁.heap s'.heap∧s'.os=s₁.os∧AllBare s'.gens) s₁:=by
  intro H hO hS hok hA hK
  have base_of:∀ {b:Addr} {o:Obj},s₁.heap.get? b=some o→H b=none→(X8 s₁.heap H).get? b=some o:=fun e n=>Yay e n
  have noA:∀ {b:Addr} {o:Obj} {es:Array DictEntry} {ep:Nat},s₁.heap.get? b=some o→o.data = .dict es ep→H b=none:=fun {b o es ep} e d=>by
   cases q:H b with
   | none=>rfl
   | some u =>
    have e':b=a:=hA b (by rw [q];simp)
    subst e'
    rw [ha] at e;cases e
    have d':Data.seq vs.toArray _=Data.dict es ep:=d
    cases d'
  have nsK:∀ {b:Addr} {m:Str→Option Value},s₁.heap.Ns b m→(X8 s₁.heap H).Ns b m:=fun {b m} ⟨o,es,ep,e,d,r⟩=>⟨o,es,ep,base_of e (noA e d),d,r⟩
  have hKb:K.In (X8 s₁.heap H):=fun b o e=>base_of (KX b o e) (by
   cases q:H b with
   | none=>rfl
   | some u =>
    have e':b=a:=hA b (by rw [q];simp)
    subst e'
    rw [hK (by rw [q];simp)] at e;cases e)
  have hM:Mod K mg (X8 s₁.heap H):=⟨hKb,nsK hns,⟨mb,nsK hb,hbb⟩,let ⟨mc,h1,h2⟩:=hlim;⟨mc,nsK h1,h2⟩⟩
  have e0:Env0 P w K mg (X8 s₁.heap H) callerA [] s₁ H:=⟨rfl,hM,fun b o e=>Ybq e,Nat.le_of_eq (QF _ _),trivial,fun b hb=>absurd (show b∈([]:List Addr) from hb) (by simp),hok,.of_eq hg⟩
  refine codeAny_mono ((F _ hKb (nsK hns)).run callerA [] s₁ H ⟨[.ref a],[]⟩ [.ref a] [.ref a] _ _ hr e0 (hbind s₁ (.ref a)) (.cons rfl .nil) (hsp H hO hS)) fun r s' h=>?_
  cases r with
  | error e=>exact (hCX H e s' h).elim
  | ok fl =>
   cases fl with
   | next=>exact False.elim h
   | brk=>exact False.elim h
   | cont=>exact False.elim h
   | ret u =>
    obtain ⟨v,H',os,bare,un,hok',r',q⟩:=h
    have q':v = .bl true:=q
    subst q'
    obtain rfl:u=Value.bool true:=r'
    refine ⟨rfl,OldK.of_keep fun b o e=>?_,os,bare⟩
    cases q:H b with
    | none=>exact un.keep b o e q (by intro z;exact absurd (show b∈([]:List Addr) from z) (by simp)) (by simp)
    | some u =>
     rcases hO b with z | ⟨ob,xs,z⟩
     ·rw [q] at z;cases z
     ·have z2:=un.frzs b ob _ z
      obtain ⟨e1,_⟩:=hok b _ z
      obtain ⟨e2,_⟩:=hok' b _ z2
      rw [e] at e1;cases e1
      exact e2
 cases hk:K.lookup a with
 | some o =>
  -- the script is one of the module's own objects
  have e:=KX a o hk
  rw [ha] at e
  cases e
  refine core (fun _=>none) (fun _ => .inl rfl) (.inr ⟨_,vs.toArray,_,hk,rfl,rfl,rfl,by rw [List.size_toArray,lenV];exact hl,by simpa using rv⟩) (fun b u z=>by have z':(none:Option HO)=some u:=z;cases z') (fun b z=>absurd rfl z) fun z=>absurd rfl z
 | none =>
  refine core (fun b=>if b=a then some (.frz { cls := .type "list",data := .seq vs.toArray } (.lst (ns.map V.int))) else none) (fun b=>?_) (.inl (.inr ⟨{ cls := .type "list",data := .seq vs.toArray },if_pos rfl⟩)) (fun b u z=>?_) (fun b z=>?_) fun _=>hk
  ·by_cases hb:b=a
   ·exact .inr ⟨_,_,if_pos hb⟩
   ·exact .inl (if_neg hb)
  ·by_cases hb:b=a
   ·have z':=(if_pos hb).symm.trans z
    cases z'
    subst hb
    exact ⟨ha,by rw [List.length_map];exact hl,vs,_,rv,ha⟩
   ·have z':=(if_neg hb).symm.trans z
    cases z'
  ·by_cases hb:b=a
   ·exact hb
   ·exact absurd (if_neg hb) z
end L2
namespace L2
open PySem PySem.Spec PyProof.Rows
theorem YbF {l:PySem.W.OpenLaw} {n k:Nat} {q:Program} {loose:List Str} {XP:(Str→Option Value)→Heap→Prop} {YP:World→Heap→Prop} {d:DefRec} {K:Params→PySem.W.Frag} {CX:World→CXT} {sp:World→Sp} {x:Str}
  (hn:l.most=some n) (hn2:n≤sizeLine) (hdf:d.params.defaults=[]) (hr:Room k callerA)
  (hY:∀ (w:World) (h:Heap),YP w h→(K w.params).In h)
  (F:∀ (w:World) (mg:Str→Option Value) (fa:Addr) (h:Heap),(K w.params).In h→h.Ns mainGlobals mg→mg d.name=some (.ref fa) →
   ∃ fd:FuncData,(∀ (s:Shared) (u:Value),BindsTo s fd ⟨[u],[]⟩ [(x,u)]) ∧
    ∀ base:Heap,(K w.params).In base→base.Ns mainGlobals mg→FnOk l.prog w (K w.params) mg base (CX w) k fa fd [x] (sp w))
  (hsp:∀ (w:World) (H:Hp) (a:Addr) (ns:List Int),ns.length≤n→Only H→SqL (K w.params) H a (ns.map V.int)→sp w [.ref a] H (fun v _=>v = .bl true) fun _ _ _=>False)
  (hCX:∀ (w:World) (H:Hp) (s:Shared) (e:Value) (s':Shared),CX w [] H s (fun _ _ _=>False) e s'→False) :
  PySem.W.WalkO q loose XP YP l.row.toRowW d [] (fun f vs=>PySem.call f vs):=by
 refine Att.attach_call hn hdf fun w s₀ s₁ mg mb fa o pm cd doc a vs ns G Y ho hd hcd hmg hobj hints hlen hg=>?_
 have KX:=hY w _ Y
 obtain ⟨fd,hb,hF⟩:=F w mg fa _ KX G.T.g hmg
 exact YaG KX G.T.g G.T.b G.T.builtins G.T.nolimit hg hobj hints (Nat.le_trans hlen hn2) hr hF hb (fun H hO hS=>hsp w H a ns hlen hO hS) fun H e s'=>hCX w H s₁ e s'
end L2
namespace L2
open PySem PySem.Spec PyProof.Rows
def Xv (s:Stmt) (j:Nat):Stmt:=match s with
 | .ClassDef _ _ _ body _ _ _ _ _ _ _=>body.getD j (.Pass ⟨0,0,0,0⟩)
 | _ => .Pass ⟨0,0,0,0⟩
def YV (s:Stmt):Arguments:=match s with
 | .FunctionDef _ a _ _ _ _ _ _ _ _=>a
 | _=>{ posonlyargs:=[],args:=[],vararg:=none,kwonlyargs:=[],kw_defaults:=[],kwarg:=none,defaults:=[] }
def YH (s:Stmt):List Stmt:=match s with
 | .FunctionDef _ _ b _ _ _ _ _ _ _=>b
 | _=>[]
def Yg (s:Stmt):Scope:=match s with
 | .FunctionDef _ _ _ _ _ _ sc _ _ _=>sc
 | _=>{ kind := .function,names:=[],isGenerator:=false,isCoroutine:=false }
abbrev CX0:CXT:=fun _ _ _ _ _ _=>False
abbrev E0:XK:=fun _ _ _=>False
theorem VQ {X:Cx}:Xa CX0 X E0:=fun _ _ _ _ _ _ _ h=>h.elim
structure Fun (K:PySem.W.Frag) (x qual:Str) (st:Stmt) (f:Addr) (fd:FuncData):Prop where
 ex:∃ (oc:Value) (od:Option Addr) (kV doc pm:Value) (an:Option Addr) (cdv ct:Value) (osl:Array (Option Value)),
  fd=PySem.W.fnOf x qual (YV st) (YH st) (Yg st) .none kV doc pm an cdv ct∧K.lookup f=some ⟨oc,od,.func fd,osl⟩∧PySem.W.codeIn K cdv qual=true
 kp:PySem.W.keepIn K (.ref f)=true
section
variable {P:Program} {w:World} {K:PySem.W.Frag} {mg:Str→Option Value} {base:Heap}
theorem Fun.ok {x qual:Str} {st:Stmt} {f:Addr} {fd:FuncData} {N ps:List Str} {k:Nat} {sp:Sp} (F:Fun K x qual st f fd) (S:FnScope N ps (Yg st)) (len:∀ vs H Q E,sp vs H Q E→vs.length=ps.length)
  (hbody:∀ (cdv:Value) (A:Around) (outer:List Env) (s:Shared) (H:Hp) (vs:List V) (Q:VK) (E:XK),Room k (A.deeper (envOfC qual (Yg st) s.heap.objs.size f cdv))→sp vs H Q E →
   ∃ t,PSs (Wa CX0 P w K mg base N qual (Yg st) f cdv A outer s H E).nox (YH st) t∧t { nx:=fun _ H'=>Q .non H',rt:=Q } (Xq N vs) H):FnOk P w K mg base CX0 (k+1) f fd ps sp:=by
 obtain ⟨oc,od,kV,doc,pm,an,cdv,ct,osl,rfl,lk,hcd⟩:=F.ex
 refine Qg lk hcd S len fun A outer s H vs Q E hr hsp=>?_
 obtain ⟨t,h,q⟩:=hbody cdv A outer s H vs Q E hr hsp
 exact ⟨t,h.nox,q⟩
theorem Fun.binds {x qual:Str} {st:Stmt} {f:Addr} {fd:FuncData} {ps:List Str} (F:Fun K x qual st f fd)
  (h:∀ (kV doc pm:Value) (an:Option Addr) (cdv ct:Value) (us:List Value),us.length=ps.length→bindArgs (PySem.W.fnOf x qual (YV st) (YH st) (Yg st) .none kV doc pm an cdv ct) ⟨us,[]⟩=pure (ps.zip us)):YY K fd ps []:=by
 obtain ⟨oc,od,kV,doc,pm,an,cdv,ct,osl,rfl,lk,hcd⟩:=F.ex
 exact .all (h kV doc pm an cdv ct)
theorem W2 {x qual:Str} {st:Stmt} {f:Addr} {oc:Value} {od an:Option Addr} {osl:Array (Option Value)} {kV doc pm cdv ct:Value} (l:K.lookup f=some ⟨oc,od,.func (PySem.W.fnOf x qual (YV st) (YH st) (Yg st) .none kV doc pm an cdv ct),osl⟩)
  (c:PySem.W.codeIn K cdv qual=true) (k:PySem.W.keepIn K (.ref f)=true):Fun K x qual st f (PySem.W.fnOf x qual (YV st) (YH st) (Yg st) .none kV doc pm an cdv ct):=⟨⟨oc,od,kV,doc,pm,an,cdv,ct,osl,rfl,l,c⟩,k⟩
end
section
variable {X:Cx}
theorem pv (i:Nat) {x:Str} {pos:Pos} (hN:X.N[i]?=some x:=by rfl) (hv:Vis X.env.scope x:=by first | exact .inl rfl | exact .inr (.inl rfl) | exact .inr (.inr rfl)) (hd:(x==("__debug__":Str))=false:=by decide)
  (hcd:(x==("__classdict__":Str))=false:=by decide):PE X (.Name x pos) (tVar i):=Ycn hN hv hd hcd
end
theorem WO {A B:Prop} (h:B):if false=true then A else B:=by
 rw [if_neg Bool.false_ne_true]
 exact h
theorem Qh {A B:Prop} (h:A):if true=true then A else B:=by
 rw [if_pos rfl]
 exact h
theorem Yw {c A B:Prop} [Decidable c] (h1:c→A) (h2:¬ c→B):if c then A else B:=by
 by_cases h:c
 ·rw [if_pos h]
  exact h1 h
 ·rw [if_neg h]
  exact h2 h
theorem iteNS {c A B:Prop} [Decidable c] (hc:c) (h:B):if (!decide c)=true then A else B:=by
 rw [decide_eq_true hc]
 exact WO h
def Same (H H':Hp):Prop:=∀ b o,H b=some o→H' b=some o
theorem Same.refl (H:Hp):Same H H:=fun _ _ h=>h
theorem Same.trans {H H1 H2:Hp} (a:Same H H1) (b:Same H1 H2):Same H H2:=fun c o h=>b c o (a c o h)
theorem Same.free {H H':Hp} (e:Same H H') {l:Addr} (h:H' l=Option.none):H l=Option.none:=by
 cases q:H l with
 | none=>rfl
 | some o =>
  rw [e l o q] at h
  cases h
theorem Same.seq {K:PySem.W.Frag} {H H':Hp} {a:Addr} {xs:List V} (e:Same H H') (h:SqL K H a xs):SqL K H' a xs:=by
 rcases h with (h | ⟨o,h⟩) | h
 ·exact .inl (.inl (e _ _ h))
 ·exact .inl (.inr ⟨o,e _ _ h⟩)
 ·exact .inr h
end L2
namespace L2
open PySem PySem.Spec PyProof.Rows
section
variable {κ:Type} [DecidableEq κ]
def Ya2 (kvs:List (κ×V)) (k:κ):List (κ×V):=kvs.filter fun kv=>decide (kv.1≠k)
theorem KV.any {kvs:List (κ×V)} {vs:List (κ×Value)} (r:KV kvs vs) (k:κ):(kvs.any fun kv=>decide (kv.1=k))=vs.any fun kv=>decide (kv.1=k):=by
 unfold KV at r
 induction r with
 | nil=>rfl
 | cons h t ih=>rw [List.any_cons,List.any_cons,ih,h.1]
theorem KV.drop {kvs:List (κ×V)} {vs:List (κ×Value)} (r:KV kvs vs) (k:κ):KV (Ya2 kvs k) (without vs k):=by
 unfold KV at r ⊢
 unfold Ya2 without
 induction r with
 | nil=>exact .nil
 | @cons p q ps qs h t ih =>
  obtain ⟨h1,h2⟩:=h
  rw [List.filter_cons,List.filter_cons]
  by_cases e:p.1=k
  ·have a:¬ decide (p.1≠k)=true:=by simp [e]
   have b:¬ decide (q.1≠k)=true:=by simp [h1.symm.trans e]
   rw [if_neg a,if_neg b];exact ih
  ·have e':¬ q.1=k:=fun z=>e (h1.trans z)
   have a:decide (p.1≠k)=true:=by simp [e]
   have b:decide (q.1≠k)=true:=by simp [e']
   rw [if_pos a,if_pos b];exact .cons ⟨h1,h2⟩ ih
theorem KV.keys {kvs:List (κ×V)} {vs:List (κ×Value)} (r:KV kvs vs):kvs.map (·.1)=vs.map (·.1):=by
 unfold KV at r
 induction r with
 | nil=>rfl
 | cons h t ih=>rw [List.map_cons,List.map_cons,ih,h.1]
theorem KV.length {kvs:List (κ×V)} {vs:List (κ×Value)} (r:KV kvs vs):kvs.length=vs.length:=Paired.length r
end
theorem Ya3 {P:Program} {w:World} {k:Key} {u:Value} (r:Yo (kV k) u):(Xd P w).is k u=true:=by
 cases k with
 | inl i=>obtain ⟨t,e⟩:=(show ∃ t,u=Value.int i t from r);subst e;exact UC P w i t
 | inr x=>obtain ⟨t,e⟩:=(show ∃ t,u=Value.str x t from r);subst e;exact UD P w x t
abbrev KT (H:Hp):List (List Key×V)→List (List Key×Addr×Value)→Prop:=Paired fun p q=>p.1=q.1∧H q.2.1=some (.tup (p.1.map kV))∧Yo p.2 q.2.2
theorem KT.keeps {H H':Hp} {kvs:List (List Key×V)} {xs:List (List Key×Addr×Value)} (r:KT H kvs xs) (ht:∀ b ys,H b=some (.tup ys)→H' b=some (.tup ys)):KT H' kvs xs :=
 Paired.mapP r fun _ _ z=>⟨z.1,ht _ _ z.2.1,z.2.2⟩
section
variable {P:Program} {w:World} {H:Hp} {h:Heap} {a:Addr}
end
section
variable {X:Cx} {pins:List (Addr×Obj)} {σ:St} {H:Hp} {s:Shared} {a:Addr} {y v:V} {u r:Value} {o:Option V} {A:Around} {E:Value→Shared→Prop}
end
section
variable {X:Cx} {pins:List (Addr×Obj)} {σ:St} {H:Hp} {s:Shared} {a:Addr} {kvs:List (Key×V)} {k:Key} {u:Value} {A:Around} {E:Value→Shared→Prop}
end
section
variable {X:Cx} {o i e value:Expr} {pos pos' tpos:Pos} {td ty tv:TE}
end
section
variable {X:Cx} {pos:Pos}
end
section
variable {X:Cx} {pins:List (Addr×Obj)} {σ:St} {H:Hp} {s:Shared} {a:Addr} {y d:V} {u r:Value} {o:Option V} {A:Around} {E:Value→Shared→Prop}
end
section
variable {X:Cx} {o e f:Expr} {apos cpos:Pos} {td ty tx:TE}
end
section
variable {X:Cx} {pins:List (Addr×Obj)} {σ:St} {H:Hp} {s:Shared} {a:Addr} {kvs:List (Key×V)} {A:Around} {E:Value→Shared→Prop}
end
section
variable {X:Cx} {pins:List (Addr×Obj)} {σ:St} {H:Hp} {s:Shared} {a:Addr} {y:V} {u:Value} {A:Around} {E:Value→Shared→Prop}
end
end L2
namespace L2
open PySem PySem.Spec PyProof.Rows
theorem XR (env:Env):∀ (names:List (Str×NameKind)) (cs:List (Str×Addr)),(∀ x,(x,NameKind.free)∈names→∃ c,env.cells.lookup x=some c) →
  ∃ cl,(forIn names cs fun (p:Str×NameKind) (cs:List (Str×Addr))=>(if (p.2==NameKind.free)=true then (do let c ← cellOf env p.1;pure (ForInStep.yield ((p.1,c)::cs))) else pure (ForInStep.yield cs):Sem (ForInStep (List (Str×Addr)))))=pure cl ∧
   (∀ x c,cl.lookup x=some c→env.cells.lookup x=some c∨cs.lookup x=some c)∧(∀ x,(x,NameKind.free)∈names→∃ c,cl.lookup x=some c)∧(∀ x c,cs.lookup x=some c→∃ d,cl.lookup x=some d)
 | [],cs,_=>⟨cs,by simp,fun _ _ h => .inr h,(fun _ h=>nomatch h),fun x c h=>⟨c,h⟩⟩
 | (n,k)::r,cs,h=>by
  by_cases hk:k=NameKind.free
  ·subst hk
   obtain ⟨c,hc⟩:=h n (List.mem_cons_self ..)
   obtain ⟨cl,e,a,b,d⟩:=XR env r ((n,c)::cs) (fun x hx=>h x (List.mem_cons_of_mem _ hx))
   have hcell:cellOf env n=pure c:=by unfold cellOf;rw [hc]
   refine ⟨cl,?_,fun x c' hx=>?_,fun x hx=>?_,fun x c' hx=>?_⟩
   ·rw [List.forIn_cons]
    simp only [beq_self_eq_true,if_true,hcell,pure_bind]
    exact e
   ·rcases a x c' hx with q | q
    ·exact .inl q
    ·rw [List.lookup_cons] at q
     by_cases hxn:(x==n)=true
     ·rw [hxn] at q
      have hx':x=n:=by simpa using hxn
      subst hx'
      have:c=c':=by simpa using q
      subst this
      exact .inl hc
     ·rw [Bool.eq_false_iff.mpr hxn] at q
      exact .inr q
   ·rcases List.mem_cons.mp hx with q | q
    ·have hx':x=n:=congrArg Prod.fst q
     subst hx'
     exact d x c (by rw [List.lookup_cons];simp)
    ·exact b x q
   ·have:∃ d',((n,c)::cs).lookup x=some d':=by
     rw [List.lookup_cons]
     by_cases hxn:(x==n)=true
     ·rw [hxn];exact ⟨c,rfl⟩
     ·rw [Bool.eq_false_iff.mpr hxn];exact ⟨c',hx⟩
    obtain ⟨d',hd'⟩:=this
    exact d x d' hd'
  ·obtain ⟨cl,e,a,b,d⟩:=XR env r cs (fun x hx=>h x (List.mem_cons_of_mem _ hx))
   have hkf:(k==NameKind.free)=false:=by simpa using hk
   refine ⟨cl,?_,a,fun x hx=>?_,d⟩
   ·rw [List.forIn_cons]
    simp only [hkf,Bool.false_eq_true,if_false,pure_bind]
    exact e
   ·rcases List.mem_cons.mp hx with q | q
    ·exact absurd (congrArg Prod.snd q).symm hk
    ·exact b x q
theorem Wb (env:Env) (scope:Scope) (h:∀ x,(x,NameKind.free)∈scope.names→∃ c,env.cells.lookup x=some c) :
  ∃ cl,closureFor scope env=pure cl∧(∀ x c,cl.lookup x=some c→env.cells.lookup x=some c)∧(∀ x,(x,NameKind.free)∈scope.names→∃ c,cl.lookup x=some c):=by
 obtain ⟨cl,e,a,b,_⟩:=XR env scope.names [] h
 refine ⟨cl,?_,fun x c hx=>(a x c hx).elim id (fun z=>by simp at z),b⟩
 unfold closureFor
 simp only [bind_pure]
 exact e
def cxC (X:Cx) (scope:Scope) (N':List Str) (cl:List (Str×Addr)) (C:Addr) (s₀:Shared) (H₀:Hp) (fp:List Addr) (pn:List (Addr×Obj)):Cx :=
 { X with N:=N',s₀:=s₀,H₀:=H₀,env:=compEnvC scope cl C X.env,outer:=X.stack,ex:=fp,fn:=fun _=>false,pn:=pn,xe:=fun _ _=>False }
inductive Cap (X:Cx) (scope:Scope):List (Option Nat)→List Str→Prop
 | nil:Cap X scope [] []
 | own {x src N'}:Cap X scope src N'→Cap X scope (none::src) (x::N')
 | cap {x i src N'}:X.N[i]?=some x→scope.names.lookup x=some NameKind.free→(X.env.scope.names.lookup x=some NameKind.cell∨X.env.scope.names.lookup x=some NameKind.free)→Cap X scope src N'→Cap X scope (some i::src) (x::N')
def YC (src:List (Option Nat)) (σ:St):St:=src.map fun o=>match o with | none=>none | some i=>σ.getD i none
theorem Cap.length {X:Cx} {scope:Scope}:∀ {src:List (Option Nat)} {N':List Str},Cap X scope src N'→src.length=N'.length
 | _,_,.nil=>rfl
 | _,_,.own h=>congrArg (·+1) h.length
 | _,_,.cap _ _ _ h=>congrArg (·+1) h.length
theorem Cap.get {X:Cx} {scope:Scope} {σ:St}:∀ {src:List (Option Nat)} {N':List Str},Cap X scope src N'→∀ (j:Nat) (x:Str) (v:V),N'[j]?=some x→(YC src σ)[j]?=some (some v) →
  ∃ i:Nat,X.N[i]?=some x∧σ[i]?=some (some v)∧scope.names.lookup x=some NameKind.free∧(X.env.scope.names.lookup x=some NameKind.cell∨X.env.scope.names.lookup x=some NameKind.free)
 | _,_,.nil,j,x,v,h,_=>by simp at h
 | _,_,.own h,0,x,v,_,e=>by simp [YC] at e
 | _,_,.own h,j+1,x,v,e1,e2=>h.get j x v (by simpa using e1) (by simpa [YC] using e2)
 | _,_,.cap (x:=y) (i:=i) hN hf hk h,0,x,v,e1,e2=>by
  have ex:y=x:=by simpa using e1
  subst ex
  refine ⟨i,hN,?_,hf,hk⟩
  simp only [YC,List.map_cons,List.getElem?_cons_zero,Option.some.injEq] at e2
  rw [List.getD_eq_getElem?_getD] at e2
  cases q:σ[i]? with
  | none=>rw [q] at e2;simp at e2
  | some o=>rw [q] at e2;simp at e2;rw [e2]
 | _,_,.cap hN hf hk h,j+1,x,v,e1,e2=>h.get j x v (by simpa using e1) (by simpa [YC] using e2)
theorem X5 (env:Env) (x:Str):∀ {names:List (Str×NameKind)},
  (names.map fun (n,k)=>if (k==NameKind.free&&env.scope.kind == .function&&env.kindOf n==some .cell) then (n,NameKind.cell) else (n,k)).lookup x =
   (names.lookup x).map fun k=>if (k==NameKind.free&&env.scope.kind == .function&&env.kindOf x==some .cell) then NameKind.cell else k
 | []=>rfl
 | (n,k)::r=>by
  have ih:=@X5 env x r
  rw [List.map_cons]
  dsimp only
  by_cases hx:(x==n)=true
  ·have e:x=n:=by simpa using hx
   subst e
   by_cases hc:(k==NameKind.free&&env.scope.kind == .function&&env.kindOf x==some .cell)=true
   ·rw [if_pos hc,List.lookup_cons,List.lookup_cons,hx]
    simp only [Option.map_some]
    rw [if_pos hc]
   ·rw [if_neg hc,List.lookup_cons,List.lookup_cons,hx]
    simp only [Option.map_some]
    rw [if_neg hc]
  ·have hx':=Bool.eq_false_iff.mpr hx
   by_cases hc:(k==NameKind.free&&env.scope.kind == .function&&env.kindOf n==some .cell)=true
   ·rw [if_pos hc];simp only [List.lookup_cons,hx'];exact ih
   ·rw [if_neg hc];simp only [List.lookup_cons,hx'];exact ih
theorem XZ {names:List (Str×NameKind)} {x:Str} (h:names.lookup x=some NameKind.free):(x,NameKind.free)∈names:=PySem.mem_of_lookup h
section
variable {X:Cx}
theorem WP {scope:Scope} {N':List Str} {src:List (Option Nat)} {cl:List (Str×Addr)} {pins:List (Addr×Obj)} {σ:St} {H:Hp} {s s':Shared} {h':Heap} {tk:Nat} {fp:List Addr} {m:Str→Option Value}
  (hk:scope.kind = .function) (hcell:∀ y∈scope.names,y.2 ≠ .cell) (hcap:Cap X scope src N')
  (a:∀ x c,cl.lookup x=some c→X.env.cells.lookup x=some c) (b:∀ x,(x,NameKind.free)∈scope.names→∃ c,cl.lookup x=some c)
  (I:Inv X pins σ H s) (hf:∀ b∈fp,Xj X pins H b) (hfl:∀ b∈fp,b<s.heap.objs.size) (es':s'={ s with heap:=h',toks:=tk })
  (keep:∀ b o,s.heap.get? b=some o→h'.get? b=some o) (hn:h'.Ns s.heap.objs.size m) :
  Inv (cxC X scope N' cl s.heap.objs.size s H fp (X.pn++pins)) [] (YC src σ) H s':=by
 subst es'
 have kindOf:∀ x,(compEnvC scope cl s.heap.objs.size X.env).kindOf x=(scope.names.lookup x).map fun k=>if (k==NameKind.free&&X.env.scope.kind == .function&&X.env.kindOf x==some .cell) then NameKind.cell else k:=fun x=>X5 X.env x
 have freeOf:∀ x,((compEnvC scope cl s.heap.objs.size X.env).kindOf x=some .cell∨(compEnvC scope cl s.heap.objs.size X.env).kindOf x=some .free)→scope.names.lookup x=some .free:=fun x h=>by
  rw [kindOf] at h
  cases q:scope.names.lookup x with
  | none=>rw [q] at h;simp at h
  | some k =>
   rw [q] at h
   by_cases hkf:k=NameKind.free
   ·rw [hkf]
   ·have hkf':(k==NameKind.free)=false:=by simpa using hkf
    simp only [Option.map_some,hkf',Bool.false_and,Bool.false_eq_true,if_false] at h
    rcases h with h | h
    ·exact absurd (Option.some.inj h) (hcell _ (PySem.mem_of_lookup q))
    ·exact absurd (Option.some.inj h) hkf
 refine ⟨⟨I.ok.mod,hk,I.ok.glob,I.ok.blt,Nat.le_refl _,fun x y c h1 h2=>I.ok.inj x y c (a x c h1) (a y c h2),fun x hx=>b x (XZ (freeOf x hx)),(fun x c z _=>nomatch z),I.ok.hd,I.ok.frames,.inl rfl,fun b' hb=>?_,I.bs,Nat.le_trans I.ok.bsz I.sz,fun b' o e hb=>?_,fun b' hb z=>?_,I.stack,I.stkFree⟩,
  rfl,I.bare,Un.kept keep,⟨m,hn,fun j x v h1 h2 h3=>?_⟩,fun x c h=>?_,I.hok.fresh (Nat.le_refl _),fun x c h=>I.freeC x c (a x c h),fun p hp=>?_,I.hok.kept keep,?_⟩
 ·obtain ⟨f0,f1,f2,f3,f4,f5⟩:=hf b' hb
  exact ⟨Nat.ne_of_lt (hfl b' hb),fun x c h=>f4 x c (a x c h)⟩
 ·obtain ⟨f0,f1,f2,f3,f4,f5⟩:=hf b' hb
  rcases f3 with z | z
  ·exact I.ok.noex b' o e z
  ·exact absurd (Nat.lt_of_lt_of_le (Heap.lt_size e) (Nat.le_trans I.ok.bsz z)) (Nat.lt_irrefl _)
 ·obtain ⟨f0,f1,f2,f3,f4,f5⟩:=hf b' hb
  rcases List.mem_cons.mp (I.stkSub b' z) with e | e
  ·exact f1 e
  ·exact f2 e
 ·obtain ⟨i,e1,e2,e3,e4⟩:=hcap.get j x v h1 h2
  obtain ⟨m0,hn0,hl⟩:=I.loc
  obtain ⟨u,r,l⟩:=hl i x v e1 e2 (by rcases e4 with e4 | e4;exact .inr (.inl e4);exact .inr (.inr e4))
  refine ⟨u,r,?_⟩
  rcases l with ⟨l,_⟩ | ⟨k,c,e,z⟩
  ·have l':X.env.scope.names.lookup x=some NameKind.local:=l
   rcases e4 with e4 | e4<;>(rw [e4] at l';cases l')
  ·refine .inr ⟨?_,?_⟩
   ·show (compEnvC scope cl s.heap.objs.size X.env).kindOf x=some .cell∨(compEnvC scope cl s.heap.objs.size X.env).kindOf x=some .free
    rw [kindOf,e3]
    simp only [Option.map_some]
    split
    ·exact .inl rfl
    ·exact .inr rfl
   ·obtain ⟨c',hc'⟩:=b x (XZ e3)
    have:=a x c' hc'
    rw [e] at this
    cases this
    obtain ⟨o,ho,hd⟩:=z
    exact ⟨c,hc',o,keep _ _ ho,hd⟩
 ·obtain ⟨v,o,ho,hd⟩:=I.cell x c (a x c h)
  exact ⟨v,o,keep _ _ ho,hd⟩
 ·have hp':p∈X.pn++pins:=by simpa [cxC] using hp
  obtain ⟨e,n,ne,nf,d⟩:=I.pin p hp'
  refine ⟨keep _ _ e,n,Nat.ne_of_lt (Heap.lt_size e),fun z=>?_,d⟩
  rcases List.mem_cons.mp (I.stkSub p.1 z) with q | q
  ·exact ne q
  ·exact nf q
 ·show (YC src σ).length=N'.length
  rw [← hcap.length]
  simp [YC]
end
end L2
namespace L2
open PySem PySem.Spec PyProof.Rows
section
variable {prog:Program} {w:World} {A:Around} {R:Result→Shared→Prop} {s:Shared}
theorem VF {elt tg iter:Expr} {ifs:List Expr} {scope:Scope} {pos:Pos} {it acc:Value} {env:Env} (J:Nat→Shared→Prop)
  (turn:∀ n s,J n s→wpAny (model prog w) A (pyNext it) (fun r s₁=>match r with
    | none=>R (.ok .next) s₁
    | some v=>wpAny (model prog w) A (letOwnedTupleGo tg it v) (fun _ z₁=>wpAny (model prog w) A (assign tg env v) (fun _ s₂ =>
      wpAny (model prog w) A (forIn ifs true fun c r=>if r=true then do let ok ← isTrue c env (eval c env);pure (ForInStep.yield ok) else pure (ForInStep.yield r))
       (fun ok s₃=>if ok=true then wpAny (model prog w) A (eval elt env) (fun x s₄=>wpAny (model prog w) A (call (.builtin "list.append") [acc,x]) (fun _ s₅=>∃ m,m<n∧J m s₅) (fun _ _=>False) s₄) (fun _ _=>False) s₃
        else ∃ m,m<n∧J m s₃) (fun _ _=>False) s₂) (fun _ _=>False) z₁) (fun _ _=>False) s₁) (fun _ _=>False) s)
  (n:Nat) (h:J n s):codeAny (model prog w) A (.compLoop (.ListComp elt [⟨tg,iter,ifs,0⟩] scope pos) 0 it acc env) R s:=by
 refine codeAny_loop rfl J (fun n s hJ=>?_) n h
 show wpAny _ A (Sem.onRaise (compTurn (.ListComp elt [⟨tg,iter,ifs,0⟩] scope pos) 0 it acc env) (fun x=>do noteFrame x env;theTreesLotGoes x)) _ _ s
 refine wpAny_noted ?_
 rw [compTurn_list]
 have no:∀ {E:Value→Shared→Prop},∀ (e:Value) (s':Shared),False→E e s':=fun _ _ f=>f.elim
 refine wpAny_bind (wpAny_standAt (wpAny_bind (wpAny_mono (turn n s hJ) (fun r s₁ h₁=>?_) no)))
 cases r with
 | none=>exact wpAny_pure h₁
 | some v =>
  refine wpAny_bind (wpAny_mono h₁ (fun _ z₁ hz=>?_) no)
  refine wpAny_bind (wpAny_mono hz (fun _ s₂ h₂=>wpAny_bind (wpAny_mono h₂ (fun ok s₃ h₃=>?_) no)) no)
  cases ok with
  | false=>exact wpAny_pure ⟨rfl,h₃⟩
  | true =>
   exact wpAny_bind (wpAny_bind (wpAny_mono h₃ (fun x s₄ h₄=>wpAny_bind (wpAny_mono h₄ (fun _ s₅ h₅=>wpAny_pure (wpAny_pure ⟨rfl,h₅⟩)) no)) no))
end
def PTs (X:Cx) (ifs:List Expr) (t:TT):Prop :=
 ∀ (pins:List (Addr×Obj)) (s:Shared) (σ:St) (H:Hp) (Q:Bool→Hp→Prop),Inv X pins σ H s→t σ H Q →
  wpAny (model X.prog X.w) X.A (forIn ifs true fun c r=>if r=true then do let ok ← isTrue c X.env (eval c X.env);pure (ForInStep.yield ok) else pure (ForInStep.yield r)) (TP X pins σ Q) X.xe s
def Wp:TT:=fun _ H Q=>Q true H
theorem WE {X:Cx}:PTs X [] Wp:=fun _ _ _ H _ I h=>wpAny_tests_nil ⟨H,I,h⟩
def LC (src:List (Option Nat)) (J:It) (g:TG) (tt:TT) (te:TE) (σ:St) (H1:Hp) (Q:VK) (D:Addr):Prop:=∃ W:Nat→Nat→List V→St→Hp→Prop,(∃ m,W 0 m [] (YC src σ) (upd H1 D (.lst []))) ∧
 ∀ i m ys σ' H2,W i m ys σ' H2→H2 D=some (.lst ys)∧((J.stop i H2∧Q (.ref D) H2)∨(J.go i H2∧∃ N:List V→St→Hp→Prop,(∀ ys' σ3 H3,N ys' σ3 H3→∃ m',m'<m∧W (i+1) m' ys' σ3 H3)∧∀ x H3,J.yld i H2 x H3→g x σ' H3 fun σ2 H4=>tt σ2 H4 fun b H5 =>
  if b=true then te σ2 H5 fun y H6=>H6 D=some (.lst ys)∧ys.length<sizeLine∧N (ys++[y]) σ2 (upd H6 D (.lst (ys++[y])))
  else N ys σ2 H5))
def tLC (src:List (Option Nat)) (wi:TI) (g:TG) (tt:TT) (te:TE):TE:=fun σ H Q=>wi σ H fun J H1=>∀ D,H1 D=none→LC src J g tt te σ H1 Q D
section
variable {X:Cx}
theorem Ya4 {elt tg iter:Expr} {ifs:List Expr} {scope:Scope} {pos:Pos} {src:List (Option Nat)} {N':List Str} {wi:TI} {g:TG} {tt:TT} {te:TE} (hcap:Cap X scope src N') (hc:X.calm=true) (hi:PI X tg iter wi)
  (hg:∀ cl C s₀ H₀ fp pn,PG (cxC X scope N' cl C s₀ H₀ fp pn) tg g) (ht:∀ cl C s₀ H₀ fp pn,PTs (cxC X scope N' cl C s₀ H₀ fp pn) ifs tt) (he:∀ cl C s₀ H₀ fp pn,PE (cxC X scope N' cl C s₀ H₀ fp pn) elt te)
  (hfree:∀ x,(x,NameKind.free)∈scope.names→X.env.scope.names.lookup x=some NameKind.cell∨X.env.scope.names.lookup x=some NameKind.free)
  (hk:scope.kind = .function:=by rfl) (hcell:∀ y∈scope.names,y.2 ≠ .cell:=by decide) (hnames:∀ y∈scope.names,y.2 = .local→scope.names.lookup y.1=some .local:=by decide +kernel)
  (hs:∀ x,foldedSetIterable iter X.env x=pure x:=by intro _;rfl):PE X (.ListComp elt [⟨tg,iter,ifs,0⟩] scope pos) (tLC src wi g tt te):=by
 intro pins s σ H Q I h
 have no:∀ {E:Value→Shared→Prop},∀ (e:Value) (s':Shared),False→E e s':=fun _ _ f=>f.elim
 obtain ⟨cl,hcl,a,b⟩:=Wb X.env scope fun x hx=>I.ok.has x (hfree x hx)
 rw [eval_ListComp]
 refine wpAny_comprehension_free (use:=none) rfl hs hcl hk hnames (thn (hi pins s σ H _ I h) fun v s1 h1=>thn h1 fun itv s2 h2=>?_)
 obtain ⟨it,fp,tn,J,H2,e,I2,T,st2,f2,q⟩:=h2
 subst e
 have hD:H2 s2.heap.objs.size=none:=I2.hok.fresh (Nat.le_refl _)
 obtain ⟨W,⟨m0,w0⟩,turn⟩:=q s2.heap.objs.size hD
 have I3:=I2.lnew (t':=s2.toks) (ys:=[]) (its:=[]) .nil (Nat.zero_le _)
 have fl2:∀ b∈fp,b<s2.heap.objs.size:=fun b hb=>by
  obtain ⟨o,e,_⟩:=T.obj _ _ st2 b hb
  exact Heap.lt_size e
 refine wpAny_newObj_type ?_
 generalize es3:({ s2 with heap:=s2.heap.push { cls := .type "list",dict:=none,data := .seq ([]:List Value).toArray } }:Shared)=s3
 have I3':Inv X pins σ (upd H2 s2.heap.objs.size (.lst [])) s3:=es3▸I3
 have keep3:∀ b o,s2.heap.get? b=some o→s3.heap.get? b=some o:=fun b o e=>by rw [← es3];exact Heap.get?_push_of_some _ e
 have st3:tn 0 s3.heap:=T.keep _ _ _ st2 fun b _ o e=>keep3 b o e
 have fl3:∀ b∈fp,b<s3.heap.objs.size:=fun b hb=>by
  obtain ⟨o,e,_⟩:=T.obj _ _ st3 b hb
  exact Heap.lt_size e
 have f3:∀ b∈fp,Xj X pins (upd H2 s2.heap.objs.size (.lst [])) b:=fun b hb=>⟨by rw [Yl (Nat.ne_of_lt (fl2 b hb))];exact (f2 b hb).1,(f2 b hb).2⟩
 generalize eD:s2.heap.objs.size=D at *
 generalize eH3:upd H2 D (.lst [])=H3 at *
 refine wpAny_newFunctionEnv hcell (by intro y hy;simp at hy) (fun h₁ hns₁ hsb₁=>?_) hk
 have keep4:∀ b o,s3.heap.get? b=some o→h₁.get? b=some o:=fun b o e=>hsb₁.extBut b o (Nat.ne_of_lt (Heap.lt_size e)) (Heap.get?_push_of_some _ e)
 have I4:=WP (N':=N') (src:=src) (tk:=s3.toks+([]:List (Str×Value)).length) hk hcell hcap a b I3' f3 fl3 rfl keep4 hns₁
 -- the iterator's objects,through the block
 have stat:∀ {H':Hp},(∀ b∈fp,H' b=none)→∀ b∈fp,Xj (cxC X scope N' cl s3.heap.objs.size s3 H3 fp (X.pn++pins)) [] H' b:=fun hn b' hb=>by
  obtain ⟨f0,f1,fs,fe,f4,f5⟩:=f3 b' hb
  refine ⟨hn b' hb,Nat.ne_of_lt (fl3 b' hb),fun z=>?_,.inl hb,fun x c h=>f4 x c (a x c h),fun p hp=>f5 p (by simpa [cxC] using hp)⟩
  rcases List.mem_cons.mp (I3'.stkSub b' z) with e | e
  ·exact f1 e
  ·exact fs e
 -- Vh the block
 have fin:∀ {H':Hp} {s':Shared} {σ':St} {pins':List (Addr×Obj)},Inv (cxC X scope N' cl s3.heap.objs.size s3 H3 fp (X.pn++pins)) pins' σ' H' s'→∀ h',Heap.SameBut s3.heap.objs.size s'.heap h'→Inv X pins σ H' { s' with heap:=h' }:=fun {H' s' σ' pins'} J' h' sb=>by
  have same:∀ b o,b≠s3.heap.objs.size→s'.heap.get? b=some o→h'.get? b=some o:=fun b o hb e=>sb.extBut b o hb e
  have u:Un (frs X.stack) fp H3 H' s3.heap s'.heap:=J'.base
  refine I3'.call' (s':={ s' with heap:=h' }) (ch:=fp) J'.os ⟨fun b o e n hb hx=>?_,fun b o e n hb hx=>?_,u.free,fun b o e hx=>?_,u.tups,u.frzs,u.tbls⟩ (fun b o e=>?_) J'.bare fun b hb=>?_
  ·exact same b o (Nat.ne_of_lt (Heap.lt_size e)) (u.keep b o e n hb hx)
  ·obtain ⟨sl,z⟩:=u.slot b o e n hb hx
   exact ⟨sl,same b _ (Nat.ne_of_lt (Heap.lt_size e)) z⟩
  ·obtain ⟨o',z⟩:=u.there b o e hx
   exact ⟨o',same b o' (Nat.ne_of_lt (Heap.lt_size e)) z⟩
  ·have nC:∀ c v,H' c=some v→c≠s3.heap.objs.size:=fun c v z q=>by
    have:=J'.free
    rw [show (cxC X scope N' cl s3.heap.objs.size s3 H3 fp (X.pn++pins)).env.locals=s3.heap.objs.size from rfl,← q,z] at this
    cases this
   refine (J'.hok b o e).stay (fun c v hc q=>same c v ?_ q) (fun _ q=>q) fun _ _ q=>q
   rcases hc with z | z
   ·rw [z];exact nC b o e
   ·exact nC c _ z
  ·obtain ⟨f0,f1,fs,fe,f4,f5⟩:=f3 b hb
   exact ⟨fe,f1,f4,f5⟩
 have loop:codeAny (model X.prog X.w) X.A (.compLoop (.ListComp elt [⟨tg,iter,ifs,0⟩] scope pos) 0 (.ref it) (.ref D) (compEnvC scope cl s3.heap.objs.size X.env))
   (compPost (model X.prog X.w) X.A X.xe none (EP X pins σ Q) (.ref D) s3.heap.objs.size) { s3 with heap:=h₁,toks:=s3.toks+([]:List (Str×Value)).length }:=by
  refine VF (fun n s'=>∃ i ys σ' H',Inv (cxC X scope N' cl s3.heap.objs.size s3 H3 fp (X.pn++pins)) [] σ' H' s'∧tn i s'.heap∧(∀ b∈fp,H' b=none)∧W i n ys σ' H') ?_ m0 ⟨0,[],YC src σ,H3,I4,T.keep _ _ _ st3 fun b _ o e=>keep4 b o e,fun b hb=>(f3 b hb).1,w0⟩
  rintro n s5 ⟨i,ys,σ5,H5,I5,st5,fr5,w5⟩
  obtain ⟨hDs,stop | go⟩:=turn i n ys σ5 H5 w5
  ·obtain ⟨stop,qn⟩:=stop
   refine thn (T.done (cxC X scope N' cl s3.heap.objs.size s3 H3 fp (X.pn++pins)) rfl rfl rfl hc i [] s5 σ5 H5 _ I5 (stat fr5) st5 stop) fun r s6 ⟨hr,I6⟩=>?_
   subst hr
   obtain ⟨m,hn,_⟩:=id I6.loc
   exact ⟨m,hn,fun h' sb=>⟨.ref D,H5,fin I6 h' sb,rfl,qn⟩⟩
  ·obtain ⟨go,N,hN,step⟩:=go
   refine thn (T.item (cxC X scope N' cl s3.heap.objs.size s3 H3 fp (X.pn++pins)) rfl rfl rfl hc i [] s5 σ5 H5 _ I5 (stat fr5) st5 go) fun r s6 ⟨u,hr,h6⟩=>?_
   subst hr
   refine thn h6 fun _ s7 ⟨x,H7,I7,r7,y7,st7,fr7⟩=>?_
   have I7':=I7.pinned (stat fr7) (T.obj _ _ st7)
   have again:∀ {s8:Shared} {σ8:St} {H8:Hp} {ys':List V},Inv (cxC X scope N' cl s3.heap.objs.size s3 H3 fp (X.pn++pins)) ([]++XO fp s7.heap) σ8 H8 s8→(∃ m',m'<n∧W (i+1) m' ys' σ8 H8) →
     ∃ m,m<n∧∃ i ys σ' H',Inv (cxC X scope N' cl s3.heap.objs.size s3 H3 fp (X.pn++pins)) [] σ' H' s8∧tn i s8.heap∧(∀ b∈fp,H' b=none)∧W i m ys σ' H':=fun {s8 σ8 H8 ys'} I8 ⟨m',hm,w8⟩=>by
    refine ⟨m',hm,i+1,ys',σ8,H8,I8.unpinned,T.keep _ _ _ st7 fun b hb o e=>(I8.pin (b,o) (List.mem_append_right _ (List.mem_append_right _ (YO hb e)))).1,fun b hb=>?_,w8⟩
    obtain ⟨o,e,d⟩:=T.obj _ _ st7 b hb
    exact (I8.pin (b,o) (List.mem_append_right _ (List.mem_append_right _ (YO hb e)))).2.1
   refine thn (hg cl _ s3 H3 fp _ _ s7 σ5 H7 x u _ I7' r7 (step x H7 y7)) fun _ s8 ⟨σ8,H8,I8,q8⟩=>?_
   refine thn (ht cl _ s3 H3 fp _ _ s8 σ8 H8 _ I8 q8) fun ok s9 ⟨H9,I9,q9⟩=>?_
   cases ok with
   | false=>exact again I9 (hN _ _ _ q9)
   | true =>
    rw [if_pos rfl]
    refine thn (he cl _ s3 H3 fp _ _ s9 σ8 H9 _ I9 q9) fun y s10 ⟨yv,H10,I10,r10,q10⟩=>?_
    obtain ⟨hDy,hlen,w10⟩:=q10
    refine thn (XA (X:=cxC X scope N' cl s3.heap.objs.size s3 H3 fp (X.pn++pins)) _ s10 σ8 H10 (.ref D) [yv] (.ref D) [y] (fun _ H'=>H'=upd H10 D (.lst (ys++[yv]))) I10 rfl (.cons r10 .nil) ⟨D,ys,yv,rfl,rfl,hDy,hlen,rfl⟩) fun _ s11 ⟨_,H11,I11,_,e11⟩=>?_
    subst e11
    exact again I11 (hN _ _ _ w10)
 exact codeAny_compStart_list loop (T.self _ 0 _ _ _ (T.keep _ _ _ st3 fun b _ o e=>keep4 b o e) loop)
end
end L2
namespace L2
open PySem PySem.Spec PyProof.Rows
def XS (x:Str) (lo hi:Option Int):Str:=⟨((x.cps.toList.drop (HT.sIx x.length 0 lo)).take (HT.sIx x.length x.length hi - HT.sIx x.length 0 lo)).toArray⟩
theorem W3 (lo hi:Option Int) (n:Nat):Builtin.Str.strSliceIndices lo hi 1 n=(List.range (HT.sIx n n hi - HT.sIx n 0 lo)).map fun k=>HT.sIx n 0 lo+k:=by
 have clip:∀ (v:Int) (d:Nat),max 0 (min (if v<0 then v+(n:Int) else v) (n:Int))=((HT.sIx n d (some v):Nat):Int):=fun v d=>by
  show _=(((if v<0 then (v+(n:Int)).toNat else min v.toNat n):Nat):Int)
  by_cases hv:v<0
  ·simp only [if_pos hv];omega
  ·simp only [if_neg hv];omega
 have key:∀ (i j:Nat),sliceRange (i:Int) (j:Int) 1=(List.range (j - i)).map fun k=>i+k:=fun i j=>by
  unfold sliceRange
  have e:(if (1:Int)>0 then (if (i:Int)<(j:Int) then ((j:Int) - (i:Int)+1 - 1) / 1 else 0) else (if (i:Int)>(j:Int) then ((i:Int) - (j:Int) - 1 - 1) / (-1) else 0)).toNat=j - i:=by
   rw [if_pos (by decide)]
   by_cases h:(i:Int)<(j:Int)
   ·rw [if_pos h,Int.ediv_one];omega
   ·rw [if_neg h];omega
  dsimp only
  rw [e]
  refine List.map_congr_left fun k _=>?_
  omega
 have lo':(match lo with | none=>(0:Int) | some v=>max 0 (min (if v<0 then v+(n:Int) else v) (n:Int)))=((HT.sIx n 0 lo:Nat):Int):=by
  cases lo with
  | none=>rfl
  | some v=>exact clip v 0
 have hi':(match hi with | none=>(n:Int) | some v=>max 0 (min (if v<0 then v+(n:Int) else v) (n:Int)))=((HT.sIx n n hi:Nat):Int):=by
  cases hi with
  | none=>rfl
  | some v=>exact clip v n
 rw [← key,← lo',← hi']
 unfold Builtin.Str.strSliceIndices
 cases lo<;>cases hi<;>simp
theorem V3 (x:Str) (lo hi:Option Int):Txt.slice x lo hi=XS x lo hi:=by
 have hle1:=HT.sIx_le x.length 0 (Nat.zero_le _) lo
 have hle2:=HT.sIx_le x.length x.length (Nat.le_refl _) hi
 have core:((Builtin.Str.strSliceIndices lo hi 1 x.length).filterMap (x.cps[·]?))=(x.cps.toList.drop (HT.sIx x.length 0 lo)).take (HT.sIx x.length x.length hi - HT.sIx x.length 0 lo):=by
  rw [W3,List.filterMap_map]
  generalize HT.sIx x.length 0 lo=i
  generalize HT.sIx x.length x.length hi - i=k
  have gen:∀ (l:List Nat) (k:Nat),(List.range k).filterMap (fun m=>l[m]?)=l.take k:=by
   intro l k
   induction k with
   | zero=>simp
   | succ k ih =>
    rw [List.range_succ,List.filterMap_append,ih]
    by_cases hk:k<l.length
    ·rw [List.take_succ_eq_append_getElem hk];simp [hk]
    ·have h1:l.take (k+1)=l:=List.take_of_length_le (by omega)
     have h2:l.take k=l:=List.take_of_length_le (by omega)
     rw [h1,h2];simp [hk]
  have e:((fun j=>x.cps[j]?) ∘ fun k=>i+k)=fun m=>(x.cps.toList.drop i)[m]?:=by
   funext m
   simp [List.getElem?_drop]
  rw [e,gen]
 unfold Txt.slice XS
 rw [core]
 split
 ·rename_i h
  simp only [beq_self_eq_true,Bool.true_and,beq_iff_eq] at h
  rw [W3,List.length_map,List.length_range] at h
  have h0:HT.sIx x.length 0 lo=0∨x.length=0:=by omega
  have e:(x.cps.toList.drop (HT.sIx x.length 0 lo)).take (HT.sIx x.length x.length hi - HT.sIx x.length 0 lo)=x.cps.toList:=by
   have hl:x.cps.toList.length=x.length:=by simp [Str.length]
   rcases h0 with h0 | h0
   ·rw [h,h0,List.drop_zero,List.take_of_length_le (by omega)]
   ·have:x.cps.toList=[]:=List.eq_nil_of_length_eq_zero (by omega)
    rw [this];simp
  rw [e]
 ·rfl
theorem Vl (x:Str) (lo hi:Option Int):(XS x lo hi).length≤x.length:=by
 rw [← V3];exact Txt.slice_le x lo hi
def rSlS:V→Option Int→Option Int→Hp→VK→Prop:=fun x lo hi H Q=>∃ z,x = .str z∧z.length≤sizeLine∧Q (.str (XS z lo hi)) H
section
variable {X:Cx}
theorem V4:SlR X rSlS:=by
 intro pins s σ H x v vl vu lo hi sl Q I rx hs pl pu h
 obtain ⟨z,rfl,hz,q⟩:=h
 obtain ⟨t,rfl⟩:=rx
 refine ⟨"str",_,F.slot_str_getitem.lookup,typeIs_str _ _ _,?_⟩
 have fin:∀ (l u:Option (Int×Tok)),l.map (·.1)=lo→u.map (·.1)=hi→s.heap.IsSlice sl l u none→wpAny (model X.prog X.w) X.A (getItem (.str z t) (.ref sl)) (EP X pins σ Q) X.xe s:=fun l u el eu hsl=>by
  refine wpAny_getItem_str_slice (l:=l) (u:=u) (st:=none) hsl rfl ?_
  have e:(if (((none:Option (Int×Tok)).map (·.1)).getD 1==1&&(slicePicked z l u none).length==z.length)=true then z else ⟨((slicePicked z l u none).filterMap (z.cps[·]?)).toArray⟩)=XS z lo hi:=by
   rw [← V3,← el,← eu]
   rfl
  refine post_val_or_str ⟨by rw [e];exact Nat.le_trans (Vl z lo hi) hz,fun t' k=>?_⟩
  rw [e]
  exact ⟨.str (XS z lo hi),H,I.tok k,⟨t',rfl⟩,q⟩
 obtain ⟨o,ho,hc,hd⟩:=hs
 cases pl with
 | none =>
  cases pu with
  | none=>exact fin none none rfl rfl ⟨o,ho,hc,hd⟩
  | int j tj=>exact fin none (some (j,tj)) rfl rfl ⟨o,ho,hc,hd⟩
 | int i ti =>
  cases pu with
  | none=>exact fin (some (i,ti)) none rfl rfl ⟨o,ho,hc,hd⟩
  | int j tj=>exact fin (some (i,ti)) (some (j,tj)) rfl rfl ⟨o,ho,hc,hd⟩
theorem Xn:OpR X (compareOp .LtE) (fun x y H Q=>∃ i j,x = .str i∧y = .str j∧Q (.bl (!decide (j.cps.toList<i.cps.toList))) H):=by
 intro pins s σ H x y v u Q I rx ry h
 obtain ⟨i,j,rfl,rfl,q⟩:=h
 obtain ⟨t,rfl⟩:=rx
 obtain ⟨t',rfl⟩:=ry
 exact PySem.P.le_str ⟨.bl _,H,I,rfl,q⟩
def Its (x:Str):It:=⟨fun i _=>i<x.length,fun i H v H'=>H'=H∧∃ c,x.cps.toList[i]?=some c∧v = .str ⟨#[c]⟩,fun i _=>x.length≤i⟩
theorem YaH {P:Program} {w:World} {K:PySem.W.Frag} {tg:Expr} (x:Str) (t:Tok) (it:Addr):Turn P w K tg (Its x) [it] it (fun i h=>h.IsStrIter it "str_ascii_iterator" x t i∨h.IsStrIter it "str_iterator" x t i) where
 mem:=by simp
 obj:=fun i h st b hb=>by
  have e:b=it:=by simpa using hb
  subst e
  rcases st with ⟨o,e,c,d⟩ | ⟨o,e,c,d⟩<;>exact ⟨o,e,fun v z=>by rw [d] at z;cases z⟩
 keep:=fun i h h' st k=>by
  rcases st with ⟨o,e,c⟩ | ⟨o,e,c⟩
  ·exact .inl ⟨o,k it (by simp) o e,c⟩
  ·exact .inr ⟨o,k it (by simp) o e,c⟩
 item:=by
  intro X hP hw hK hc i pins s σ H E I hf st hg
  subst hP hw hK
  have hi:i<x.cps.size:=hg
  have hx:x.cps[i]?=some x.cps[i]:=by simp [hi]
  obtain ⟨f0,f1,f2,f3,f4,f5⟩:=hf it (by simp)
  have fin:∀ (ty:String) (h':Heap),["enumerate","zip","dict_itemiterator","dict_reverseitemiterator","odict_iterator","itertools.zip_longest","itertools.pairwise"].contains ty=false→h'.IsStrIter it ty x t (i+1)→Heap.SameBut it s.heap h' →
    (h'.IsStrIter it ty x t (i+1)→(h'.IsStrIter it "str_ascii_iterator" x t (i+1)∨h'.IsStrIter it "str_iterator" x t (i+1))) →
    ∃ u,some (Value.str ⟨#[x.cps[i]]⟩ s.toks)=some u∧wpAny (model X.prog X.w) X.A (letOwnedTupleGo tg (.ref it) u) (fun _ s2=>∃ y H',Inv X pins σ H' s2∧Yo y u∧(Its x).yld i H y H' ∧
     (s2.heap.IsStrIter it "str_ascii_iterator" x t (i+1)∨s2.heap.IsStrIter it "str_iterator" x t (i+1))∧∀ b∈[it],H' b=none) E { s with heap:=h',toks:=s.toks+1 }:=fun ty h' hn st' sb hor=>by
   have I1:Inv X pins σ H { s with heap:=h',toks:=s.toks+1 }:=I.turned (t':=s.toks+1) (fun b o hb e=>(sb.2 b hb).trans e) f0 f1 f3 f4 f5
   obtain ⟨o,e,c,d⟩:=id st'
   exact ⟨_,rfl,VN (s:={ s with heap:=h',toks:=s.toks+1 }) e c d hn ⟨.str ⟨#[x.cps[i]]⟩,H,I1,⟨_,rfl⟩,⟨rfl,x.cps[i],by simp [hi],rfl⟩,hor st',fun b hb=>(hf b hb).1⟩⟩
  rcases st with st | st
  ·exact wpAny_pyNext_ascii_item st hx fun h' st' sb=>fin _ h' (by decide) st' sb .inl
  ·exact wpAny_pyNext_wide_item st hx fun h' st' sb=>fin _ h' (by decide) st' sb .inr
 done:=by
  intro X hP hw hK hc i pins s σ H E I hf st hg
  subst hP hw hK
  have hi:x.cps.size≤i:=hg
  have hx:x.cps[i]?=none:=by simp [hi]
  obtain ⟨f0,f1,f2,f3,f4,f5⟩:=hf it (by simp)
  rcases st with st | st
  ·exact wpAny_pyNext_ascii_end (I.ok.hd hc) st hx fun h' eb=>⟨rfl,I.turned (t':=s.toks) (fun b o hb e=>eb b o hb e) f0 f1 f3 f4 f5⟩
  ·exact wpAny_pyNext_wide_end (I.ok.hd hc) st hx fun h' eb=>⟨rfl,I.turned (t':=s.toks) (fun b o hb e=>eb b o hb e) f0 f1 f3 f4 f5⟩
 self:=fun A i s Q E st h=>by
  rcases st with st | st
  ·exact wpAny_pyIter_slot st.typeIs F.slot_str_ascii_iterator_iter (wpAny_call_entry F.slot_str_ascii_iterator_iter st.typeIs F.entry_str_ascii_iterator_iter (wpAny_pure ⟨_,rfl,"str_ascii_iterator",_,st.typeIs,F.slot_str_ascii_iterator_next.lookup,h⟩) (F.args_str_ascii_iterator_iter_1 _))
  ·exact wpAny_pyIter_slot st.typeIs F.slot_str_iterator_iter (wpAny_call_entry F.slot_str_iterator_iter st.typeIs F.entry_str_iterator_iter (wpAny_pure ⟨_,rfl,"str_iterator",_,st.typeIs,F.slot_str_iterator_next.lookup,h⟩) (F.args_str_iterator_iter_1 _))
end
end L2
namespace L2
open PySem PySem.Spec PyProof.Rows
section
variable {X:Cx} {tg:Expr}
def iStr (tl:TE):TI:=fun σ H R=>tl σ H fun x H1=>∃ z,x = .str z∧R (Its z) H1
theorem V5 {l:Expr} {tl:TE} (hl:PE X l tl):PI X tg l (iStr tl):=by
 intro pins s σ H R I h
 refine thn (hl pins s σ H _ I h) fun v s1 ⟨x,H1,I1,r1,q1⟩=>?_
 obtain ⟨z,e,q⟩:=q1
 subst e
 obtain ⟨t,rfl⟩:=r1
 refine wpAny_pyIter_strU ?_
 refine ⟨s1.heap.objs.size,[s1.heap.objs.size],_,_,H1,rfl,I1.kept (t':=s1.toks) fun b o e=>Heap.get?_push_of_some _ e,YaH z t _,?_,fun b hb=>?_,q⟩
 ·unfold strIterType
  split
  ·exact .inl ⟨_,Heap.get?_push_size _ rfl,rfl,rfl⟩
  ·exact .inr ⟨_,Heap.get?_push_size _ rfl,rfl,rfl⟩
 ·have e:b=s1.heap.objs.size:=by simpa using hb
  subst e
  exact I1.fpOk (Nat.le_refl _) (I1.hok.fresh (Nat.le_refl _))
def Xy (J:It) (P:Hp→Prop) (xs:List V):Prop:=∀ H,P H→∀ i,(∀ x,xs[i]?=some x→J.go i H∧∀ y H',J.yld i H y H'→H'=H∧y=x)∧(xs.length≤i→J.stop i H)
theorem VG (z:Str) (P:Hp→Prop):Xy (Its z) P (z.cps.toList.map fun c => .str ⟨#[c]⟩):=fun H _ i=>by
 refine ⟨fun x hx=>?_,fun hi=>?_⟩
 ·rw [List.getElem?_map] at hx
  cases e:z.cps.toList[i]? with
  | none=>rw [e] at hx;simp at hx
  | some c =>
   rw [e] at hx
   have hx':V.str ⟨#[c]⟩=x:=by simpa using hx
   subst hx'
   have hi:i<z.cps.toList.length:=(List.getElem?_eq_some_iff.mp e).1
   refine ⟨by show i<z.cps.size;simpa using hi,fun y H' ⟨e1,c',e2,e3⟩=>⟨e1,?_⟩⟩
   rw [e] at e2
   cases e2
   exact e3
 ·show z.cps.size≤i
  simpa using hi
theorem Q0 {K:PySem.W.Frag} {a:Addr} {xs:List V}:Xy (Itt K a) (fun H=>SqT K H a xs) xs:=fun H hq i=>by
 refine ⟨fun x hx=>⟨⟨xs,x,hq,hx⟩,fun y H' ⟨e1,e2⟩=>⟨e1,?_⟩⟩,fun hi=>⟨xs,hq,hi⟩⟩
 have:=e2 xs hq
 rw [hx] at this
 exact (Option.some.inj this).symm
theorem Qi {K:PySem.W.Frag} {a:Addr} {xs:List V}:Xy (Itl K a) (fun H=>SqL K H a xs) xs:=fun H hq i=>by
 refine ⟨fun x hx=>⟨⟨xs,x,hq,hx⟩,fun y H' ⟨e1,e2⟩=>⟨e1,?_⟩⟩,fun hi=>⟨xs,hq,hi⟩⟩
 have:=e2 xs hq
 rw [hx] at this
 exact (Option.some.inj this).symm
theorem Xy.imp {J:It} {P P':Hp→Prop} {xs:List V} (h:Xy J P xs) (hp:∀ H,P' H→P H):Xy J P' xs:=fun H q=>h H (hp H q)
theorem lc_by {J:It} {P:Hp→Prop} {xs:List V} (hJ:Xy J P xs) {src:List (Option Nat)} {g:TG} {tt:TT} {te:TE} {σ:St} {H1:Hp} {Q:VK} {D:Addr} (Pv:Nat→List V→St→Hp→Prop)
  (h0:Pv 0 [] (YC src σ) (upd H1 D (.lst []))) (hP:∀ i ys σ' H',Pv i ys σ' H'→P H'∧H' D=some (.lst ys))
  (step:∀ i ys σ' H' x,xs[i]?=some x→Pv i ys σ' H'→g x σ' H' fun σ2 H4=>tt σ2 H4 fun b H5=>if b=true then te σ2 H5 fun y H6=>H6 D=some (.lst ys)∧ys.length<sizeLine∧Pv (i+1) (ys++[y]) σ2 (upd H6 D (.lst (ys++[y]))) else Pv (i+1) ys σ2 H5)
  (fin:∀ ys σ' H',Pv xs.length ys σ' H'→Q (.ref D) H') :
  LC src J g tt te σ H1 Q D:=by
 refine ⟨fun i m ys σ' H'=>m=xs.length - i∧i≤xs.length∧Pv i ys σ' H',⟨xs.length,by simp,Nat.zero_le _,h0⟩,?_⟩
 rintro i m ys σ' H2 ⟨rfl,hi,p⟩
 obtain ⟨hp,hD⟩:=hP i ys σ' H2 p
 refine ⟨hD,?_⟩
 by_cases hlt:i<xs.length
 ·obtain ⟨go,yl⟩:=(hJ H2 hp i).1 xs[i] (by simp [hlt])
  refine .inr ⟨go,fun ys' σ3 H3=>Pv (i+1) ys' σ3 H3,fun ys' σ3 H3 p'=>⟨xs.length - (i+1),by omega,rfl,hlt,p'⟩,fun x H3 y=>?_⟩
  obtain ⟨e1,e2⟩:=yl x H3 y
  subst e1 e2
  exact step i ys σ' _ _ (by simp [hlt]) p
 ·have e:i=xs.length:=by omega
  subst e
  exact .inl ⟨(hJ H2 hp _).2 (Nat.le_refl _),fin ys σ' H2 p⟩
theorem Same.upd_new {H:Hp} {p:Addr} (h:H p=none) (o:HO):Same H (upd H p o):=fun b u q=>by rw [Yl (Yq q h)];exact q
theorem Same.upd_over {H H':Hp} {p:Addr} (h:H p=none) (e:Same H H') (o:HO):Same H (upd H' p o):=fun b u q=>by rw [Yl (Yq q h)];exact e b u q
theorem Same.tup {K:PySem.W.Frag} {H H':Hp} {a:Addr} {xs:List V} (e:Same H H') (h:SqT K H a xs):SqT K H' a xs:=by
 rcases h with (h | ⟨o,h⟩) | h
 ·exact .inl (.inl (e _ _ h))
 ·exact .inl (.inr ⟨o,e _ _ h⟩)
 ·exact .inr h
end
section
variable {X:Cx}
theorem V6:∀ {bs:List Bool} {us:List Value},Yi (bs.map V.bl) us→LSm.BoolsAre us bs
 | [],_,h=>by rw [Yi.zero h];exact .nil
 | b::bs,us,h=>by
  have h':Yi (V.bl b::bs.map V.bl) us:=h
  cases h' with
  | cons r t=>cases (show _=Value.bool b from r);exact .cons b (V6 t)
theorem X6 (hc:X.calm=true):YX X (.builtin "all") (fun xs H Q=>∃ (p:Addr) (bs:List Bool),xs=[.ref p]∧SqL X.K H p (bs.map V.bl)∧Q (.bl (bs.all id)) H):=by
 intro pins s σ H xs us Q I r h
 obtain ⟨p,bs,rfl,hq,q⟩:=h
 obtain ⟨u,rfl,rx⟩:=XW r
 cases rx
 obtain ⟨its,r',pl,hz⟩:=I.list hq
 have hb:=V6 r'
 have hl:=pl.isList
 have hlt:p<s.heap.objs.size:=by obtain ⟨_,e,_⟩:=hl;exact Heap.lt_size e
 refine call_all_walk (wpAny_pyIter_list hl ?_)
 refine ⟨s.heap.objs.size,[s.heap.objs.size,p],[s.heap.objs.size],its.toArray.size,_,_,fun i=>(bs[i]?).getD true,rfl,Walks.list (A:=X.A.in1) (I.ok.hd hc) _ p (Nat.ne_of_lt hlt) its.toArray,
  ⟨⟨_,Heap.get?_push_size _ rfl,rfl,rfl⟩,hl.push _⟩,fun i v s' Q' E' hP hQ=>?_,fun h' tk hk=>?_⟩
 ·obtain ⟨b,e,rfl⟩:=hb.get i v (by simpa using hP)
  simp only [e,Option.getD_some] at hQ
  exact wpAny_truthy_bool hQ
 ·have e:((List.range its.toArray.size).all fun i=>(bs[i]?).getD true)=bs.all id:=by
   rw [List.size_toArray,hb.length];exact LSm.range_all bs
  rw [e]
  exact ⟨.bl _,H,I.kept (t':=tk) (LSm.kept_iter hk),rfl,q⟩
theorem UQ:∀ {ys:List Str} {us:List Value},Yi (ys.map V.str) us→StrsAre us ys
 | [],_,h=>by rw [Yi.zero h];exact .nil
 | y::ys,us,h=>by
  have h':Yi (V.str y::ys.map V.str) us:=h
  cases h' with
  | cons r t=>obtain ⟨t',rfl⟩:=r;exact .cons y t' (UQ t)
def Ya5 (K:PySem.W.Frag):V→List V→Hp→VK→Prop:=fun x vs H Q=>∃ (z:Str) (p:Addr) (ys:List Str),x = .str z∧vs=[.ref p]∧SqL K H p (ys.map V.str)∧(ys.map (·.length)).sum+ys.length*z.length≤16777216∧Q (.str (Txt.join z ys)) H
theorem YbG:MtR X "str.join" (Ya5 X.K):=by
 intro pins s σ H x vs v us Q I rx rv h
 obtain ⟨z,p,ys,rfl,rfl,hq,hl,q⟩:=h
 obtain ⟨t,rfl⟩:=rx
 obtain ⟨u,rfl,ru⟩:=rv.one
 cases ru
 obtain ⟨its,r,pl,hz⟩:=I.list hq
 exact join_list pl.isList (by simpa using UQ r) hl fun t' k=>⟨.str _,H,I.tok k,⟨t',rfl⟩,q⟩
def Wc:V→Option Value
 | .ty n=>some (.type n)
 | .ref a=>some (.ref a)
 | _=>none
theorem UE:YX X (.builtin "isinstance") (fun xs H Q=>∃ x c cv t b,xs=[x,c]∧Wc c=some cv∧TyOf X.K H x t∧PySem.W.kitOne X.K t cv=some b∧Q (.bl b) H):=by
 intro pins s σ H xs us Q I r h
 obtain ⟨x,c,cv,t,b,rfl,ec,ty,e,q⟩:=h
 obtain ⟨u,w',rfl,ru,rw'⟩:=YaZ r
 have ew:w'=cv:=by
  cases c with
  | ty n=>cases (show w'=Value.type n from rw');simpa [Wc] using ec
  | ref a=>cases (show w'=Value.ref a from rw');simpa [Wc] using ec
  | _=>simp [Wc] at ec
 subst ew
 exact QU I ru ty e fun tk=>⟨.bl b,H,I.tok tk,rfl,q⟩
end
end L2
namespace L2
open PySem PySem.Spec PyProof.Rows
section
variable {prog:Program} {w:World} {A:Around} {E:Value→Shared→Prop} {s:Shared}
end
section
variable {prog:Program} {w:World} {A:Around} {E:Value→Shared→Prop} {s:Shared} {z TI TO i1 i2:Addr} {S1 S2:Nat→Heap→Prop} {R1 R2:Heap→(Nat→Option Value)→Prop} {g1 g2:Nat→Option Value} {k:Nat} {a b:Value}
end
end L2
namespace L2
open PySem PySem.Spec PyProof.Rows
section
variable {prog:Program} {w:World} {A:Around} {E:Value→Shared→Prop} {s:Shared}
end
section
variable {X:Cx} {pins:List (Addr×Obj)} {σ:St} {H:Hp} {s:Shared} {h':Heap}
theorem Inv.turnedL {t':Nat} {ch:List Addr} (I:Inv X pins σ H s) (k:∀ b o,b∉ch→s.heap.get? b=some o→h'.get? b=some o) (hf:∀ b∈ch,Xj X pins H b):Inv X pins σ H { s with heap:=h',toks:=t' }:=by
 have nit:∀ b u,H b=some u→b∉ch:=fun b u e z=>by rw [(hf b z).1] at e;cases e
 refine I.step (g':=s.gens) (d':=s.drawn) (ch:=ch) (fun b hb=>?_) (fun b o _ _ hc e _=>k b o hc e) (fun b o _ _ hc e _=>⟨o.slots,k b o hc e⟩) (fun _ _ _ _ n=>n)
  (fun b o hc e=>⟨o,k b o hc e⟩) (fun _ _ e=>e) (fun _ _ _ e=>e) (fun b ps e=>⟨#[],by rw [e];simp⟩) (fun m hm=>?_) (fun b u e=>?_) I.bare
 ·obtain ⟨f0,f1,f2,f3,f4,f5⟩:=hf b hb
  exact ⟨f3,f1,f4,f5⟩
 ·obtain ⟨o,es,ep,ho,r⟩:=hm
  exact ⟨o,es,ep,k _ o (fun z=>(hf _ z).2.1 rfl) ho,r⟩
 ·refine (I.hok b u e).stay (fun c v hc q=>k c v ?_ q) (fun _ q=>q) fun _ _ q=>q
  rcases hc with z | z
  ·rw [z];exact nit b u e
  ·exact nit c _ z
end
end L2
namespace L2
open PySem PySem.Spec PyProof.Rows
section
variable {X:Cx} {elts:List Expr} {kk:Nat} {tpos:Pos}
theorem Qj {J:It} {P:Hp→Prop} {xs:List V} (hJ:Xy J P xs) {src:List (Option Nat)} {g:TG} {te:TE} {σ:St} {H1:Hp} {Q:VK} {D:Addr} (Pv:Nat→List V→St→Hp→Prop)
  (h0:Pv 0 [] (YC src σ) (upd H1 D (.lst []))) (hP:∀ i ys σ' H',Pv i ys σ' H'→P H'∧H' D=some (.lst ys))
  (mono:∀ x σ H Q Q',(∀ σ' H',Q σ' H'→Q' σ' H')→g x σ H Q→g x σ H Q')
  (step:∀ i ys σ' H' x,xs[i]?=some x→Pv i ys σ' H'→g x σ' H' fun σ2 H4=>te σ2 H4 fun y H6=>H6 D=some (.lst ys)∧ys.length<sizeLine∧Pv (i+1) (ys++[y]) σ2 (upd H6 D (.lst (ys++[y]))))
  (fin:∀ ys σ' H',Pv xs.length ys σ' H'→Q (.ref D) H'):LC src J g Wp te σ H1 Q D :=
 lc_by hJ Pv h0 hP (fun i ys σ' H' x hx p=>by
  refine mono _ _ _ _ _ ?_ (step i ys σ' H' x hx p)
  intro σ2 H4 q
  unfold Wp
  dsimp only
  rw [if_pos rfl]
  exact q) fin
theorem Wd (i:Nat):∀ x σ H Q Q',(∀ σ' H',Q σ' H'→Q' σ' H')→Y4 i x σ H Q→Y4 i x σ H Q':=fun _ _ _ _ _ h q=>h _ _ q
theorem YbH {J:It} {P:Hp→Prop} {n:Nat} (hgo:∀ i H,P H→i<n→J.go i H) (hstop:∀ H,P H→J.stop n H) {g:TG} {tb:TS} {D:Ends} {σ:St} {H:Hp} (Pv:Nat→St→Hp→Prop) (h0:Pv 0 σ H) (hP:∀ i σ H,Pv i σ H→P H)
  (hs:∀ i σ H,i<n→Pv i σ H→∀ x H',J.yld i H x H'→g x σ H' fun σ2 H2=>tb { D with nx:=Pv (i+1),ct:=Pv (i+1),bk:=D.nx } σ2 H2) (hd:∀ σ H,Pv n σ H→D.nx σ H) :
  ∃ W:Nat→Nat→St→Hp→Prop,(∃ m,W 0 m σ H)∧∀ i m σ H,W i m σ H →
   (J.stop i H∧D.nx σ H)∨(J.go i H∧∃ N:St→Hp→Prop,(∀ σ' H',N σ' H'→∃ m',m'<m∧W (i+1) m' σ' H')∧∀ x H',J.yld i H x H'→g x σ H' fun σ2 H2=>tb { D with nx:=N,ct:=N,bk:=D.nx } σ2 H2):=by
 refine ⟨fun i m σ H=>m=n - i∧i≤n∧Pv i σ H,⟨n,by simp,Nat.zero_le _,h0⟩,?_⟩
 rintro i m σ H ⟨rfl,hi,p⟩
 have q:=hP i σ H p
 by_cases hlt:i<n
 ·exact .inr ⟨hgo i H q hlt,Pv (i+1),fun σ' H' p'=>⟨n - (i+1),by omega,rfl,hlt,p'⟩,fun x H' y=>hs i σ H hlt p x H' y⟩
 ·have e:i=n:=by omega
  subst e
  exact .inl ⟨hstop H q,hd σ H p⟩
theorem YbI {z:Str} {g:TG} {tb:TS} {D:Ends} {σ:St} {H:Hp} (Pv:Nat→St→Hp→Prop) (h0:Pv 0 σ H)
  (hs:∀ i c σ H,z.cps.toList[i]?=some c→Pv i σ H→g (.str ⟨#[c]⟩) σ H fun σ2 H2=>tb { D with nx:=Pv (i+1),ct:=Pv (i+1),bk:=D.nx } σ2 H2) (hd:∀ σ H,Pv z.cps.toList.length σ H→D.nx σ H) :
  ∃ W:Nat→Nat→St→Hp→Prop,(∃ m,W 0 m σ H)∧∀ i m σ H,W i m σ H →
   ((Its z).stop i H∧D.nx σ H)∨((Its z).go i H∧∃ N:St→Hp→Prop,(∀ σ' H',N σ' H'→∃ m',m'<m∧W (i+1) m' σ' H')∧∀ x H',(Its z).yld i H x H'→g x σ H' fun σ2 H2=>tb { D with nx:=N,ct:=N,bk:=D.nx } σ2 H2) :=
 YbH (P:=fun _=>True) (n:=z.cps.toList.length) (fun i H _ hi=>by show i<z.cps.size;simpa using hi) (fun H _=>by show z.cps.size≤_;simp) Pv h0 (fun _ _ _ _=>trivial)
  (fun i σ H hi p x H' y=>by
   obtain ⟨e,c,hc,e2⟩:=y
   subst e e2
   exact hs i c σ _ hc p) hd
end
end L2
namespace L2
open PySem PySem.Spec PyProof.Rows
structure Gx where
 P:Program
 w:World
 K:PySem.W.Frag
 mg:Str→Option Value
 base:Heap
def Cx.gx (X:Cx):Gx:=⟨X.prog,X.w,X.K,X.mg,X.base⟩
def Gx.Raw (g:Gx) (x qual:Str) (st:Stmt) (ps:List Str):Prop:=∃ f fd,Fun g.K x qual st f fd∧YY g.K fd ps []∧g.mg x=some (.ref f)
def Gx.Fn (g:Gx) (k:Nat) (x:Str) (ps:List Str) (sp:Sp):Prop:=∃ f fd,FnOk g.P g.w g.K g.mg g.base CX0 k f fd ps sp∧YY g.K fd ps []∧PySem.W.keepIn g.K (.ref f)=true∧g.mg x=some (.ref f)
def Gx.RawM (g:Gx) (C:Addr) (m qual:Str) (st:Stmt) (ps:List Str):Prop:=∃ f fd,Fun g.K m qual st f fd∧YY g.K fd ps []∧Meth g.K C m f
def Gx.Me (g:Gx) (k:Nat) (C:Addr) (m:Str) (ps:List Str) (sp:Sp):Prop:=∃ f fd,FnOk g.P g.w g.K g.mg g.base CX0 k f fd ps sp∧YY g.K fd ps []∧Meth g.K C m f
def Gx.RawI (g:Gx) (x:Str) (C:Addr) (qual:Str) (st:Stmt) (ps:List Str):Prop:=∃ f fd,Fun g.K "__init__" qual st f fd∧YY g.K fd ps []∧Mk g.K C f∧g.mg x=some (.ref C)
def Gx.Ma (g:Gx) (k:Nat) (x:Str) (C:Addr) (ps:List Str) (sp:Sp):Prop:=∃ f fd,FnOk g.P g.w g.K g.mg g.base CX0 k f fd ps sp∧YY g.K fd ps []∧Mk g.K C f∧g.mg x=some (.ref C)
def Gx.Con (g:Gx) (x:Str) (v:V):Prop:=∃ u,g.mg x=some u∧Yo v u
abbrev Gx.cx (g:Gx) (N:List Str) (qual:Str) (st:Stmt) (f:Addr) (cdv:Value) (A:Around) (outer:List Env) (s:Shared) (H:Hp) (E:XK):Cx:=(Wa CX0 g.P g.w g.K g.mg g.base N qual (Yg st) f cdv A outer s H E).nox
def Vm (g:Gx) (k:Nat) (N:List Str) (qual:Str) (st:Stmt) (sp:Sp):Prop:=∀ (f:Addr) (cdv:Value) (A:Around) (outer:List Env) (s:Shared) (H:Hp) (vs:List V) (Q:VK) (E:XK),Room k (g.cx N qual st f cdv A outer s H E).A→sp vs H Q E →
 ∃ t,PSs (g.cx N qual st f cdv A outer s H E) (YH st) t∧t { nx:=fun _ H'=>Q .non H',rt:=Q } (Xq N vs) H
section
variable {g:Gx} {k:Nat} {x qual m:Str} {st:Stmt} {N ps:List Str} {sp:Sp} {C:Addr}
theorem Gx.Raw.fn (R:g.Raw x qual st ps) (S:FnScope N ps (Yg st)) (len:∀ vs H Q E,sp vs H Q E→vs.length=ps.length) (b:Vm g k N qual st sp):g.Fn (k+1) x ps sp:=by
 obtain ⟨f,fd,F,bd,hm⟩:=R
 exact ⟨f,fd,F.ok S len fun cdv A outer s H vs Q E hr h=>b f cdv A outer s H vs Q E hr h,bd,F.kp,hm⟩
theorem Gx.RawM.me (R:g.RawM C m qual st ps) (S:FnScope N ps (Yg st)) (len:∀ vs H Q E,sp vs H Q E→vs.length=ps.length) (b:Vm g k N qual st sp):g.Me (k+1) C m ps sp:=by
 obtain ⟨f,fd,F,bd,hm⟩:=R
 exact ⟨f,fd,F.ok S len fun cdv A outer s H vs Q E hr h=>b f cdv A outer s H vs Q E hr h,bd,hm⟩
theorem Gx.RawI.ma (R:g.RawI x C qual st ps) (S:FnScope N ps (Yg st)) (len:∀ vs H Q E,sp vs H Q E→vs.length=ps.length) (b:Vm g k N qual st sp):g.Ma (k+1) x C ps sp:=by
 obtain ⟨f,fd,F,bd,hm,hg⟩:=R
 exact ⟨f,fd,F.ok S len fun cdv A outer s H vs Q E hr h=>b f cdv A outer s H vs Q E hr h,bd,hm,hg⟩
theorem Gx.Fn.mono {j:Nat} (F:g.Fn j x ps sp) (h:j≤k):g.Fn k x ps sp:=by
 obtain ⟨f,fd,F,r⟩:=F
 exact ⟨f,fd,F.mono h,r⟩
theorem Gx.Me.mono {j:Nat} (F:g.Me j C m ps sp) (h:j≤k):g.Me k C m ps sp:=by
 obtain ⟨f,fd,F,r⟩:=F
 exact ⟨f,fd,F.mono h,r⟩
theorem Gx.Raw.none (R:g.Raw x qual st ps) (no:∀ vs H Q E,¬ sp vs H Q E):g.Fn k x ps sp:=by
 obtain ⟨f,fd,F,bd,hm⟩:=R
 exact ⟨f,fd,⟨fun vs H Q E h=>absurd h (no vs H Q E),fun A outer s H args us vs Q E _ _ _ _ h=>absurd h (no vs H Q E)⟩,bd,F.kp,hm⟩
theorem Gx.RawM.none (R:g.RawM C m qual st ps) (no:∀ vs H Q E,¬ sp vs H Q E):g.Me k C m ps sp:=by
 obtain ⟨f,fd,F,bd,hm⟩:=R
 exact ⟨f,fd,⟨fun vs H Q E h=>absurd h (no vs H Q E),fun A outer s H args us vs Q E _ _ _ _ h=>absurd h (no vs H Q E)⟩,bd,hm⟩
end
section
variable {g:Gx} {X:Cx} {k j:Nat} {x m:Str} {ps:List Str} {sp:Sp} {C:Addr} {e o:Expr} {es:List Expr} {t:TA} {ta:TE} {p pos apos:Pos}
theorem YR (F:g.Fn j x ps sp) (hr:Room k X.A) (ha:PA X (e::es) t) (hj:j≤k:=by omega) (hX:X.gx=g:=by rfl) (hg:Gl X x:=by rfl) (hdb:(x==("__debug__":Str))=false:=by decide)
  (he:starEach (e::es) X.env=(false,eval e X.env)::starEach es X.env:=by rfl) (hpl:(backTo pos (starEach es X.env)).any (·.1)=false:=by rfl):PE X (.Call (.Name x p) (e::es) [] pos) (VO sp [] E0 t):=by
 subst hX
 obtain ⟨f,fd,F,b,kp,hm⟩:=F
 exact UN F (hr.mono hj) hg hm kp b .nil VQ ha hdb he hpl
theorem W4 {pl:Sem Bool} (F:g.Me j C m ps sp) (c:Cls g.K C) (hr:Room k X.A) (ho:PE X o ta) (ha:PA X (e::es) t) (hj:j≤k) (hX:X.gx=g)
  (hst:starEach (e::es) X.env=(false,eval e X.env)::starEach es X.env) (hpl:(backTo pos (starEach es X.env)).any (·.1)=false)
  (ht:eval (.Call (.Attribute o m apos) (e::es) [] pos) X.env=(do
   let ov ← eval o X.env
   standAt apos.atName
   let (f,first) ← holding [ov] (getMethod ov m pl)
   callWith pos f first (backTo pos (starEach (e::es) X.env)) (backToKw pos (keywordEach [] X.env)))):PE X (.Call (.Attribute o m apos) (e::es) [] pos) (WD C m sp [] E0 ta t):=by
 subst hX
 obtain ⟨f,fd,F,b,hm⟩:=F
 exact YbA ho c hm F (hr.mono hj) b .nil VQ ha hst hpl ht
theorem Wq {pl:Sem Bool} (F:g.Me j C m ps sp) (c:Cls g.K C) (hr:Room k X.A) (ho:PE X o ta) (hj:j≤k:=by omega) (hX:X.gx=g:=by rfl)
  (ht:eval (.Call (.Attribute o m apos) [] [] pos) X.env=(do
   let ov ← eval o X.env
   standAt apos.atName
   let (f,first) ← holding [ov] (getMethod ov m pl)
   callWith pos f first (backTo pos (starEach [] X.env)) (backToKw pos (keywordEach [] X.env))):=by rfl):PE X (.Call (.Attribute o m apos) [] [] pos) (WD C m sp [] E0 ta VY):=by
 subst hX
 obtain ⟨f,fd,F,b,hm⟩:=F
 exact V0 ho c hm F (hr.mono hj) b .nil VQ ht
theorem pe_ma (F:g.Ma j x C ps sp) (hr:Room k X.A) (ha:PA X (e::es) t) (hj:j+1≤k) (hX:X.gx=g) (hg:Gl X x) (hdb:(x==("__debug__":Str))=false)
  (he:starEach (e::es) X.env=(false,eval e X.env)::starEach es X.env) (hpl:(backTo pos (starEach es X.env)).any (·.1)=false):PE X (.Call (.Name x p) (e::es) [] pos) (Qf C sp [] E0 t):=by
 subst hX
 obtain ⟨f,fd,F,b,M,hm⟩:=F
 exact YbB M F (hr.mono hj) hg hm b .nil VQ ha hdb he hpl
theorem WF {v:V} (F:g.Con x v) (hX:X.gx=g:=by rfl) (hg:Gl X x:=by rfl) (hd:(x==("__debug__":Str))=false:=by decide):PE X (.Name x pos) (tC v):=by
 subst hX
 obtain ⟨u,hm,r⟩:=F
 exact Vi hg hm r hd
theorem Xe {id:String} {r:List V→Hp→VK→Prop} (hm:g.mg x=none) (hc:YX X (.builtin id) r) (ha:PA X (e::es) t) (hv:bootBuiltins x=some (.builtin id):=by decide +kernel) (hX:X.gx=g:=by rfl) (hg:Gl X x:=by rfl) (hn:x≠"__name__":=by decide) (hdb:(x==("__debug__":Str))=false:=by decide)
  (he:starEach (e::es) X.env=(false,eval e X.env)::starEach es X.env:=by rfl) (hpl:(backTo pos (starEach es X.env)).any (·.1)=false:=by rfl):PE X (.Call (.Name x p) (e::es) [] pos) (tCB r t):=by
 subst hX
 exact YaE hc hg hm hv ha hn hdb he hpl
theorem XD {T:String} {r:List V→Hp→VK→Prop} (hm:g.mg x=none) (hc:YX X (.type T) r) (ha:PA X (e::es) t) (hv:bootBuiltins x=some (.type T)) (hX:X.gx=g) (hg:Gl X x) (hn:x≠"__name__") (hdb:(x==("__debug__":Str))=false)
  (he:starEach (e::es) X.env=(false,eval e X.env)::starEach es X.env) (hpl:(backTo pos (starEach es X.env)).any (·.1)=false):PE X (.Call (.Name x p) (e::es) [] pos) (tCB r t):=by
 subst hX
 exact QW hc hg hm hv ha hn hdb he hpl
theorem Ya6 {T:String} (hm:g.mg x=none) (hv:bootBuiltins x=some (.type T)) (hX:X.gx=g) (hg:Gl X x) (hn:x≠"__name__") (hdb:(x==("__debug__":Str))=false):PE X (.Name x pos) (tC (.ty T)):=by
 subst hX
 exact Ybs hg hm hv rfl hn hdb
end
theorem Ycy {H:Hp} {p:Addr} {o:HO} (h:H p=some o):upd H p o=H:=by
 funext b
 unfold upd
 split
 ·rename_i e;rw [e,h]
 ·rfl
def S (l:List Nat):Str:=⟨l.toArray⟩
theorem YN (l:List Nat):(S l).cps.toList=l:=by simp [S]
theorem Yx (l:List Nat):(S l).length=l.length:=by simp [S,Str.length]
theorem Ys (a b:List Nat):S a++S b=S (a++b):=by
 show Str.append (S a) (S b)=S (a++b)
 simp [Str.append,S]
theorem Xf {a b:List Nat} (h:S a=S b):a=b:=by
 have:=congrArg (fun x:Str=>x.cps.toList) h
 simpa [YN] using this
theorem V7 (l:List Nat) (i j:Nat):XS (S l) (some (i:Int)) (some (j:Int))=S ((l.drop i).take (j - i)):=by
 unfold XS
 rw [YN,Yx,HT.sIx_nat,HT.sIx_nat]
 show S _=S _
 congr 1
 by_cases h:i≤l.length
 ·rw [Nat.min_eq_left h]
  by_cases h2:j≤l.length
  ·rw [Nat.min_eq_left h2]
  ·rw [Nat.min_eq_right (by omega)]
   rw [List.take_of_length_le (by simp),List.take_of_length_le (by simp;omega)]
 ·have e:min i l.length=l.length:=Nat.min_eq_right (by omega)
  rw [e,List.drop_eq_nil_of_le (Nat.le_refl l.length),List.drop_eq_nil_of_le (show l.length≤i by omega)]
  simp
theorem YbJ (l:List Nat) (i:Nat):XS (S l) (some (i:Int)) none=S (l.drop i):=by
 unfold XS
 rw [YN,Yx,HT.sIx_nat,HT.sIx_none]
 show S _=S _
 congr 1
 by_cases h:i≤l.length
 ·rw [Nat.min_eq_left h,List.take_of_length_le (by simp)]
 ·rw [Nat.min_eq_right (by omega),List.drop_eq_nil_of_le (Nat.le_refl _),List.drop_eq_nil_of_le (by omega)]
  simp
end L2
namespace L2
open PySem PySem.Spec PyProof.Rows
section
variable {K:PySem.W.Frag} {h:Heap} {mg:Str→Option Value} {P:Program} {w:World} {base:Heap} {f C:Addr} {x qual m:Str} {st:Stmt} {ps:List Str} {oc kV dc pm cd ct:Value} {od an:Option Addr} {sl:Array (Option Value)}
theorem Yy (X:K.In h) (G:h.Ns mainGlobals mg) (ps:List Str)
  (a:PySem.W.nsIn K mainGlobals x=some (some (.ref f))) (l:K.lookup f=some ⟨oc,od,.func (PySem.W.fnOf x x (YV st) (YH st) (Yg st) .none kV dc pm an cd ct),sl⟩) (c:PySem.W.codeIn K cd x=true) (k:PySem.W.keepIn K (.ref f)=true)
  (b:∀ (kV doc pm:Value) (an:Option Addr) (cdv ct:Value) (us:List Value),us.length=ps.length→bindArgs (PySem.W.fnOf x x (YV st) (YH st) (Yg st) .none kV doc pm an cdv ct) ⟨us,[]⟩=pure (ps.zip us)) :
  ∀ P w base,(Gx.mk P w K mg base).Raw x x st ps:=fun P w base =>
 have F:=W2 (st:=st) l c k
 ⟨f,_,F,F.binds b,PySem.W.mg_of X G a⟩
theorem XH (X:K.In h) (G:h.Ns mainGlobals mg) (ps:List Str)
  (a:PySem.W.findIn K (.ref C) m=some (some (.ref f))) (i:PySem.W.isFn K (.ref f)=true) (l:K.lookup f=some ⟨oc,od,.func (PySem.W.fnOf m qual (YV st) (YH st) (Yg st) .none kV dc pm an cd ct),sl⟩) (c:PySem.W.codeIn K cd qual=true) (k:PySem.W.keepIn K (.ref f)=true)
  (b:∀ (kV doc pm:Value) (an:Option Addr) (cdv ct:Value) (us:List Value),us.length=ps.length→bindArgs (PySem.W.fnOf m qual (YV st) (YH st) (Yg st) .none kV doc pm an cdv ct) ⟨us,[]⟩=pure (ps.zip us)) :
  ∀ P w base,(Gx.mk P w K mg base).RawM C m qual st ps:=fun P w base =>
 have F:=W2 (st:=st) l c k
 ⟨f,_,F,F.binds b,⟨a,i,k⟩⟩
theorem YbK (X:K.In h) (G:h.Ns mainGlobals mg) (ps:List Str) (aC:PySem.W.nsIn K mainGlobals x=some (some (.ref C))) (mk:PySem.W.makesIn K C=true) (kc:PySem.W.keepIn K (.ref C)=true)
  (a:PySem.W.findIn K (.ref C) "__init__"=some (some (.ref f))) (i:PySem.W.isFn K (.ref f)=true) (l:K.lookup f=some ⟨oc,od,.func (PySem.W.fnOf "__init__" qual (YV st) (YH st) (Yg st) .none kV dc pm an cd ct),sl⟩) (c:PySem.W.codeIn K cd qual=true) (k:PySem.W.keepIn K (.ref f)=true)
  (b:∀ (kV doc pm:Value) (an:Option Addr) (cdv ct:Value) (us:List Value),us.length=ps.length→bindArgs (PySem.W.fnOf "__init__" qual (YV st) (YH st) (Yg st) .none kV doc pm an cdv ct) ⟨us,[]⟩=pure (ps.zip us)) :
  ∀ P w base,(Gx.mk P w K mg base).RawI x C qual st ps:=fun P w base =>
 have F:=W2 (st:=st) l c k
 ⟨f,_,F,F.binds b,⟨mk,a,i,kc⟩,PySem.W.mg_of X G aC⟩
theorem XI (X:K.In h) (G:h.Ns mainGlobals mg) {i:Int} {t:Tok} (a:PySem.W.nsIn K mainGlobals x=some (some (.int i t))):∀ P w base,(Gx.mk P w K mg base).Con x (.int i):=fun P w base=>⟨_,PySem.W.mg_of X G a,t,rfl⟩
end
def W5 (K:PySem.W.Frag):Sp:=fun vs H Q _=>∃ (a:Addr) (ns:List Int),vs=[.ref a]∧SqL K H a (ns.map V.int)∧ns.length≤63∧∀ H',Q (.bl true) H'
def Q1 (K:PySem.W.Frag) (mg:Str→Option Value) (st:Stmt) (x n:Str):Prop:=∃ f fd,Fun K n n st f fd∧(∀ (s:Shared) (u:Value),BindsTo s fd ⟨[u],[]⟩ [(x,u)])∧mg n=some (.ref f)
theorem Q2 {K:PySem.W.Frag} {h:Heap} {mg:Str→Option Value} {f:Addr} {x n:Str} {st:Stmt} {oc kV dc pm cd ct:Value} {od an:Option Addr} {sl:Array (Option Value)} (X:K.In h) (G:h.Ns mainGlobals mg)
  (a:PySem.W.nsIn K mainGlobals n=some (some (.ref f))) (l:K.lookup f=some ⟨oc,od,.func (PySem.W.fnOf n n (YV st) (YH st) (Yg st) .none kV dc pm an cd ct),sl⟩) (c:PySem.W.codeIn K cd n=true) (k:PySem.W.keepIn K (.ref f)=true)
  (b:∀ (kV doc pm:Value) (an:Option Addr) (cdv ct:Value) (s:Shared) (u:Value),BindsTo s (PySem.W.fnOf n n (YV st) (YH st) (Yg st) .none kV doc pm an cdv ct) ⟨[u],[]⟩ [(x,u)]):Q1 K mg st x n :=
 ⟨f,_,W2 (st:=st) l c k,b kV dc pm an cd ct,PySem.W.mg_of X G a⟩
theorem YbL {l:PySem.W.OpenLaw} {q:Program} {loose:List Str} {XP:(Str→Option Value)→Heap→Prop} {YP:World→Heap→Prop} {d:DefRec} {K:Params→PySem.W.Frag} (k:Nat) (x:Str) (st:Stmt) (N:List Str) (hn:l.most=some 63) (hdf:d.params.defaults=[]) (hk:Room (k+1) callerA) (S:FnScope N [x] (Yg st))
  (hY:∀ (w:World) (h:Heap),YP w h→(K w.params).In h)
  (F:∀ (w:World) (mg:Str→Option Value) (h:Heap),(K w.params).In h→h.Ns mainGlobals mg→Q1 (K w.params) mg st x d.name∧∀ base,Vm (Gx.mk l.prog w (K w.params) mg base) k N d.name st (W5 (K w.params))) :
  PySem.W.WalkO q loose XP YP l.row.toRowW d [] (fun f vs=>PySem.call f vs):=by
 refine L2.YbF (n:=63) (k:=k+1) (x:=x) (CX:=fun _=>CX0) (sp:=fun w=>W5 (K w.params)) hn (by decide) hdf hk hY (fun w mg fa h KX G hmg=>?_) (fun _ _ a ns hl _ hS=>⟨a,ns,rfl,hS,hl,fun _=>rfl⟩) fun _ _ _ _ _ z=>z
 obtain ⟨⟨f,fd,Fu,hb,hm⟩,B⟩:=F w mg h KX G
 have e:=hmg.symm.trans hm
 cases e
 exact ⟨fd,hb,fun base _ _=>Fu.ok S (fun vs H Q E h=>by obtain ⟨a,ns,rfl,_⟩:=h;rfl) fun cdv A outer s H vs Q E hr h=>B base fa cdv A outer s H vs Q E hr h⟩
end L2
namespace L2
open PySem PySem.Spec PyProof.Rows
section
variable {X:Cx}
def Ya7 (i j:Int):Prop:=0<j∧j.natAbs<2^9000
theorem WQ:OpR X (binaryOp .FloorDiv) (rI Ya7 fun i j => .int (i / j)):=opI fun i j _ _ _ _ _ hc q=>by
 have h1:(0:Int)<j:=hc.1
 have h2:=hc.2
 have h3:j.natAbs≠0:=by omega
 exact floordiv_int (by omega) (by rw [Int.fdiv_eq_ediv_of_nonneg i (by omega)];exact q) (.inl (PyProof.noPylong_of_log2 ((Nat.log2_lt h3).mpr h2)))
theorem Wr {j:Int} (h:0<j) (h2:j<1073741824) {i:Int}:Ya7 i j:=⟨h,Nat.lt_of_lt_of_le (show j.natAbs<2^30 by omega) (Nat.pow_le_pow_right (by decide) (by decide))⟩
end
end L2
namespace L2
open PySem PySem.Spec PyProof.Rows
theorem Ycz {CX:CXT} {P:Program} {w:World} {K:PySem.W.Frag} {mg:Str→Option Value} {base:Heap} {N:List Str} {qual:Str} {scope:Scope} {f:Addr} {cd:Value} {A:Around} {outer:List Env} {s:Shared} {H:Hp} {E:XK} :
  (Wa CX P w K mg base N qual scope f cd A outer s H E).K=K:=rfl
theorem nox_K {X:Cx}:X.nox.K=X.K:=rfl
section
variable {g:TG} {tb:TS} {D:Ends} {σ:St} {H:Hp}
theorem UF {ta:TA} {n:Nat} (Pv:Nat→St→Hp→Prop) (ha:∀ R:List V→Hp→Prop,R [.int n] H→ta σ H R) (hn:n<2^62) (h0:Pv 0 σ H)
  (hs:∀ i σ H,i<n→Pv i σ H→g (.int i) σ H fun σ2 H2=>tb { D with nx:=Pv (i+1),ct:=Pv (i+1),bk:=D.nx } σ2 H2) (hd:∀ σ H,Pv n σ H→D.nx σ H):tFor (YaY ta) g tb D σ H:=by
 refine ha _ ⟨n,rfl,by omega,by omega,?_⟩
 refine QM (lo:=0) (n:=n) Pv h0 (fun i σ H hi p=>?_) hd
 have e:(0:Int)+i=i:=by omega
 rw [e];exact hs i σ H hi p
end
end L2
namespace L2
open PySem PySem.Spec PyProof.Rows
section
variable {X:Cx}
end
section
variable {X:Cx} {elts:List Expr} {kk:Nat} {tpos:Pos}
end
end L2
namespace L2
open PySem PySem.Spec PyProof.Rows
mutual
inductive Den (K:PySem.W.Frag) (H:Hp):V→PyData→Prop
 | non:Den K H .non .none
 | bl (b:Bool):Den K H (.bl b) (.bool b)
 | int (i:Int):Den K H (.int i) (.int i)
 | str (x:Str) (h:PyData.strOk x=true):Den K H (.str x) (.str x)
 | lst {a:Addr} {vs:List V} {ds:List PyData}:SqL K H a vs→Dens K H vs ds→Den K H (.ref a) (.list ds)
 | tup {a:Addr} {vs:List V} {ds:List PyData}:SqT K H a vs→Dens K H vs ds→Den K H (.ref a) (.tuple ds)
inductive Dens (K:PySem.W.Frag) (H:Hp):List V→List PyData→Prop
 | nil:Dens K H [] []
 | cons {v:V} {d:PyData} {vs:List V} {ds:List PyData}:Den K H v d→Dens K H vs ds→Dens K H (v::vs) (d::ds)
end
mutual
theorem Den.keep {K:PySem.W.Frag} {H H':Hp} (e:Same H H'):∀ {v:V} {d:PyData},Den K H v d→Den K H' v d
 | _,_,.non => .non
 | _,_,.bl b => .bl b
 | _,_,.int i => .int i
 | _,_,.str x h => .str x h
 | _,_,.lst h hs => .lst (e.seq h) (hs.keep e)
 | _,_,.tup h hs => .tup (e.tup h) (hs.keep e)
theorem Dens.keep {K:PySem.W.Frag} {H H':Hp} (e:Same H H'):∀ {vs:List V} {ds:List PyData},Dens K H vs ds→Dens K H' vs ds
 | _,_,.nil => .nil
 | _,_,.cons h hs => .cons (h.keep e) (hs.keep e)
end
theorem Dens.length {K:PySem.W.Frag} {H:Hp}:∀ {vs:List V} {ds:List PyData},Dens K H vs ds→vs.length=ds.length
 | _,_,.nil=>rfl
 | _,_,.cons _ hs=>congrArg (·+1) hs.length
theorem Dens.append {K:PySem.W.Frag} {H:Hp} {vs':List V} {ds':List PyData}:∀ {vs:List V} {ds:List PyData},Dens K H vs ds→Dens K H vs' ds'→Dens K H (vs++vs') (ds++ds')
 | _,_,.nil,h=>h
 | _,_,.cons a b,h => .cons a (b.append h)
section
variable {X:Cx}
mutual
theorem Den.reads {pins:List (Addr×Obj)} {σ:St} {H:Hp} {s:Shared} (I:Inv X pins σ H s):∀ {v:V} {d:PyData} {u:Value},Den X.K H v d→Yo v u→∃ as,Reads s.heap u d as
 | _,_,u,.non,r=>by cases (show u = .none from r);exact ⟨_,.none⟩
 | _,_,u,.bl b,r=>by cases (show u = .bool b from r);exact ⟨_,.bool b⟩
 | _,_,u,.int i,r=>by obtain ⟨t,rfl⟩:=r;exact ⟨_,.int i t⟩
 | _,_,u,.str x h,r=>by obtain ⟨t,rfl⟩:=r;exact ⟨_,.str x t⟩
 | _,_,u,.lst (a:=a) h hs,r=>by
  cases (show u = .ref a from r)
  obtain ⟨its,rv,pl,hz⟩:=I.list h
  obtain ⟨as,ra⟩:=hs.reads I rv
  obtain ⟨o,e1,e2,n,e3⟩:=pl.isList
  exact ⟨_,.list e1 e2 e3 (by simpa using ra)⟩
 | _,_,u,.tup (a:=a) h hs,r=>by
  cases (show u = .ref a from r)
  obtain ⟨its,rv,pl,hz⟩:=I.tuple h
  obtain ⟨as,ra⟩:=hs.reads I rv
  obtain ⟨o,e1,e2,n,e3⟩:=(show s.heap.IsTuple a its.toArray from pl)
  exact ⟨_,.tuple e1 e2 e3 (by simpa using ra)⟩
theorem Dens.reads {pins:List (Addr×Obj)} {σ:St} {H:Hp} {s:Shared} (I:Inv X pins σ H s):∀ {vs:List V} {ds:List PyData} {us:List Value},Dens X.K H vs ds→Yi vs us→∃ as,ReadsAll s.heap us ds as
 | _,_,us,.nil,r=>by cases r;exact ⟨_,.nil⟩
 | _,_,us,.cons h hs,r=>by
  cases r with
  | cons r rr =>
   obtain ⟨as,ra⟩:=h.reads I r
   obtain ⟨bs,rb⟩:=hs.reads I rr
   exact ⟨_,.cons ra rb⟩
end
end
theorem Q3 {α:Type} {l:List α} {i:Nat} {x:α} (h:l[i]?=some x):l.take (i+1)=l.take i++[x]:=by
 obtain ⟨hi,hc⟩:=List.getElem?_eq_some_iff.mp h
 rw [List.take_succ_eq_append_getElem hi,hc]
theorem Q4 {J:It} {P:Hp→Prop} {xs:List V} (hJ:Xy J P xs) {src:List (Option Nat)} {te:TE} {σ:St} {H1:Hp} {Q:VK} {D:Addr} (ys:List V) (hP:∀ H',Same H1 H'→P H') (hD:H1 D=none) (hl:ys.length=xs.length) (hlen:xs.length≤100000)
  (step:∀ (i:Nat) x y H',xs[i]?=some x→ys[i]?=some y→Same H1 H'→∀ R:VK,(∀ H'',Same H' H''→R y H'')→te (some x::YC src σ) H' R)
  (fin:∀ H',Same H1 H'→H' D=some (.lst ys)→Q (.ref D) H'):LC (none::src) J (Y4 0) Wp te σ H1 Q D:=by
 have h6:100000<sizeLine:=by decide
 refine Qj hJ (fun i zs σ' H'=>zs=ys.take i∧(∃ o,σ'=o::YC src σ)∧Same H1 H'∧H' D=some (.lst zs)) ⟨by simp,⟨none,rfl⟩,.upd_new hD _,Yf⟩ (fun i zs σ' H' p=>⟨hP _ p.2.2.1,p.2.2.2⟩) (Wd 0) ?_ ?_
 ·rintro i zs σ' H' x hx ⟨rfl,⟨o,rfl⟩,sm,hd⟩
  have hi:=(List.getElem?_eq_some_iff.mp hx).1
  have hy:ys[i]?=some (ys[i]'(by omega)):=List.getElem?_eq_getElem _
  show te (some x::YC src σ) H' _
  refine step i x _ H' hx hy sm _ fun H'' s2=>⟨s2 _ _ hd,?_,(Q3 hy).symm,⟨_,rfl⟩,.upd_over hD (sm.trans s2) _,Yf⟩
  rw [List.length_take];omega
 ·rintro zs σ' H' ⟨rfl,_,sm,hd⟩
  rw [← hl,List.take_length] at hd
  exact fin H' sm hd
end L2
namespace L2
open PySem PySem.Spec PyProof.Rows
section
variable {a b c d e r:TS} {D:Ends} {σ:St} {H:Hp} (M:St→Hp→Prop) (h1:∀ σ H,M σ H→r D σ H)
include h1
theorem XT (h2:∀ N:St→Hp→Prop,(∀ σ H,M σ H→N σ H)→a { D with nx:=N } σ H):XN a r D σ H:=h2 (r D) h1
theorem V8 (h2:∀ N:St→Hp→Prop,(∀ σ H,M σ H→N σ H)→XN a b { D with nx:=N } σ H):XN a (XN b r) D σ H:=h2 (r D) h1
theorem cut3 (h2:∀ N:St→Hp→Prop,(∀ σ H,M σ H→N σ H)→XN a (XN b c) { D with nx:=N } σ H):XN a (XN b (XN c r)) D σ H:=h2 (r D) h1
end
theorem YbM (i j:Int):U9 (.int i) (.int j)=true:=rfl
theorem UR (i j:Str):U9 (.str i) (.str j)=true:=rfl
end L2
namespace L2
open PySem PySem.Spec PyProof.Rows
section
variable {X:Cx} {tg:Expr}
end
end L2
namespace L2
open PySem PySem.Spec PyProof.Rows
end L2
namespace L2
open PySem PySem.Spec PyProof.Rows
section
variable {src:List (Option Nat)} {te:TE} {σ:St} {H:Hp} {Q:VK}
theorem Q5 {K:PySem.W.Frag} {tl:TE} {xs:List V} (ys:List V) (ha:∀ R:V→Hp→Prop,(∀ a H1,Same H H1→SqL K H1 a xs→R (.ref a) H1)→tl σ H R) (hl:ys.length=xs.length) (hlen:xs.length≤100000)
  (step:∀ (i:Nat) x y H',xs[i]?=some x→ys[i]?=some y→Same H H'→∀ R:VK,(∀ H'',Same H' H''→R y H'')→te (some x::YC src σ) H' R)
  (fin:∀ D H',H D=none→Same H H'→H' D=some (.lst ys)→Q (.ref D) H'):tLC (none::src) (YaX K tl) (Y4 0) Wp te σ H Q :=
 ha _ fun a H1 s1 hS=>⟨a,rfl,⟨xs,hS⟩,fun D hD=>Q4 (Qi.imp fun H' (e:Same H1 H')=>e.seq hS) ys (fun _ e=>e) hD hl hlen (fun i x y H' hx hy sm R r=>step i x y H' hx hy (s1.trans sm) R r) fun H' sm=>fin D H' (s1.free hD) (s1.trans sm)⟩
end
end L2
namespace L2
open PySem PySem.Spec PyProof.Rows
section
variable {src:List (Option Nat)} {te:TE} {σ:St} {H:Hp} {Q:VK}
end
section
variable {X:Cx} {K:PySem.W.Frag}
end
end L2
namespace L2
open PySem PySem.Spec PyProof.Rows
section
variable {tb:TS} {D:Ends} {σ:St} {H:Hp}
end
end L2
namespace L2
open PySem PySem.Spec PyProof.Rows
section
variable {X:Cx} {e st:Expr} {te ts:TE} {pos p2:Pos}
def tRev (K:PySem.W.Frag) (te ts:TE):TE:=fun σ H Q=>te σ H fun x H1=>ts σ H1 fun y H2=>y = .int (-1)∧∃ a xs,x = .ref a∧SqL K H2 a xs∧∀ p,H2 p=none→Q (.ref p) (upd H2 p (.lst xs.reverse))
end
end L2
namespace L2
open PySem PySem.Spec PyProof.Rows
section
variable {X:Cx} {pos:Pos}
def rBits:V→List V→Hp→VK→Prop:=fun x vs H Q=>∃ i,x = .int i∧vs=[]∧Q (.int (Builtin.Int.intBits i:Nat)) H
def rFind:V→List V→Hp→VK→Prop:=fun x vs H Q=>∃ (z y:Str),x = .str z∧vs=[.str y]∧Q (.int (Txt.find z y)) H
def YcA:TE:=fun _ H Q=>∀ p,H p=none→Q (.ref p) (upd H p (.dK []))
end
def Gx.ConT (g:Gx) (x:Str) (xs:List V):Prop:=∃ c,g.mg x=some (.ref c)∧∀ H,SqT g.K H c xs
theorem US {K:PySem.W.Frag} {h:Heap} {mg:Str→Option Value} {x:Str} {i:Addr} {dc:Option Addr} {its:Array Value} {n:Nat} {sl:Array (Option Value)} {xs:List V} (X:K.In h) (G:h.Ns mainGlobals mg)
  (a:PySem.W.nsIn K mainGlobals x=some (some (.ref i))) (l:K.lookup i=some ⟨.type "tuple",dc,.seq its n,sl⟩) (hz:its.size≤sizeLine) (r:Yi xs its.toList):∀ P w base,(Gx.mk P w K mg base).ConT x xs :=
 fun P w base=>⟨i,PySem.W.mg_of X G a,fun H => .inr ⟨_,its,n,l,rfl,rfl,hz,r⟩⟩
section
variable {X:Cx} {g:Gx} {x:Str} {pos:Pos}
def Ya8 (K:PySem.W.Frag) (xs:List V):TE:=fun _ H Q=>∀ c,SqT K H c xs→Q (.ref c) H
theorem VR {xs:List V} (F:g.ConT x xs) (hX:X.gx=g) (hg:Gl X x) (hd:(x==("__debug__":Str))=false):PE X (.Name x pos) (Ya8 g.K xs):=by
 subst hX
 obtain ⟨c,e,hc⟩:=F
 exact fun pins s σ H Q I h=>Vi hg e (show Yo (.ref c) (.ref c) from rfl) hd pins s σ H Q I (h c (hc H))
end
end L2
namespace L2
open PySem PySem.Spec PyProof.Rows
theorem XC {c A B:Prop} [Decidable c] (h:¬ c) (hb:B):if c then A else B:=by rw [if_neg h];exact hb
theorem Ws {c A B:Prop} [Decidable c] (h:c) (ha:A):if c then A else B:=by rw [if_pos h];exact ha
section
variable {src:List (Option Nat)} {te:TE} {σ:St} {H:Hp} {Q:VK}
theorem YbN {tl:TE} {l:List Nat} (ys:List V) (ha:∀ R:V→Hp→Prop,R (.str (S l)) H→tl σ H R) (hl:ys.length=l.length) (hlen:l.length≤100000)
  (step:∀ (i c:Nat) y H',l[i]?=some c→ys[i]?=some y→Same H H'→∀ R:VK,(∀ H'',Same H' H''→R y H'')→te (some (.str (S [c]))::YC src σ) H' R)
  (fin:∀ D H',H D=none→Same H H'→H' D=some (.lst ys)→Q (.ref D) H'):tLC (none::src) (iStr tl) (Y4 0) Wp te σ H Q :=
 ha _ ⟨S l,rfl,fun D hD=>Q4 (VG (S l) (fun _=>True)) ys (fun _ _=>trivial) hD (by rw [YN];simpa using hl) (by rw [YN];simpa using hlen) (fun i x y H' hx hy sm R r=>by
  rw [YN,List.getElem?_map] at hx
  cases e:l[i]? with
  | none=>rw [e] at hx;cases hx
  | some c =>
   rw [e] at hx
   have:V.str ⟨#[c]⟩=x:=Option.some.inj hx
   subst this
   exact step i c y H' e hy sm R r) fun H'=>fin D H' hD⟩
end
section
variable {X:Cx} {K:PySem.W.Frag} {o e:Expr} {es:List Expr} {to:TE} {t:TA} {name:Str} {apos cpos:Pos} {T id:String} {r:V→List V→Hp→VK→Prop}
end
section
variable {X:Cx}
end
end L2
namespace L2
open PySem PySem.Spec PyProof.Rows
section
variable {prog:Program} {w:World} {A:Around} {E:Value→Shared→Prop} {s:Shared} {z TI TO i1 i2 T:Addr} {S1 S2:Nat→Heap→Prop} {R1 R2:Heap→(Nat→Option Value)→Prop} {g1 g2:Nat→Option Value} {k:Nat} {a b:Value} {f:Bool} {oT:Obj}
end
section
variable {prog:Program} {w:World} {A:Around} {s:Shared} {R:Result→Shared→Prop} {z TI TO i1 i2 S p1 p2:Addr} {xs ys:List Value}
end
end L2
namespace L2
open PySem PySem.Calls PySem.Spec PyProof.Rows PyProof.V
section
variable {prog:Program} {w:World} {A:Around} {E:Value→Shared→Prop} {s:Shared} {z TI TO i1 i2 p1 p2:Addr} {xs ys:List Value}
end
end L2
namespace L2
open PySem PySem.Spec PyProof.Rows
section
variable {X:Cx} {pins:List (Addr×Obj)} {σ:St} {H H':Hp} {s:Shared} {h':Heap}
end
section
variable {X:Cx}
def tLZ (K:PySem.W.Frag) (ta:TA):TE:=fun σ H Q=>ta σ H fun vs H1=>∃ a b xs ys,vs=[.ref a,.ref b]∧SqT K H1 a xs∧SqT K H1 b ys∧xs.length=ys.length ∧
 ∀ (l:Addr) (as:List Addr) (H2:Hp),H1 l=none→Same H1 H2→H2 l=some (.lst (as.map V.ref))→as.length=xs.length →
  (∀ (j:Nat) a x y,as[j]?=some a→xs[j]?=some x→ys[j]?=some y→H1 a=none∧H2 a=some (.tup [x,y]))→Q (.ref l) H2
end
end L2
namespace L2
open PySem PySem.Spec PyProof.Rows
section
variable {src:List (Option Nat)} {te:TE} {σ:St} {H:Hp} {Q:VK}
end
end L2
namespace L2
open PySem PySem.Spec PyProof.Rows
section
variable {X:Cx}
theorem YbO {i:Nat} {x:Str} {pos' apos:Pos} {elt tg iter:Expr} {ifs:List Expr} {scope:Scope} {pos:Pos} {src:List (Option Nat)} {N':List Str} {wi:TI} {g:TG} {tt:TT} {te:TE} (hN:X.N.Nodup) (hix:X.N[i]?=some x) (hlx:Loc X.env.scope x) (hcap:Cap X scope src N') (hc:X.calm=true) (hi:PI X tg iter wi)
  (hg:∀ cl C s₀ H₀ fp pn,PG (cxC X scope N' cl C s₀ H₀ fp pn) tg g) (ht:∀ cl C s₀ H₀ fp pn,PTs (cxC X scope N' cl C s₀ H₀ fp pn) ifs tt) (he:∀ cl C s₀ H₀ fp pn,PE (cxC X scope N' cl C s₀ H₀ fp pn) elt te)
  (hfree:∀ x,(x,NameKind.free)∈scope.names→X.env.scope.names.lookup x=some NameKind.cell∨X.env.scope.names.lookup x=some NameKind.free)
  (hk:scope.kind = .function) (hcell:∀ y∈scope.names,y.2 ≠ .cell) (hnames:∀ y∈scope.names,y.2 = .local→scope.names.lookup y.1=some .local)
  (hs:∀ x,foldedSetIterable iter X.env x=pure x) (hsw:swapsWithSole [.Name x pos'] (.ListComp elt [⟨tg,iter,ifs,0⟩] scope pos) apos.line X.env=pure true) (hf:X.fn x=true∨X.env.scope.names.lookup x=some .local) :
  PS X (.Assign [.Name x pos'] (.ListComp elt [⟨tg,iter,ifs,0⟩] scope pos) apos) (tAsg (tLC src wi g tt te) (Y4 i)):=by
 intro pins s σ H D0 I h
 have no:∀ {E:Value→Shared→Prop},∀ (e:Value) (s':Shared),False→E e s':=fun _ _ f=>f.elim
 obtain ⟨cl,hcl,a,b⟩:=Wb X.env scope fun x hx=>I.ok.has x (hfree x hx)
 rw [exec_Assign_arm]
 refine wpAny_bind (wpAny_standAt ?_)
 rw [hsw]
 refine wpAny_bind (wpAny_pure ?_)
 rw [if_pos rfl]
 refine wpAny_bind ?_
 rw [arm_evalThenUse_ListComp]
 refine wpAny_bind ?_
 refine wpAny_comprehension_free (use:=some _) rfl hs hcl hk hnames (thn (hi pins s σ H _ I h) fun v s1 h1=>thn h1 fun itv s2 h2=>?_)
 obtain ⟨it,fp,tn,J,H2,e,I2,T,st2,f2,q⟩:=h2
 subst e
 have hD:H2 s2.heap.objs.size=none:=I2.hok.fresh (Nat.le_refl _)
 obtain ⟨W,⟨m0,w0⟩,turn⟩:=q s2.heap.objs.size hD
 have I3:=I2.lnew (t':=s2.toks) (ys:=[]) (its:=[]) .nil (Nat.zero_le _)
 have fl2:∀ b∈fp,b<s2.heap.objs.size:=fun b hb=>by
  obtain ⟨o,e,_⟩:=T.obj _ _ st2 b hb
  exact Heap.lt_size e
 refine wpAny_newObj_type ?_
 generalize es3:({ s2 with heap:=s2.heap.push { cls := .type "list",dict:=none,data := .seq ([]:List Value).toArray } }:Shared)=s3
 have I3':Inv X pins σ (upd H2 s2.heap.objs.size (.lst [])) s3:=es3▸I3
 have keep3:∀ b o,s2.heap.get? b=some o→s3.heap.get? b=some o:=fun b o e=>by rw [← es3];exact Heap.get?_push_of_some _ e
 have st3:tn 0 s3.heap:=T.keep _ _ _ st2 fun b _ o e=>keep3 b o e
 have fl3:∀ b∈fp,b<s3.heap.objs.size:=fun b hb=>by
  obtain ⟨o,e,_⟩:=T.obj _ _ st3 b hb
  exact Heap.lt_size e
 have f3:∀ b∈fp,Xj X pins (upd H2 s2.heap.objs.size (.lst [])) b:=fun b hb=>⟨by rw [Yl (Nat.ne_of_lt (fl2 b hb))];exact (f2 b hb).1,(f2 b hb).2⟩
 generalize eD:s2.heap.objs.size=D at *
 generalize eH3:upd H2 D (.lst [])=H3 at *
 refine wpAny_newFunctionEnv hcell (by intro y hy;simp at hy) (fun h₁ hns₁ hsb₁=>?_) hk
 have keep4:∀ b o,s3.heap.get? b=some o→h₁.get? b=some o:=fun b o e=>hsb₁.extBut b o (Nat.ne_of_lt (Heap.lt_size e)) (Heap.get?_push_of_some _ e)
 have I4:=WP (N':=N') (src:=src) (tk:=s3.toks+([]:List (Str×Value)).length) hk hcell hcap a b I3' f3 fl3 rfl keep4 hns₁
 -- the iterator's objects,through the block
 have stat:∀ {H':Hp},(∀ b∈fp,H' b=none)→∀ b∈fp,Xj (cxC X scope N' cl s3.heap.objs.size s3 H3 fp (X.pn++pins)) [] H' b:=fun hn b' hb=>by
  obtain ⟨f0,f1,fs,fe,f4,f5⟩:=f3 b' hb
  refine ⟨hn b' hb,Nat.ne_of_lt (fl3 b' hb),fun z=>?_,.inl hb,fun x c h=>f4 x c (a x c h),fun p hp=>f5 p (by simpa [cxC] using hp)⟩
  rcases List.mem_cons.mp (I3'.stkSub b' z) with e | e
  ·exact f1 e
  ·exact fs e
 -- Vh the block
 have fin:∀ {H':Hp} {s':Shared} {σ':St} {pins':List (Addr×Obj)},Inv (cxC X scope N' cl s3.heap.objs.size s3 H3 fp (X.pn++pins)) pins' σ' H' s'→∀ h',Heap.SameBut s3.heap.objs.size s'.heap h'→Inv X pins σ H' { s' with heap:=h' }:=fun {H' s' σ' pins'} J' h' sb=>by
  have same:∀ b o,b≠s3.heap.objs.size→s'.heap.get? b=some o→h'.get? b=some o:=fun b o hb e=>sb.extBut b o hb e
  have u:Un (frs X.stack) fp H3 H' s3.heap s'.heap:=J'.base
  refine I3'.call' (s':={ s' with heap:=h' }) (ch:=fp) J'.os ⟨fun b o e n hb hx=>?_,fun b o e n hb hx=>?_,u.free,fun b o e hx=>?_,u.tups,u.frzs,u.tbls⟩ (fun b o e=>?_) J'.bare fun b hb=>?_
  ·exact same b o (Nat.ne_of_lt (Heap.lt_size e)) (u.keep b o e n hb hx)
  ·obtain ⟨sl,z⟩:=u.slot b o e n hb hx
   exact ⟨sl,same b _ (Nat.ne_of_lt (Heap.lt_size e)) z⟩
  ·obtain ⟨o',z⟩:=u.there b o e hx
   exact ⟨o',same b o' (Nat.ne_of_lt (Heap.lt_size e)) z⟩
  ·have nC:∀ c v,H' c=some v→c≠s3.heap.objs.size:=fun c v z q=>by
    have:=J'.free
    rw [show (cxC X scope N' cl s3.heap.objs.size s3 H3 fp (X.pn++pins)).env.locals=s3.heap.objs.size from rfl,← q,z] at this
    cases this
   refine (J'.hok b o e).stay (fun c v hc q=>same c v ?_ q) (fun _ q=>q) fun _ _ q=>q
   rcases hc with z | z
   ·rw [z];exact nC b o e
   ·exact nC c _ z
  ·obtain ⟨f0,f1,fs,fe,f4,f5⟩:=f3 b hb
   exact ⟨fe,f1,f4,f5⟩
 have loop:codeAny (model X.prog X.w) X.A (.compLoop (.ListComp elt [⟨tg,iter,ifs,0⟩] scope pos) 0 (.ref it) (.ref D) (compEnvC scope cl s3.heap.objs.size X.env))
   (compPost (model X.prog X.w) X.A X.xe (some fun v=>assignAll v ((assignEach [.Name x pos'] X.env).map (·.2))) (fun _ s'=>wpAny (model X.prog X.w) X.A (pure PUnit.unit) (fun _ s'=>wpAny (model X.prog X.w) X.A (pure Flow.next) (SP X pins D0) X.xe s') X.xe s') (.ref D) s3.heap.objs.size) { s3 with heap:=h₁,toks:=s3.toks+([]:List (Str×Value)).length }:=by
  refine VF (fun n s'=>∃ i ys σ' H',Inv (cxC X scope N' cl s3.heap.objs.size s3 H3 fp (X.pn++pins)) [] σ' H' s'∧tn i s'.heap∧(∀ b∈fp,H' b=none)∧W i n ys σ' H') ?_ m0 ⟨0,[],YC src σ,H3,I4,T.keep _ _ _ st3 fun b _ o e=>keep4 b o e,fun b hb=>(f3 b hb).1,w0⟩
  rintro n s5 ⟨i,ys,σ5,H5,I5,st5,fr5,w5⟩
  obtain ⟨hDs,stop | go⟩:=turn i n ys σ5 H5 w5
  ·obtain ⟨stop,qn⟩:=stop
   refine thn (T.done (cxC X scope N' cl s3.heap.objs.size s3 H3 fp (X.pn++pins)) rfl rfl rfl hc i [] s5 σ5 H5 _ I5 (stat fr5) st5 stop) fun r s6 ⟨hr,I6⟩=>?_
   subst hr
   obtain ⟨m,hn,_⟩:=id I6.loc
   have IO:Inv X pins σ H5 s6:=fin I6 s6.heap (Heap.SameBut.refl _ _)
   have hCn:H5 s3.heap.objs.size=none:=I6.free
   have hC:∀ {H':Hp},H' s3.heap.objs.size=none→Xj X pins H' s3.heap.objs.size:=fun {H'} z=>I3'.fpOk (Nat.le_refl _) z
   obtain ⟨oC,es,ep,hoC,rC⟩:=hn
   have IP:=IO.pinned (fp:=[s3.heap.objs.size]) (fun b hb=>by rw [List.mem_singleton.mp hb];exact hC hCn) (fun b hb=>by rw [List.mem_singleton.mp hb];exact ⟨oC,hoC,fun v z=>by (rw [rC.1] at z;cases z)⟩)
   show wpAny _ _ (assign (.Name x pos') X.env (.ref D)) _ _ _
   refine thn (Xt hN hix hlx hf _ s6 σ H5 (.ref D) (.ref D) _ IP rfl qn) fun _ s7 ⟨σ7,H7,I7,q7⟩=>?_
   obtain ⟨g1,g2,_⟩:=I7.pin (s3.heap.objs.size,oC) (List.mem_append_right _ (List.mem_append_right _ (YO (List.mem_singleton.mpr rfl) hoC)))
   refine ⟨m,⟨oC,es,ep,g1,rC⟩,fun h' sb=>wpAny_pure (wpAny_pure ⟨σ7,H7,?_,q7⟩)⟩
   exact I7.unpinned.turnedL (t':=s7.toks) (ch:=[s3.heap.objs.size]) (fun b o hb e=>sb.extBut b o (fun z=>hb (by rw [z];exact List.mem_singleton.mpr rfl)) e) (fun b hb=>by rw [List.mem_singleton.mp hb];exact hC g2)
  ·obtain ⟨go,N,hN,step⟩:=go
   refine thn (T.item (cxC X scope N' cl s3.heap.objs.size s3 H3 fp (X.pn++pins)) rfl rfl rfl hc i [] s5 σ5 H5 _ I5 (stat fr5) st5 go) fun r s6 ⟨u,hr,h6⟩=>?_
   subst hr
   refine thn h6 fun _ s7 ⟨x,H7,I7,r7,y7,st7,fr7⟩=>?_
   have I7':=I7.pinned (stat fr7) (T.obj _ _ st7)
   have again:∀ {s8:Shared} {σ8:St} {H8:Hp} {ys':List V},Inv (cxC X scope N' cl s3.heap.objs.size s3 H3 fp (X.pn++pins)) ([]++XO fp s7.heap) σ8 H8 s8→(∃ m',m'<n∧W (i+1) m' ys' σ8 H8) →
     ∃ m,m<n∧∃ i ys σ' H',Inv (cxC X scope N' cl s3.heap.objs.size s3 H3 fp (X.pn++pins)) [] σ' H' s8∧tn i s8.heap∧(∀ b∈fp,H' b=none)∧W i m ys σ' H':=fun {s8 σ8 H8 ys'} I8 ⟨m',hm,w8⟩=>by
    refine ⟨m',hm,i+1,ys',σ8,H8,I8.unpinned,T.keep _ _ _ st7 fun b hb o e=>(I8.pin (b,o) (List.mem_append_right _ (List.mem_append_right _ (YO hb e)))).1,fun b hb=>?_,w8⟩
    obtain ⟨o,e,d⟩:=T.obj _ _ st7 b hb
    exact (I8.pin (b,o) (List.mem_append_right _ (List.mem_append_right _ (YO hb e)))).2.1
   refine thn (hg cl _ s3 H3 fp _ _ s7 σ5 H7 x u _ I7' r7 (step x H7 y7)) fun _ s8 ⟨σ8,H8,I8,q8⟩=>?_
   refine thn (ht cl _ s3 H3 fp _ _ s8 σ8 H8 _ I8 q8) fun ok s9 ⟨H9,I9,q9⟩=>?_
   cases ok with
   | false=>exact again I9 (hN _ _ _ q9)
   | true =>
    rw [if_pos rfl]
    refine thn (he cl _ s3 H3 fp _ _ s9 σ8 H9 _ I9 q9) fun y s10 ⟨yv,H10,I10,r10,q10⟩=>?_
    obtain ⟨hDy,hlen,w10⟩:=q10
    refine thn (XA (X:=cxC X scope N' cl s3.heap.objs.size s3 H3 fp (X.pn++pins)) _ s10 σ8 H10 (.ref D) [yv] (.ref D) [y] (fun _ H'=>H'=upd H10 D (.lst (ys++[yv]))) I10 rfl (.cons r10 .nil) ⟨D,ys,yv,rfl,rfl,hDy,hlen,rfl⟩) fun _ s11 ⟨_,H11,I11,_,e11⟩=>?_
    subst e11
    exact again I11 (hN _ _ _ w10)
 exact codeAny_compStart_list loop (T.self _ 0 _ _ _ (T.keep _ _ _ st3 fun b _ o e=>keep4 b o e) loop)
end
end L2
namespace L2
open PySem PySem.Spec PyProof.Rows
structure Fly (P:Program) (w:World) (l:List Env) (H:Hp) (h:Heap) (e:Addr) (cls:Value) (H':Hp) (h' B:Heap):Prop where
 fl:∃ a0,Heap.FlyingW B l e cls a0 h'
 hok:HOk P w H' B
 keep:∀ b o,h.get? b=some o→H b=none→b∉frs l→B.get? b=some o
 slot:∀ b o,h.get? b=some o→H b=none→b∈frs l→∃ sl,h'.get? b=some { o with slots:=sl }
 al:∀ b o,h.get? b=some o→b∉frs l→∃ o',B.get? b=some o'
 free:∀ b o,h.get? b=some o→H b=none→H' b=none
 tups:∀ b xs,H b=some (.tup xs)→H' b=some (.tup xs)
 frzs:∀ b o u,H b=some (.frz o u)→H' b=some (.frz o u)
 tbls:∀ b ps,H b=some (.tbl ps)→∃ more,H' b=some (.tbl (ps++more))
section
variable {P:Program} {w:World} {l:List Env} {H H':Hp} {h h' h'' B:Heap} {e:Addr} {cls:Value}
theorem Fly.un (F:Fly P w l H h e cls H' h' B) (hf:∀ b∈frs l,H b=none):Un (frs l) [] H H' h h':=by
 obtain ⟨a0,fl⟩:=F.fl
 refine ⟨fun b o q n hb _=>fl.1 b o (F.keep b o q n hb),fun b o q n hb _=>F.slot b o q n hb,fun b o q n _=>F.free b o q n,fun b o q _=>?_,F.tups,F.frzs,F.tbls⟩
 by_cases hb:b∈frs l
 ·obtain ⟨sl,z⟩:=F.slot b o q (hf b hb) hb
  exact ⟨_,z⟩
 ·obtain ⟨o',z⟩:=F.al b o q hb
  exact ⟨o',fl.1 b o' z⟩
theorem Fly.held (F:Fly P w l H h e cls H' h' B):HOk P w H' h':=by
 obtain ⟨a0,fl⟩:=F.fl
 exact F.hok.kept fl.1
theorem Fly.on (F:Fly P w l H h e cls H' h' B) (fl:∃ a0,Heap.FlyingW B l e cls a0 h'') (nf:∀ b∈frs l,∀ o,h.get? b=some o→∀ vs,o.data ≠ .fields vs) (sm:h'.UpToSlots h''):Fly P w l H h e cls H' h'' B :=
 ⟨fl,F.hok,F.keep,fun b o q n hb=>by
  obtain ⟨sl,z⟩:=F.slot b o q n hb
  obtain ⟨sl',z'⟩:=sm b _ z (nf b hb o q)
  exact ⟨sl',z'⟩,F.al,F.free,F.tups,F.frzs,F.tbls⟩
end
section
variable {X:Cx} {pins:List (Addr×Obj)} {σ:St} {H H':Hp} {s s':Shared} {h' B:Heap} {e:Addr} {cls:Value} {M:Model} {A:Around} {Q:Unit→Shared→Prop} {EE:Value→Shared→Prop}
theorem Inv.notL (I:Inv X pins σ H s) {b:Addr} {o:Obj} (q:X.s₀.heap.get? b=some o):b≠X.env.locals:=Nat.ne_of_lt (Nat.lt_of_lt_of_le (Heap.lt_size q) I.ok.above)
theorem Inv.notStk (I:Inv X pins σ H s) (hf:X.env.frame=some X.env.locals) {b:Addr} {o:Obj} (q:X.s₀.heap.get? b=some o) (n:b∉X.fs):b∉frs (X.env::X.outer):=fun z=>by
 unfold frs at z
 rw [List.filterMap_cons,hf] at z
 rcases List.mem_cons.mp z with z | z
 ·exact I.notL q z
 ·exact n z
theorem Inv.inStk (I:Inv X pins σ H s) (hf:X.env.frame=some X.env.locals) {b:Addr} (n:b∈X.fs):b∈frs (X.env::X.outer):=by
 unfold frs
 rw [List.filterMap_cons,hf]
 exact List.mem_cons_of_mem _ n
theorem Inv.leave_made {vs:List Value} (I:Inv X pins σ H s) (hs:X.stack=X.env::X.outer) (hf:X.env.frame=some X.env.locals) (hex:X.ex=[]) (hA:A.frames=some (X.env::X.outer)) (hm:Heap.MadeExcOf s.heap h' e cls vs)
  (hQ:∀ h'' B,Fly X.prog X.w X.outer X.H₀ X.s₀.heap e cls H h'' B→Q () { s with heap:=h'' }):wpAny M A (leaving X.env (.ref e)) Q EE { s with heap:=h' }:=by
 have nx:∀ b:Addr,b∉X.ex:=by
  rw [hex]
  intro b z
  cases z
 have st:=I.stack
 have sf:=I.stkFree
 rw [hs] at st sf
 refine wpAny_leaves_madeW (base:=PySem.W.hideAll s.heap (frs (X.env::X.outer))) (h:=s.heap) hA hf (fun b o q=>PySem.W.of_hideAll _ q) (PySem.W.funFrames_hide st fun env he a ha=>List.mem_filterMap.mpr ⟨env,he,ha⟩) hm fun h'' t x1 x2 x3 x4=>hQ h'' (PySem.W.hideAll s.heap (frs (X.env::X.outer))) ?_
 refine ⟨⟨_,x1⟩,fun b u q=>?_,fun b o q n nb=>PySem.W.hideAll_get _ (I.base.keep b o q n nb (nx b)) (I.notStk hf q nb),fun b o q n hb=>?_,fun b o q nb=>?_,fun b o q n=>I.base.free b o q n (nx b),I.base.tups,I.base.frzs,I.base.tbls⟩
 ·refine (I.hok b u q).stay (fun c v hc r=>PySem.W.hideAll_get _ r fun z=>?_) (fun _ z=>z) fun _ _ z=>z
  have n:=sf c z
  rcases hc with rfl | hc
  ·rw [n] at q;cases q
  ·rw [n] at hc;cases hc
 ·obtain ⟨sl,e1⟩:=I.base.slot b o q n hb (nx b)
  obtain ⟨_,o',e',d⟩:=I.ok.funs.mem hb
  rw [q] at e'
  cases e'
  obtain ⟨sl',e2⟩:=x4 b _ (hm.keeps b _ e1) d
  exact ⟨sl',e2⟩
 ·obtain ⟨o',e1⟩:=I.base.there b o q (nx b)
  exact ⟨o',PySem.W.hideAll_get _ e1 (I.notStk hf q nb)⟩
theorem Inv.leave_on (I:Inv X pins σ H s) (hs:X.stack=X.env::X.outer) (hf:X.env.frame=some X.env.locals) (hex:X.ex=[]) (hA:A.frames=some (X.env::X.outer)) (F:Fly X.prog X.w X.stack H s.heap e cls H' s'.heap B)
  (hQ:∀ h'',Fly X.prog X.w X.outer X.H₀ X.s₀.heap e cls H' h'' B→Q () { s' with heap:=h'' }):wpAny M A (leaving X.env (.ref e)) Q EE s':=by
 have nx:∀ b:Addr,b∉X.ex:=by
  rw [hex]
  intro b z
  cases z
 rw [hs] at F
 obtain ⟨a0,fl⟩:=F.fl
 refine wpAny_leaves_onW hA hf fl fun h'' x1 x2=>hQ h'' ?_
 refine ⟨⟨_,x1⟩,F.hok,fun b o q n nb=>F.keep b o (I.base.keep b o q n nb (nx b)) (I.base.free b o q n (nx b)) (I.notStk hf q nb),fun b o q n hb=>?_,fun b o q nb=>?_,fun b o q n=>?_,fun b xs q=>F.tups b xs (I.base.tups b xs q),fun b o u q=>F.frzs b o u (I.base.frzs b o u q),fun b ps q=>?_⟩
 ·obtain ⟨sl,e1⟩:=I.base.slot b o q n hb (nx b)
  obtain ⟨sl1,e2⟩:=F.slot b _ e1 (I.base.free b o q n (nx b)) (I.inStk hf hb)
  obtain ⟨_,o',e',d⟩:=I.ok.funs.mem hb
  rw [q] at e'
  cases e'
  obtain ⟨sl',e3⟩:=x2 b _ e2 d
  exact ⟨sl',e3⟩
 ·obtain ⟨o',e1⟩:=I.base.there b o q (nx b)
  exact F.al b o' e1 (I.notStk hf q nb)
 ·obtain ⟨o',e1⟩:=I.base.there b o q (nx b)
  exact F.free b o' e1 (I.base.free b o q n (nx b))
 ·obtain ⟨m1,e1⟩:=I.base.tbls b ps q
  obtain ⟨m2,e2⟩:=F.tbls b _ e1
  exact ⟨m1++m2,by rw [e2,Array.append_assoc]⟩
end
def CXF (P:Program) (w:World):CXT:=fun l H s E e s'=>∃ (a:Addr) (cls:Value) (H':Hp) (B:Heap),e = .ref a∧s'.os=s.os∧AllBare s'.gens∧Fly P w l H s.heap a cls H' s'.heap B∧E cls none H'
abbrev Gx.cxX (g:Gx) (N:List Str) (qual:Str) (st:Stmt) (f:Addr) (cdv:Value) (A:Around) (outer:List Env) (s:Shared) (H:Hp) (E:XK):Cx:=Wa (CXF g.P g.w) g.P g.w g.K g.mg g.base N qual (Yg st) f cdv A outer s H E
section
variable {g:Gx} {N:List Str} {qual:Str} {st:Stmt} {f:Addr} {cdv:Value} {A:Around} {outer:List Env} {s:Shared} {H:Hp} {E:XK}
theorem YM:Xa (CXF g.P g.w) (g.cxX N qual st f cdv A outer s H E) E:=by
 intro pins σ H1 s1 e s' I hq
 obtain ⟨a,cls,H',B,he,os,bare,F,q⟩:=hq
 subst he
 exact I.leave_on rfl rfl rfl I.ok.frames F fun h'' F'=>⟨a,cls,H',B,rfl,os.trans I.os,bare,F',q⟩
def Q6 (X:Cx) (E:XK):Prop:=∀ (pins:List (Addr×Obj)) (σ:St) (H:Hp) (s:Shared) (h':Heap) (e:Addr) (cls:Value) (vs:List Value),Inv X pins σ H s→Heap.MadeExcOf s.heap h' e cls vs→E cls none H→X.xe (.ref e) { s with heap:=h' }
theorem YZ:Q6 (g.cxX N qual st f cdv A outer s H E) E:=by
 intro pins σ H1 s1 h' e cls vs I hm q
 exact I.leave_made rfl rfl rfl I.ok.frames hm fun h'' B F=>⟨e,cls,H1,B,rfl,I.os,I.bare,F,q⟩
end
def Gx.FnX (g:Gx) (k:Nat) (x:Str) (ps:List Str) (sp:Sp):Prop:=∃ f fd,FnOk g.P g.w g.K g.mg g.base (CXF g.P g.w) k f fd ps sp∧YY g.K fd ps []∧PySem.W.keepIn g.K (.ref f)=true∧g.mg x=some (.ref f)
def Ya9 (g:Gx) (k:Nat) (N:List Str) (qual:Str) (st:Stmt) (sp:Sp):Prop:=∀ (f:Addr) (cdv:Value) (A:Around) (outer:List Env) (s:Shared) (H:Hp) (vs:List V) (Q:VK) (E:XK),Room k (g.cxX N qual st f cdv A outer s H E).A→sp vs H Q E →
 ∃ t,PSs (g.cxX N qual st f cdv A outer s H E) (YH st) t∧t { nx:=fun _ H'=>Q .non H',rt:=Q } (Xq N vs) H
section
variable {g:Gx} {k:Nat} {x qual m:Str} {st:Stmt} {N ps:List Str} {sp:Sp} {C:Addr}
theorem Gx.Raw.fnX (R:g.Raw x qual st ps) (S:FnScope N ps (Yg st)) (len:∀ vs H Q E,sp vs H Q E→vs.length=ps.length) (b:Ya9 g k N qual st sp):g.FnX (k+1) x ps sp:=by
 obtain ⟨f,fd,F,bd,hm⟩:=R
 refine ⟨f,fd,?_,bd,F.kp,hm⟩
 obtain ⟨oc,od,kV,doc,pm,an,cdv,ct,osl,rfl,lk,hcd⟩:=F.ex
 exact Qg lk hcd S len fun A outer s H vs Q E hr h=>b f cdv A outer s H vs Q E hr h
theorem Gx.FnX.mono {j:Nat} (F:g.FnX j x ps sp) (h:j≤k):g.FnX k x ps sp:=by
 obtain ⟨f,fd,F,r⟩:=F
 exact ⟨f,fd,F.mono h,r⟩
theorem Gx.Raw.noneX (R:g.Raw x qual st ps) (no:∀ vs H Q E,¬ sp vs H Q E):g.FnX k x ps sp:=by
 obtain ⟨f,fd,F,bd,hm⟩:=R
 exact ⟨f,fd,⟨fun vs H Q E h=>absurd h (no vs H Q E),fun A outer s H args us vs Q E _ _ _ _ h=>absurd h (no vs H Q E)⟩,bd,F.kp,hm⟩
end
section
variable {g:Gx} {X:Cx} {k j:Nat} {x:Str} {ps:List Str} {sp:Sp} {E:XK} {e:Expr} {es:List Expr} {t:TA} {p pos cpos np:Pos}
theorem YK (F:g.FnX j x ps sp) (hr:Room k X.A) (hp:Xa (CXF g.P g.w) X E) (ha:PA X (e::es) t) (hj:j≤k) (hX:X.gx=g) (hg:Gl X x) (hdb:(x==("__debug__":Str))=false)
  (he:starEach (e::es) X.env=(false,eval e X.env)::starEach es X.env) (hpl:(backTo pos (starEach es X.env)).any (·.1)=false):PE X (.Call (.Name x p) (e::es) [] pos) (VO sp [] E t):=by
 subst hX
 obtain ⟨f,fd,F,b,kp,hm⟩:=F
 exact UN F (hr.mono hj) hg hm kp b .nil hp ha hdb he hpl
theorem PS.nox {st:Stmt} {t:TS} (h:PS X.nox st t):PS X st t:=fun pins s σ H D I hw =>
 wpAny_mono (h pins s σ H D (I.wish _) hw) (fun _ _ q=>q.unwish) fun _ _ z=>False.elim z
abbrev Y2:List Value:=[.type "ValueError",.type "Exception",.type "BaseException",.type "object"]
structure Gx.Exc (g:Gx) (x:Str) (C:Addr):Prop where
 bound:g.mg x=some (.ref C)
 own:PySem.W.excIn g.K C Y2 "ValueError.__new__"=true
theorem YbP {K:PySem.W.Frag} {h:Heap} {C:Addr} {tl:List Value} {nw:String} (In:K.In h) (q:PySem.W.excIn K C tl nw=true) :
  ∃ (bm:List Value) (ns:Addr) (nm qn:Str) (bs:List Value) (hd:Bool) (sn:List Str) (sub:List Value) (ab:Bool) (col:Option Bool) (dd:Option Addr) (k0 k1 k2 k3 k5:Option Value) (mN:Str→Option Value),
   h.get? C=some (excClassObj nm qn C ns bs bm hd sn sub ab col dd k0 k1 k2 k3 k5 nw)∧h.Ns ns mN∧mN "__init__"=none∧OwnTail h tl bm:=by
 unfold PySem.W.excIn at q
 split at q
 case h_2=>exact absurd q (by decide)
 case h_1 dd cd sl lk =>
  split at q
  case h_2=>exact absurd q (by decide)
  case h_1 c2 bm k0 k1 k2 k3 n k5 em es =>
   simp only [beq_iff_eq,Bool.and_eq_true,Bool.not_eq_true'] at q
   obtain ⟨⟨⟨⟨⟨q1,q2⟩,q3⟩,q4⟩,q5⟩,q6⟩:=q
   obtain ⟨nm,bs,mro,ns,qn,hd,sn,sub,ab,col,del⟩:=cd
   obtain ⟨lst⟩:=sl
   dsimp only at em q3 q5 q6 es
   subst q1 q2 em q3 es
   exact ⟨bm,ns,nm,qn,bs,hd,sn,sub,ab,col,dd,k0,k1,k2,k3,k5,_,In _ _ lk,.of_isNs (PySem.W.isNs_of_in In q5),PySem.W.nsMap_none_of_in In q5 q6,PySem.W.tail_of_in In q4⟩
def Q7 (C:Addr) (E:XK) (t:TA):TS:=fun _ σ H=>t σ H fun vs H1=>vs.length≤sizeLine∧E (.ref C) none H1
theorem YE {C:Addr} (hC:g.Exc x C) (hR:Q6 X E) (ha:PA X (e::es) t) (hc:X.calm=true) (hX:X.gx=g) (hg:Gl X x) (hdb:(x==("__debug__":Str))=false)
  (he:starEach (e::es) X.env=(false,eval e X.env)::starEach es X.env) (hpl:(backTo cpos (starEach es X.env)).any (·.1)=false) :
  PS X (.Raise (some (.Call (.Name x np) (e::es) [] cpos)) none pos) (Q7 C E t):=by
 subst hX
 intro pins s σ H D I h
 obtain ⟨bm,ns,nm,qn,bs,hd,sn,sub,ab,col,dd,k0,k1,k2,k3,k5,mN,hO,hN,hni,T⟩:=YbP I.mod.kin hC.own
 refine wpAny_Raise_call_subT (C:=C) (nm:=nm) (q:=qn) (N:=ns) (bs:=bs) (bm:=bm) (hdct:=hd) (sn:=sn) (sub:=sub) (ab:=ab) (col:=col) (dd:=dd) (k0:=k0) (k1:=k1) (k2:=k2) (k3:=k3) (k5:=k5)
  F.excBase_ValueError (mN:=mN) (T.hasType F.excBase_ValueError.hasBase) (I.ok.hd hc) ?_ hni (XF I hg hC.bound ⟨rfl,?_⟩ hdb)
 ·rw [he]
  show (false||(backTo cpos (starEach es X.env)).any (·.1))=false
  rw [hpl];rfl
 ·have a1:=ha cpos pins s σ H _ I h
  rw [he] at a1 ⊢
  refine Calls.evalArgs_plain (wpAny_mono a1 (fun us s2 hz=>?_) fun _ _ y=>y)
  obtain ⟨vs,H2,I2,r,q1,q2⟩:=hz
  exact ⟨rfl,by rw [← r.length];exact q1,I2.bk _ _ hO,hN.keeps I2.bk,T.keeps I2.bk,fun h' e hm=>hR pins σ H2 s2 h' e _ us I2 hm q2⟩
end
abbrev Cx.caught (X:Cx) (e:Addr):Cx:={ X with A:=X.A.mark (some (.ref e)),calm:=false,xe:=fun _ _=>False }
section
variable {X:Cx} {pins:List (Addr×Obj)} {σ:St} {H H' H1:Hp} {s s1 s':Shared} {e:Value} {D:Ends} {ts:TS} {b₀:Stmt} {suite:List Stmt} {c:Str} {cv:Value} {cp hpos:Pos}
theorem Inv.caught (I:Inv X pins σ H s) (a:Addr):Inv (X.caught a) pins σ H s :=
 ⟨⟨I.ok.mod,I.ok.kind,I.ok.glob,I.ok.blt,I.ok.above,I.ok.inj,I.ok.has,I.ok.cab,fun z=>(by cases z),I.ok.frames,I.ok.stk,I.ok.exf,I.ok.bs,I.ok.bsz,I.ok.noex,I.ok.exfs,I.ok.funs,I.ok.frf⟩,I.os,I.bare,I.base,I.loc,I.cell,I.free,I.freeC,I.pin,I.hok,I.len⟩
theorem Inv.uncaught {a:Addr} (hd:X.calm=true→X.A.handled=none) (I:Inv (X.caught a) pins σ H s):Inv X pins σ H s :=
 ⟨⟨I.ok.mod,I.ok.kind,I.ok.glob,I.ok.blt,I.ok.above,I.ok.inj,I.ok.has,I.ok.cab,hd,I.ok.frames,I.ok.stk,I.ok.exf,I.ok.bs,I.ok.bsz,I.ok.noex,I.ok.exfs,I.ok.funs,I.ok.frf⟩,I.os,I.bare,I.base,I.loc,I.cell,I.free,I.freeC,I.pin,I.hok,I.len⟩
theorem Inv.seen {a:Addr} {cls:Value} {B:Heap} (I:Inv X pins σ H1 s1) (F:Fly X.prog X.w X.stack H1 s1.heap a cls H' s'.heap B) (os:s'.os=s1.os) (bare:AllBare s'.gens):Inv X pins σ H' s' :=
 I.call' (ch:=[]) os (F.un I.stkFree) F.held bare fun b z=>nomatch z
theorem Inv.stkData (I:Inv X pins σ H1 s1):∀ b∈frs X.stack,∀ o,s1.heap.get? b=some o→∀ vs,o.data ≠ .fields vs:=fun b hb o q=>by
 obtain ⟨_,o',e',d⟩:=I.stack.mem hb
 rw [q] at e'
 cases e'
 exact d
end
def tTry (K:PySem.W.Frag) (cv:Value) (sp:Sp) (t:TA) (i:Nat) (ts:TS):TS:=fun D σ H=>t σ H fun vs H1=>sp (vs++[]) H1 (fun v H2=>D.nx (σ.set i (some v)) H2) (fun cls _ H2=>PySem.W.exmOne K cls cv=some true∧ts D σ H2)
section
variable {g:Gx} {X:Cx} {k j i:Nat} {x f c:Str} {ps:List Str} {sp:Sp} {e:Expr} {es:List Expr} {t:TA} {ts:TS} {b₀:Stmt} {suite:List Stmt} {cv:Value} {fp px cp hpos apos cpos pos:Pos}
end
end L2
namespace L2
open PySem PySem.Spec PyProof.Rows
section
variable {prog:Program} {w:World} {A:Around} {E:Value→Shared→Prop} {s:Shared}
open AutoSeq1 (wpAny_loadPart') in
end
section
variable {X:Cx} {elts:List Expr} {kk:Nat} {tpos:Pos}
end
section
variable {g:TG} {tb:TS} {D:Ends} {σ:St} {H:Hp}
end
end L2
namespace L2
open PySem PySem.Spec PyProof.Rows
section
variable {prog:Program} {w:World} {A:Around} {E:Value→Shared→Prop} {s:Shared}
open AutoSeq1 (wpAny_loadPart') in
end
end L2
namespace L2
open PySem PySem.Spec PyProof.Rows
section
variable {X:Cx} {elts:List Expr} {kk:Nat} {tpos:Pos}
end
section
variable {g:TG} {tb:TS} {D:Ends} {σ:St} {H:Hp}
end
section
variable {X:Cx} {tg:Expr}
end
end L2
namespace L2
open PySem PySem.Spec PyProof.Rows
def X3 (a:Addr) (cls:Value):HO := .ext fun h=>∃ o vs,h.get? a=some o∧o.cls=cls∧o.data = .fields vs
section
variable {P:Program} {w:World} {l:List Env} {H H':Hp} {h h' h'' B:Heap} {a e:Addr} {cls:Value} {o:HO}
theorem YD.alive (x:YD P w H h a o):∃ u,h.get? a=some u:=by
 cases o with
 | lst xs=>obtain ⟨_,_,_,_,e⟩:=x;exact ⟨_,e⟩
 | tup xs=>obtain ⟨_,_,_,u,e,_⟩:=x;exact ⟨_,e⟩
 | dK kvs=>obtain ⟨_,_,_,_,o,_,_,e,_⟩:=x;exact ⟨_,e⟩
 | dT kvs=>obtain ⟨_,_,_,_,o,_,_,e,_⟩:=x;exact ⟨_,e⟩
 | set S n=>obtain ⟨o,_,_,_,e,_⟩:=x;exact ⟨_,e⟩
 | ins C dx fs=>obtain ⟨_,_,_,e,_⟩:=x;exact ⟨_,e⟩
 | own y=>exact x
 | xd fs=>obtain ⟨_,⟨_,_,_,e,_⟩,_⟩:=x;exact ⟨_,e⟩
 | rng lo hi=>obtain ⟨_,_,_,e⟩:=x;exact ⟨_,e⟩
 | frz ob u=>obtain ⟨e,_⟩:=x;exact ⟨_,e⟩
 | tbl ps=>exact ⟨_,(show h.get? a=some _ from x)⟩
 | met f y=>exact ⟨_,(show h.get? a=some _ from x)⟩
 | ext φ=>exact x.2.1
theorem Fly.new (F:Fly P w l H h e cls H' h' B) (hf:∀ b∈frs l,H b=none) (nf:∀ b∈frs l,∀ o,h.get? b=some o→∀ vs,o.data ≠ .fields vs):h.get? e=none:=by
 obtain ⟨a0,fl⟩:=F.fl
 cases q:h.get? e with
 | none=>rfl
 | some o =>
  by_cases hb:e∈frs l
  ·obtain ⟨sl,z⟩:=F.slot e o q (hf e hb) hb
   obtain ⟨oe,vs,z',_,d,_⟩:=fl.first
   rw [z] at z'
   cases z'
   exact absurd d (nf e hb o q vs)
  ·obtain ⟨o',z⟩:=F.al e o q hb
   rw [fl.2.1] at z
   cases z
theorem Fly.out (F:Fly P w l H h e cls H' h' B):H' e=none:=by
 obtain ⟨a0,fl⟩:=F.fl
 cases q:H' e with
 | none=>rfl
 | some u =>
  obtain ⟨o,z⟩:=(F.hok e u q).alive
  rw [fl.2.1] at z
  cases z
theorem Fly.track (F:Fly P w l H h e cls H' h' B) (hf:∀ b∈frs l,H b=none) (nf:∀ b∈frs l,∀ o,h.get? b=some o→∀ vs,o.data ≠ .fields vs) :
  Un (frs l) [] H (upd H' e (X3 e cls)) h h'∧HOk P w (upd H' e (X3 e cls)) h':=by
 have n1:=F.new hf nf
 have n2:=F.out
 have u:=F.un hf
 have ok:=F.held
 obtain ⟨a0,fl⟩:=F.fl
 refine ⟨⟨u.keep,u.slot,fun b o q n hx=>?_,u.there,fun b xs q=>?_,fun b o x q=>?_,fun b ps q=>?_⟩,fun b x q=>?_⟩
 ·rw [Yl (fun z=>by rw [z,n1] at q;cases q)]
  exact u.free b o q n hx
 ·rw [Yl (Yq (u.tups b xs q) n2)]
  exact u.tups b xs q
 ·rw [Yl (Yq (u.frzs b o x q) n2)]
  exact u.frzs b o x q
 ·obtain ⟨m,z⟩:=u.tbls b ps q
  exact ⟨m,by rw [Yl (Yq z n2)];exact z⟩
 ·by_cases hb:b=e
  ·subst hb
   rw [Yf] at q
   cases q
   obtain ⟨oe,vs,z1,z2,z3,_⟩:=fl.first
   exact ⟨⟨oe,vs,z1,z2,z3⟩,⟨oe,z1⟩,fun h1 h2 p k=>by obtain ⟨o,vs,y1,y2,y3⟩:=p;exact ⟨o,vs,k o y1,y2,y3⟩⟩
  ·rw [Yl hb] at q
   exact (ok b x q).stay (fun c v _ r=>r) (fun c r=>by rw [Yl (Yq r n2)];exact r) fun c xs r=>by rw [Yl (Yq r n2)];exact r
end
section
variable {X:Cx} {pins:List (Addr×Obj)} {σ:St} {H H' H1:Hp} {s s1 s':Shared}
theorem YbQ {M:Model} {A:Around} {E:Value→Shared→Prop} {j:Nat} {n:Str} {pos:Pos} {Q:Unit→Shared→Prop} (I:Inv X pins σ H s) (hN:X.N.Nodup) (hj:X.N[j]?=some n) (hk:X.env.scope.names.lookup n=some .local)
  (h:∀ s',Inv X pins (σ.set j none) H s'→Q () s'):wpAny M A (do bindName X.env n .none;unbindBehindTheSuite X.env n pos) Q E s:=by
 obtain ⟨m,hn,hl⟩:=id I.loc
 have hcls:(X.env.scope.kind == .class||(X.env.scope.kind == .module&&X.env.locals != X.env.globals))=false:=by rw [I.ok.kind];rfl
 have cne:=I.cne
 have tracked:∀ {a:Addr} {h':Heap},(∃ o,s.heap.get? a=some o∧H a=none)→Heap.SameBut a s.heap h'→HOk X.prog X.w H h':=fun {a h'} ha hs b ob e=>by
  obtain ⟨_,_,hfree⟩:=ha
  refine (I.hok b ob e).stay (fun c w' hc q=>(hs.2 c ?_).trans q) (fun _ q=>q) fun _ _ q=>q
  rintro rfl
  rcases hc with rfl | hc
  ·rw [hfree] at e;cases e
  ·rw [hfree] at hc;cases hc
 refine wpAny_nameGoes_keeps hk hn hcls fun h' v hn' hs=>?_
 obtain ⟨oL,_,_,hoL,_⟩:=id hn
 refine h _ ⟨I.ok,I.os,I.bare,⟨fun b o e n hb hx=>?_,fun b o e n hb hx=>?_,I.base.free,fun b o e hx=>?_,I.base.tups,I.base.frzs,I.base.tbls⟩,⟨_,hn',fun i y v' e1 e2 e3=>?_⟩,fun y c e=>?_,I.free,I.freeC,fun p hp=>?_,tracked ⟨oL,hoL,I.free⟩ hs,by simpa using I.len⟩
 ·exact (hs.2 b (I.notL e)).trans (I.base.keep b o e n hb hx)
 ·obtain ⟨sl,e1⟩:=I.base.slot b o e n hb hx
  exact ⟨sl,(hs.2 b (I.notL e)).trans e1⟩
 ·obtain ⟨o',e1⟩:=I.base.there b o e hx
  exact ⟨o',(hs.2 b (I.notL e)).trans e1⟩
 ·by_cases hji:i=j
  ·subst hji
   rw [List.getElem?_set] at e2
   split at e2
   ·split at e2<;>cases e2
   ·rename_i z;exact absurd rfl z
  ·rw [List.getElem?_set_ne (Ne.symm hji)] at e2
   obtain ⟨u',r',q⟩:=hl i y v' e1 e2 e3
   refine ⟨u',r',?_⟩
   rcases q with ⟨k,e⟩ | ⟨k,c,e,z⟩
   ·refine .inl ⟨k,?_⟩
    have:y≠n:=fun e=>hji (WK hN e1 (e▸hj))
    simp [this,e]
   ·exact .inr ⟨k,c,e,z.sameBut hs (cne y c e)⟩
 ·obtain ⟨w',z⟩:=I.cell y c e
  exact ⟨w',z.sameBut hs (cne y c e)⟩
 ·obtain ⟨e,n,ne,nf,d⟩:=I.pin p hp
  exact ⟨(hs.2 p.1 ne).trans e,n,ne,nf,d⟩
end
def Ends.gone (D:Ends) (j:Nat):Ends:={ nx:=fun σ H=>D.nx (σ.set j none) H,rt:=D.rt,bk:=fun σ H=>D.bk (σ.set j none) H,ct:=fun σ H=>D.ct (σ.set j none) H }
section
variable {X:Cx} {pins:List (Addr×Obj)} {σ:St} {H H' H1:Hp} {s s1 s':Shared} {e:Value} {D:Ends} {ts:TS} {b₀:Stmt} {suite:List Stmt} {c n:Str} {cv:Value} {cp hpos:Pos} {j:Nat}
theorem Inv.catchAs (I:Inv X pins σ H1 s1) (hs:X.stack=X.env::X.outer) (hf:X.env.frame=some X.env.locals) (hN:X.N.Nodup) (hj:X.N[j]?=some n) (hk:X.env.scope.names.lookup n=some .local)
  (hq:CXF X.prog X.w X.stack H1 s1 (fun cls _ H2=>PySem.W.exmOne X.K cls cv=some true∧∀ a,H2 a=none→ts (D.gone j) (σ.set j (some (.ref a))) (upd H2 a (X3 a cls))) e s')
  (hsu:∀ a,PSs (X.caught a) (b₀::suite) ts) (hc:Gl X c) (hcm:X.mg c=some cv) (hdb:(c==("__debug__":Str))=false) :
  wpAny (model X.prog X.w) X.A (noteFrame e X.env) (fun _ s₂=>wpAny (model X.prog X.w) X.A (setFlight e none) (fun _ s₃=>wpAny (model X.prog X.w) X.A (handleBy e X.env [.ExceptHandler (some (.Name c cp)) (some n) (b₀::suite) hpos]) (SP X pins D) X.xe s₃) X.xe s₂) X.xe s':=by
 obtain ⟨a,cls,H2,B,rfl,os,bare,F,hm,ht⟩:=hq
 obtain ⟨a0,fl⟩:=F.fl
 have nf:=I.stkData
 have fl':=fl
 rw [hs] at fl'
 have hfr:=I.ok.frames
 rw [hs] at hfr
 refine wpAny_looks_onW hfr hf fl' fun h₄ held sm4=>wpAny_landsW held fun h₅ fl5 sm5=>?_
 rw [← hs] at fl5
 have F5:=F.on ⟨a0,fl5⟩ nf (sm4.trans sm5)
 have I5:Inv X pins σ H2 { s' with heap:=h₅ }:=I.seen (s':={ s' with heap:=h₅ }) F5 os bare
 have I5c:=I5.caught a
 refine wpAny_handleBy_cons (codeAny_handlers_test (XF I5c hc hcm ?_ hdb)) (by intro q;cases q)
 obtain ⟨ob,hob,hcl⟩:=fl5.there
 have LT:PySem.W.Looks (model X.prog X.w) h₅ (typeOf (.ref a)) cls:=by
  subst hcl
  exact (PySem.W.Looks.ld hob).andThen .now
 refine PySem.W.exm_one (K:=X.K) (h:=h₅) I5.kIn LT hm _ _ _ _ (fun _ _ z=>z) ?_
 refine codeAny_handlers_suite_as ?_
 refine lands_againW fl5 fun h₆ fl6 sm6=>?_
 have F6:=F5.on ⟨a0,fl6⟩ nf sm6
 obtain ⟨u6,ok6⟩:=F6.track I.stkFree nf
 have I6:Inv X pins σ (upd H2 a (X3 a cls)) { s' with heap:=h₆ }:=I.call' (s':={ s' with heap:=h₆ }) (ch:=[]) os u6 ok6 bare fun b z=>nomatch z
 have I6c:=I6.caught a
 refine XL (X:=X.caught a) I6c hN hj (.inl hk) (v := .ref a) rfl (fun s7 I7=>?_) (.inr hk)
 refine wpAny_mono (hsu a pins _ _ _ (D.gone j) I7 (ht a F6.out)) (fun f s8 z=>?_) fun _ _ z=>z.elim
 have key:∀ {σ':St} {H':Hp} {Q:St→Hp→Prop},Inv (X.caught a) pins σ' H' s8→Q (σ'.set j none) H'→∀ {R:Unit→Shared→Prop},(∀ s9,Inv X pins (σ'.set j none) H' s9→R () s9)→wpAny (model X.prog X.w) X.A (do bindName X.env n .none;unbindBehindTheSuite X.env n hpos) R X.xe s8 :=
  fun {σ' H' Q} J _ {R} hR=>YbQ (J.uncaught I.ok.hd) hN hj hk hR
 cases f with
 | next=>obtain ⟨σ',H',J,q⟩:=z;exact key (Q:=fun _ _=>True) J trivial fun s9 J9=>⟨_,_,J9,q⟩
 | brk=>obtain ⟨σ',H',J,q⟩:=z;exact key (Q:=fun _ _=>True) J trivial fun s9 J9=>⟨_,_,J9,q⟩
 | cont=>obtain ⟨σ',H',J,q⟩:=z;exact key (Q:=fun _ _=>True) J trivial fun s9 J9=>⟨_,_,J9,q⟩
 | ret u=>obtain ⟨v,σ',H',J,r,q⟩:=z;exact key (Q:=fun _ _=>True) J trivial fun s9 J9=>⟨v,_,_,J9,r,q⟩
end
end L2
namespace L2
open PySem PySem.Spec PyProof.Rows
def Q8 (K:PySem.W.Frag) (cv:Value) (sp:Sp) (t:TA) (i j:Nat) (ts:TS):TS:=fun D σ H=>t σ H fun vs H1=>sp (vs++[]) H1 (fun v H2=>D.nx (σ.set i (some v)) H2) (fun cls _ H2=>PySem.W.exmOne K cls cv=some true∧∀ a,H2 a=none→ts (D.gone j) (σ.set j (some (.ref a))) (upd H2 a (X3 a cls)))
section
variable {g:Gx} {X:Cx} {k jj i j:Nat} {x f c n:Str} {ps:List Str} {sp:Sp} {e:Expr} {es:List Expr} {t:TA} {ts:TS} {b₀:Stmt} {suite:List Stmt} {cv:Value} {fp px cp hpos apos cpos pos:Pos}
theorem YaI (F:g.FnX jj f ps sp) (hr:Room k X.A) (hN:X.N.Nodup) (hi:X.N[i]?=some x) (hx:Loc X.env.scope x) (hj:X.N[j]?=some n) (hk:X.env.scope.names.lookup n=some .local) (ha:PA X.nox (e::es) t) (hcm:g.mg c=some cv) (hsu:∀ a,PSs (X.caught a) (b₀::suite) ts)
  (hjk:jj≤k) (hX:X.gx=g) (hs:X.stack=X.env::X.outer) (hf:X.env.frame=some X.env.locals) (hg:Gl X f) (hc:Gl X c) (hdf:(f==("__debug__":Str))=false) (hdb:(c==("__debug__":Str))=false)
  (he:starEach (e::es) X.env=(false,eval e X.env)::starEach es X.env) (hpl:(backTo cpos (starEach es X.env)).any (·.1)=false)
  (hsw:swapsWith (.Call (.Name f fp) (e::es) [] cpos) (some (.Name x px)) apos.line X.env=pure false) (hfn:X.fn x=true∨X.env.scope.names.lookup x=some .local) :
  PS X (.Try [.Assign [.Name x px] (.Call (.Name f fp) (e::es) [] cpos) apos] [.ExceptHandler (some (.Name c cp)) (some n) (b₀::suite) hpos] [] [] pos) (Q8 X.K cv sp t i j ts):=by
 subst hX
 intro pins s σ H D I h
 obtain ⟨fa,fd,F,b,kp,hm⟩:=F
 refine wpAny_Try_except ?_
 refine wpAny_execs_cons ?_
 refine wpAny_Assign_Name (thn (Q:=EP X pins σ fun v H2=>D.nx (σ.set i (some v)) H2) ?_ fun v s1 hz=>?_) hsw
 ·refine wpAny_Call_Name_kw (XF I hg hm ?_ hdf)
  refine PySem.W.callWith_K (h₀:=X.base) I.ok.mod.kin kp (wpAny_mono (ha cpos pins s σ H _ (I.wish _) h) (fun us s1 hz=>?_) fun _ _ z=>z.elim) he hpl
  obtain ⟨vs,H1,I1,r,q⟩:=hz
  have I1:=I1.unwish
  refine ⟨I1.kIn,?_⟩
  have r2:Yi (vs++[]) (us++[]):=r.append .nil
  have hl:(us++[]).length=ps.length:=by rw [← r2.length];exact F.len _ _ _ _ q
  refine wpAny_call (codeAny_mono (F.run X.A X.stack s1 H1 ⟨us,[]⟩ (us++[]) (vs++[]) _ _ (hr.mono hjk) I1.env0 (b s1 us I1.kIn hl) r2 q) fun r s' hq=>?_)
  cases r with
  | error e=>exact I1.catchAs hs hf hN hj hk hq hsu hc hcm hdb
  | ok fl =>
   cases fl with
   | ret u=>exact I1.after hq
   | next=>exact False.elim hq
   | brk=>exact False.elim hq
   | cont=>exact False.elim hq
 ·obtain ⟨y,H1,I1,r1,q1⟩:=hz
  exact XL I1 hN hi hx r1 (fun s2 I2=>wpAny_execs_nil (wpAny_execs_nil ⟨_,H1,I2,q1⟩)) hfn
end
structure RoomM (k:Nat) (A:Around):Prop where
 dp:A.depth+3*k+5<recursionLimit
 un:A.units+16*k+200<cLine
theorem Room.m {k:Nat} {A:Around} (r:Room k A) (h:Option Value):RoomM k (A.mark h):=⟨r.dp,r.un⟩
section
variable {g:Gx} {k:Nat} {x qual:Str} {st:Stmt} {N ps:List Str} {sp:Sp}
end
section
variable {g:Gx} {X:Cx} {k j:Nat} {x:Str} {ps:List Str} {sp:Sp} {e:Expr} {es:List Expr} {t:TA} {p pos:Pos}
end
end L2
namespace PySem.W
open PySem PySem.Calls PyProof.Rows Builtin Builtin.ObjectAttr Builtin.Getset_descriptor
section
variable {prog:Program} {w:World} {A:Around} {E:Value→Shared→Prop} {K:Frag} {x C:Addr} {ox:Obj} {hh:Heap} {g:Array GenState} {d:Drawn} {t:Nat} {os:OsState}
theorem Q9 (v:Value):bindSpecial (.builtin "BaseException.__getattribute__") v=pure (.builtin "BaseException.__getattribute__",[v]):=by
 have h1:withoutEnding? "BaseException.__getattribute__" "#opaque"=none:=by decide +kernel
 have h2:withoutEnding? "BaseException.__getattribute__" "#data"=none:=by decide +kernel
 have h3:builtinKind "BaseException.__getattribute__"=some .slot:=by decide +kernel
 simp only [bindSpecial,typeOf,builtinType,h1,h2,h3]
 rfl
theorem Yaa {tp:Value} {R:Result→Shared→Prop} (In:K.In hh) (hx:hh.get? x=some ox) (hc:ox.cls = .ref C) (hm:mroIn K C (.type "object")=some true)
  (h:R (.ok (.ret (.ref C))) ⟨hh,g,d,t,os⟩):codeAny (model prog w) A (.call (.builtin "getset_descriptor.__get__") ⟨[.builtin "object.__class__",.ref x,tp],[]⟩) R ⟨hh,g,d,t,os⟩:=by
 have L0:Looks (model prog w) hh (typeOf (.ref x)) (.ref C):=by rw [← hc];exact (Looks.ld hx).andThen .now
 have L1:=looks_mroIn (M:=model prog w) In hm
 refine codeAny_call_builtin KF.slot_gs.plain KF.entry_gs (KF.slot_gs.check _ _ _ _ _ _ _ _ KF.type_class (KF.args_gs _ _ _) ?_)
 unfold Builtin.«getset_descriptor.__get__»
 unfold descrGet
 rw [dga_obj]
 refine wpAny_bind (wpAny_pure ?_)
 unfold descrGetter
 unfold descrCheckInstance descrNameAndClass
 unfold isInstance
 simp only [KF.owner_class]
 repeat lk
 refine ⟨Code.quiet_builtin _ (by decide +kernel),codeAny_builtin KF.entry_class ?_⟩
 unfold Builtin.«object.__class__»
 unfold shownTypeOf
 repeat lk
 exact h
theorem UG {tk:Tok} {Q:Fin→Shared→Prop} (In:K.In hh) (hx:hh.get? x=some ox) (hc:ox.cls = .ref C) (hm:mroIn K C (.type "object")=some true) (ha:findIn K (.ref C) "__class__"=some (some (.builtin "object.__class__")))
  (hq:Q (.done (.ret (.ref C))) ⟨hh,g,d,t,os⟩):wpAny (model prog w) A (Builtin.«object.__getattribute__» ⟨[.ref x,.str "__class__" tk],[]⟩) Q E ⟨hh,g,d,t,os⟩:=by
 have hT5:(⟨hh,g,d,t,os⟩:Shared).TypeIs (.builtin "object.__class__") "getset_descriptor":=F.typeOf_object_class
 have f5:=F.typeOf_object_class
 have f6:=F.slot_gs_get.lookup
 have f7:=F.slot_gs_set.lookup
 have L3:=looks_findIn (M:=model prog w) In ha
 repeat (any_goals (first | assumption | (with_reducible refine wpAny_loadPart_at hx ?_;rw [hc]) | with_reducible refine L3.at ?_ | wp_step))
 refine Yaa In hx hc hm ?_
 repeat (any_goals (first | assumption | wp_step))
theorem UH {nv:Value} {Q:Unit→Shared→Prop} (In:K.In hh) (hx:hh.get? x=some ox) (hc:ox.cls = .ref C) (hb:mroIn K C (.type "BaseException")=some true) (hq:Q () ⟨hh,g,d,t,os⟩) :
  wpAny (model prog w) A (checkBuiltinCall "BaseException.__getattribute__" ⟨[.ref x,nv],[]⟩) Q E ⟨hh,g,d,t,os⟩:=by
 have k1:builtinKind "BaseException.__getattribute__"=some .slot:=by decide +kernel
 have k2:splitId "BaseException.__getattribute__"=some ("BaseException","__getattribute__"):=by decide +kernel
 have k3:=F.args_bexc_ga (.ref x) nv
 have L1:=looks_mroIn (M:=model prog w) In hb
 simp only [checkBuiltinCall,k1,k2]
 refine wpAny_bind ?_
 unfold isInstance
 repeat (first | (with_reducible refine wpAny_loadPart_at hx ?_;rw [hc]) | with_reducible refine L1.at ?_ | wp_step)
 exact hq
theorem Qk {tk:Tok} {R:Result→Shared→Prop} (In:K.In hh) (hx:hh.get? x=some ox) (hc:ox.cls = .ref C) (hm:mroIn K C (.type "object")=some true) (hb:mroIn K C (.type "BaseException")=some true) (ha:findIn K (.ref C) "__class__"=some (some (.builtin "object.__class__")))
  (hq:R (.ok (.ret (.ref C))) ⟨hh,g,d,t,os⟩):codeAny (model prog w) A (.call (.builtin "BaseException.__getattribute__") ⟨[.ref x,.str "__class__" tk],[]⟩) R ⟨hh,g,d,t,os⟩ :=
 codeAny_call_builtin (by decide +kernel) F.entry_bexc_ga (UH In hx hc hb (UG In hx hc hm ha hq))
theorem YaJ {tk:Tok} {Q:Value→Shared→Prop} (In:K.In hh) (hx:hh.get? x=some ox) (hc:ox.cls = .ref C) (hm:mroIn K C (.type "object")=some true) (hb:mroIn K C (.type "BaseException")=some true) (ha:findIn K (.ref C) "__class__"=some (some (.builtin "object.__class__")))
  (hga:findIn K (.ref C) "__getattribute__"=some (some (.builtin "BaseException.__getattribute__"))) (hgt:findIn K (.ref C) "__getattr__"=some none) (hbd:bindSpecial (.builtin "BaseException.__getattribute__") (.ref x)=pure (.builtin "BaseException.__getattribute__",[.ref x])) (hq:Q (.ref C) ⟨hh,g,d,t,os⟩) :
  wpAny (model prog w) A (getAttrBy (.ref x) (.str "__class__" tk) false) Q E ⟨hh,g,d,t,os⟩:=by
 have e2:(Value.builtin "BaseException.__getattribute__"==Value.builtin "object.__getattribute__")=false:=by decide +kernel
 have e1:(onTheHeap (Value.ref C)&&Value.builtin "BaseException.__getattribute__"==Value.builtin "object.__getattribute__")=false:=by rw [e2];rfl
 have e0:(false&&onTheHeap (Value.builtin "BaseException.__getattribute__"))=false:=rfl
 have L1:=looks_findIn (M:=model prog w) In hga
 have L2:=looks_findIn (M:=model prog w) In hgt
 repeat (any_goals (first | assumption | (with_reducible refine wpAny_loadPart_at hx ?_;rw [hc]) | with_reducible refine L1.at ?_ | with_reducible refine L2.at ?_ | wp_step))
 refine Qk In hx hc hm hb ha ?_
 repeat (any_goals (first | assumption | wp_step))
theorem Ql {Q:Option Value→Shared→Prop} (In:K.In hh) (hx:hh.get? x=some ox) (hc:ox.cls = .ref C) (hm:mroIn K C (.type "object")=some true) (hb:mroIn K C (.type "BaseException")=some true) (ha:findIn K (.ref C) "__class__"=some (some (.builtin "object.__class__")))
  (hga:findIn K (.ref C) "__getattribute__"=some (some (.builtin "BaseException.__getattribute__"))) (hgt:findIn K (.ref C) "__getattr__"=some none) (hq:Q (some (.ref C)) ⟨hh,g,d,t+1,os⟩) :
  wpAny (model prog w) A (getAttr? (.ref x) "__class__") Q E ⟨hh,g,d,t,os⟩:=by
 unfold getAttr? getAttrBy?
 refine wpAny_bind (wpAny_mkText (wpAny_bind (wpAny_attempt (YaJ In hx hc hm hb ha hga hgt ?_ (wpAny_pure hq)))))
 exact Q9 (.ref x)
theorem kitx_exc (hd:hasDictIn K C=true) (hm:mroIn K C (.type "object")=some true) (hb:mroIn K C (.type "BaseException")=some true) (ha:findIn K (.ref C) "__class__"=some (some (.builtin "object.__class__")))
  (hga:findIn K (.ref C) "__getattribute__"=some (some (.builtin "BaseException.__getattribute__"))) (hgt:findIn K (.ref C) "__getattr__"=some none):KitX K (.ref x) (.ref C) (fun h=>∃ o,h.get? x=some o∧o.cls = .ref C) where
 ty:=fun M h _ ⟨o,hx,hc⟩=>by rw [← hc];exact (Looks.ld hx).andThen .now
 it:=fun M h In _=>by
  obtain ⟨cd,e,_⟩:=any_some hd
  unfold clsIn at e
  split at e
  case h_2=>cases e
  case h_1 q =>
   intro A' Q' E' s' k z
   unfold isType
   unfold loadHead
   exact wpAny_bind (wpAny_loadPart (k _ _ (In _ _ q)) (wpAny_pure z))
 ne:=fun h tp dd its n sl In htp=>by
  obtain ⟨cd,e,_⟩:=any_some hd
  refine Bool.eq_false_iff.mpr fun z=>?_
  have z1:C=tp:=Value.ref.inj (beq_iff_eq.mp z)
  subst z1
  unfold clsIn at e
  split at e
  case h_2=>cases e
  case h_1 q =>
   have y:=(In _ _ q).symm.trans htp
   cases y
 ca:=fun {prog w A E Q s} In ⟨o,hx,hc⟩ k=>by
  obtain ⟨hh,g,d,t,os⟩:=s
  exact Ql In hx hc hm hb ha hga hgt k
end
end PySem.W
namespace L2
open PySem PySem.Spec PyProof.Rows
structure ExcT (K:PySem.W.Frag) (C:Addr):Prop where
 hd:PySem.W.hasDictIn K C=true
 hm:PySem.W.mroIn K C (.type "object")=some true
 hb:PySem.W.mroIn K C (.type "BaseException")=some true
 ha:PySem.W.findIn K (.ref C) "__class__"=some (some (.builtin "object.__class__"))
 hga:PySem.W.findIn K (.ref C) "__getattribute__"=some (some (.builtin "BaseException.__getattribute__"))
 hgt:PySem.W.findIn K (.ref C) "__getattr__"=some none
section
variable {X:Cx}
theorem V9 {C:Addr} (T:ExcT X.K C):YX X (.builtin "isinstance") (fun xs H Q=>∃ a c cv b,xs=[.ref a,c]∧Wc c=some cv∧H a=some (X3 a (.ref C))∧PySem.W.kitOne X.K (.ref C) cv=some b∧Q (.bl b) H):=by
 intro pins s σ H xs us Q I r h
 obtain ⟨a,c,cv,b,rfl,ec,ha,e,q⟩:=h
 obtain ⟨u,w',rfl,ru,rw'⟩:=YaZ r
 have ew:w'=cv:=by
  cases c with
  | ty n=>cases (show w'=Value.type n from rw');simpa [Wc] using ec
  | ref a=>cases (show w'=Value.ref a from rw');simpa [Wc] using ec
  | _=>simp [Wc] at ec
 subst ew
 cases (show u=Value.ref a from ru)
 obtain ⟨⟨o,vs,h1,h2,_⟩,_⟩:=(show YD X.prog X.w H s.heap a (X3 a (.ref C)) from I.hok a _ ha)
 exact PySem.W.kia_one (PySem.W.kitx_exc T.hd T.hm T.hb T.ha T.hga T.hgt) I.kIn ⟨o,h1,h2⟩ e (fun z=>nomatch z) fun tk=>⟨.bl b,H,I.tok tk,rfl,q⟩
theorem YW {K:PySem.W.Frag} {C:Addr} (T:ExcT K C) (h:X.K=K:=by rfl):YX X (.builtin "isinstance") (fun xs H Q=>∃ a c cv b,xs=[.ref a,c]∧Wc c=some cv∧H a=some (X3 a (.ref C))∧PySem.W.kitOne K (.ref C) cv=some b∧Q (.bl b) H):=by subst h;exact V9 T
theorem Yab {g:Gx} {x:Str} {C:Addr} {pos:Pos} (h:g.mg x=some (.ref C)) (hX:X.gx=g) (hg:Gl X x) (hd:(x==("__debug__":Str))=false):PE X (.Name x pos) (tC (.ref C)):=by
 subst hX
 exact Vi hg h rfl hd
end
theorem YaK {X:Cx} {a:Addr}:(X.caught a).K=X.K:=rfl
end L2
namespace L2
open PySem PySem.Spec PyProof.Rows
theorem VH {K:PySem.W.Frag} {C:Addr} {f:Str} (h:PySem.W.findIn K (.ref C) f=some none):YF K C f:=h
end L2
namespace L2
open PySem PySem.Spec PyProof.Rows
section
variable {src:List (Option Nat)} {te:TE} {σ:St} {H:Hp} {Q:VK}
end
end L2
namespace L2
open PySem PySem.Spec PyProof.Rows
section
variable {X:Cx}
end
end L2
namespace L2
open PySem PySem.Spec PyProof.Rows
section
variable {src:List (Option Nat)} {te:TE} {σ:St} {H:Hp} {Q:VK}
end
end L2
namespace L2
open PySem PySem.Spec PyProof.Rows
def SqX (K:PySem.W.Frag) (H:Hp) (a:Addr) (xs:List V):Prop:=Rd H a (.lst xs)∨∃ (its:Array Value) (n:Nat),K.lookup a=some { cls := .type "list",data := .seq its n }∧its.size≤sizeLine∧Yi xs its.toList
theorem SqX.sq {K:PySem.W.Frag} {H:Hp} {a:Addr} {xs:List V} (h:SqX K H a xs):SqL K H a xs:=by
 rcases h with h | ⟨its,n,h1,h2,h3⟩
 ·exact .inl h
 ·exact .inr ⟨_,its,n,h1,rfl,rfl,rfl,h2,h3⟩
theorem SqX.of {K:PySem.W.Frag} {H:Hp} {a:Addr} {xs:List V} (h:H a=some (.lst xs)):SqX K H a xs := .inl (.of h)
theorem SqX.keep {K:PySem.W.Frag} {H H':Hp} {a:Addr} {xs:List V} (h:SqX K H a xs) (s:Same H H'):SqX K H' a xs:=by
 rcases h with h | h
 ·rcases h with h | ⟨o,h⟩
  ·exact .inl (.inl (s _ _ h))
  ·exact .inl (.inr ⟨o,s _ _ h⟩)
 ·exact .inr h
section
variable {X:Cx}
end
end L2
namespace L2
open PySem PySem.Spec PyProof.Rows
section
variable {X:Cx} {g:Gx} {k j i:Nat} {x:Str} {ps:List Str} {sp:Sp} {p pos:Pos} {e:Expr} {es:List Expr} {t:TA}
end
theorem We (es:List Expr) (x:Nat) (p:Pos) (es':List Expr) (env:Env):starEach (.Tuple es x p::es') env=(false,eval (.Tuple es x p) env)::starEach es' env:=rfl
end L2
namespace L2
open PySem PySem.Spec PyProof.Rows
section
variable {X:Cx} {pins:List (Addr×Obj)} {σ:St} {H:Hp} {s:Shared} {A:Around} {E Q:Value→Shared→Prop}
end
section
variable {X:Cx}
end
section
variable {src:List (Option Nat)} {te:TE} {σ:St} {Q:VK}
variable {X:Cx} {H:Hp}
end
end L2
namespace L2
open PySem PySem.Spec PyProof.Rows
section
open PySem.SeqAt
open PySem.AutoSeq1 (wpAny_loadPart')
open PySem.MeetsSeq PySem.MeetsSeq2 PySem.MeetsSeq3
variable {X:Cx}
end
end L2
namespace L2
open PySem PySem.Spec PyProof.Rows
section
open PySem.SeqAt
open PySem.AutoSeq1 (wpAny_loadPart')
open PySem.MeetsSeq PySem.MeetsSeq2 PySem.MeetsSeq3
variable {X:Cx}
variable {K:PySem.W.Frag}
end
end L2
namespace L2
open PySem
mutual
inductive KD:PyData→Prop
 | int (i:Int):KD (.int i)
 | tup {ds:List PyData}:KDs ds→KD (.tuple ds)
inductive KDs:List PyData→Prop
 | nil:KDs []
 | cons {d:PyData} {ds:List PyData}:KD d→KDs ds→KDs (d::ds)
end
mutual
theorem KD.eqv:∀ {d e:PyData},KD d→KD e→(PyData.eqv d e=true↔d=e)
 | _,_,.int i,.int j=>by rw [PyData.eqv];simp
 | _,_,.int i,.tup _=>by rw [PyData.eqv];simp
 | _,_,.tup _,.int i=>by rw [PyData.eqv];simp
 | _,_,.tup h,.tup k=>by
  rw [PyData.eqv,h.eqv k]
  simp
theorem KDs.eqv:∀ {ds es:List PyData},KDs ds→KDs es→(PyData.eqvAll ds es=true↔ds=es)
 | _,_,.nil,.nil=>by simp [PyData.eqvAll]
 | _,_,.nil,.cons _ _=>by simp [PyData.eqvAll]
 | _,_,.cons _ _,.nil=>by simp [PyData.eqvAll]
 | _,_,.cons (d:=d) (ds:=ds) h hs,.cons (d:=e) (ds:=es) k ks=>by
  rw [PyData.eqvAll,Bool.and_eq_true,h.eqv k,hs.eqv ks]
  simp
end
mutual
inductive KLt:PyData→PyData→Prop
 | int {i j:Int}:i<j→KLt (.int i) (.int j)
 | mix {i:Int} {ds:List PyData}:KLt (.int i) (.tuple ds)
 | tup {ds es:List PyData}:KLs ds es→KLt (.tuple ds) (.tuple es)
inductive KLs:List PyData→List PyData→Prop
 | nil {e:PyData} {es:List PyData}:KLs [] (e::es)
 | here {d e:PyData} {ds es:List PyData}:KLt d e→KLs (d::ds) (e::es)
 | there {d:PyData} {ds es:List PyData}:KLs ds es→KLs (d::ds) (d::es)
end
mutual
theorem KLt.trans:∀ {a b c:PyData},KLt a b→KLt b c→KLt a c
 | _,_,_,.int h,.int k => .int (by omega)
 | _,_,_,.int h,.mix => .mix
 | _,_,_,.mix,.tup _ => .mix
 | _,_,_,.tup h,.tup k => .tup (h.trans k)
theorem KLs.trans:∀ {a b c:List PyData},KLs a b→KLs b c→KLs a c
 | _,_,_,.nil,.here _ => .nil
 | _,_,_,.nil,.there _ => .nil
 | _,_,_,.here h,.here k => .here (h.trans k)
 | _,_,_,.here h,.there _ => .here h
 | _,_,_,.there _,.here k => .here k
 | _,_,_,.there h,.there k => .there (h.trans k)
end
end L2
namespace L2
open PySem
section
variable {src:List (Option Nat)} {te:TE} {σ:St} {H:Hp} {Q:VK}
theorem YbR {J:It} {P:Hp→Prop} {xs:List V} (hJ:Xy J P xs) {H1:Hp} {D:Addr} (Rl:Nat→V→Hp→Prop) (st:∀ i y H H',Rl i y H→Same H H'→Rl i y H') (su:∀ i y H zs zs',Rl i y H→H D=some (.lst zs)→Rl i y (upd H D (.lst zs')))
  (hP:∀ H',Same H1 H'→P H') (hD:H1 D=none) (hlen:xs.length≤100000)
  (step:∀ (i:Nat) x H' zs,xs[i]?=some x→Same H1 H'→H' D=some (.lst zs)→∀ R:VK,(∀ y H'',Same H' H''→Rl i y H''→R y H'')→te (some x::YC src σ) H' R)
  (fin:∀ (ys:List V) H',Same H1 H'→H' D=some (.lst ys)→ys.length=xs.length→(∀ (j:Nat) y,ys[j]?=some y→Rl j y H')→Q (.ref D) H'):LC (none::src) J (Y4 0) Wp te σ H1 Q D:=by
 have h6:100000<sizeLine:=by decide
 refine Qj hJ (fun i zs σ' H'=>zs.length=i∧(∃ o,σ'=o::YC src σ)∧Same H1 H'∧H' D=some (.lst zs)∧∀ (j:Nat) y,zs[j]?=some y→Rl j y H')
  ⟨rfl,⟨none,rfl⟩,.upd_new hD _,Yf,fun j y h=>by simp at h⟩ (fun i zs σ' H' ⟨_,_,p1,p2,_⟩=>⟨hP _ p1,p2⟩) (Wd 0) ?_ ?_
 ·rintro i zs σ' H' x hx ⟨hi',⟨o,rfl⟩,sm,hd,hts⟩
  have hi:=(List.getElem?_eq_some_iff.mp hx).1
  show te (some x::YC src σ) H' _
  refine step i x H' zs hx sm hd _ fun y H'' s2 hy=>⟨s2 _ _ hd,by omega,by simp [hi'],⟨_,rfl⟩,.upd_over hD (sm.trans s2) _,Yf,fun j z hj=>su _ _ _ _ _ ?_ (s2 _ _ hd)⟩
  rcases Nat.lt_trichotomy j zs.length with h1 | h1 | h1
  ·rw [List.getElem?_append_left h1] at hj
   exact st _ _ _ _ (hts j z hj) s2
  ·have hb:y=z:=by subst h1;simpa using hj
   subst hb
   rw [h1,hi']
   exact hy
  ·rw [List.getElem?_eq_none (by rw [List.length_append,List.length_singleton];omega)] at hj;cases hj
 ·rintro zs σ' H' ⟨hn,_,sm,hd,hts⟩
  exact fin zs H' sm hd hn hts
theorem Yac {K:PySem.W.Frag} {tl:TE} {xs:List V} {b:Addr} (Rl:Addr→Nat→V→Hp→Prop) (st:∀ D i y H H',Rl D i y H→Same H H'→Rl D i y H') (su:∀ D i y H zs zs',Rl D i y H→H D=some (.lst zs)→Rl D i y (upd H D (.lst zs')))
  (ha:∀ R:V→Hp→Prop,R (.ref b) H→tl σ H R) (hS:SqT K H b xs) (hlen:xs.length≤100000)
  (step:∀ D (i:Nat) x H' zs,xs[i]?=some x→Same H H'→H' D=some (.lst zs)→∀ R:VK,(∀ y H'',Same H' H''→Rl D i y H''→R y H'')→te (some x::YC src σ) H' R)
  (fin:∀ D (ys:List V) H',H D=none→Same H H'→H' D=some (.lst ys)→ys.length=xs.length→(∀ (j:Nat) y,ys[j]?=some y→Rl D j y H')→Q (.ref D) H'):tLC (none::src) (iTup K tl) (Y4 0) Wp te σ H Q :=
 ha _ ⟨b,rfl,⟨xs,hS⟩,fun D hD=>YbR (Q0.imp fun H' (e:Same H H')=>e.tup hS) (Rl D) (st D) (su D) (fun _ e=>e) hD hlen (fun i x H' zs hx sm hd R r=>step D i x H' zs hx sm hd R r) fun ys H' sm=>fin D ys H' hD sm⟩
end
end L2
namespace L2
open PySem
mutual
inductive VL (H:Hp):V→PyData→List Addr→Prop
 | int (i:Int):VL H (.int i) (.int i) []
 | str (x:Str) (h:PyData.strOk x=true):VL H (.str x) (.str x) []
 | lst {a:Addr} {vs:List V} {ds:List PyData} {L:List Addr}:H a=some (.lst vs)→vs.length≤10000→VLs H vs ds L→VL H (.ref a) (.list ds) (a::L)
 | tup {a:Addr} {vs:List V} {ds:List PyData} {L:List Addr}:H a=some (.tup vs)→vs.length≤10000→VLs H vs ds L→VL H (.ref a) (.tuple ds) L
inductive VLs (H:Hp):List V→List PyData→List Addr→Prop
 | nil:VLs H [] [] []
 | cons {v:V} {d:PyData} {L:List Addr} {vs:List V} {ds:List PyData} {L':List Addr}:VL H v d L→VLs H vs ds L'→VLs H (v::vs) (d::ds) (L++L')
end
def Tps (H H':Hp):Prop:=∀ a vs,H a=some (.tup vs)→H' a=some (.tup vs)
theorem Same.tps {H H':Hp} (s:Same H H'):Tps H H':=fun a vs h=>s a _ h
theorem Tps.trans {H H' H'':Hp} (s:Tps H H') (t:Tps H' H''):Tps H H'':=fun a vs h=>t a vs (s a vs h)
theorem Tps.upd_lst {H:Hp} {p:Addr} {xs ys:List V} (h:H p=some (.lst xs)):Tps H (upd H p (.lst ys)):=fun a vs ha=>by
 rw [Yl (WA ha h (by intro z;cases z))];exact ha
mutual
theorem VL.keepL {H H':Hp} (t:Tps H H'):∀ {v:V} {d:PyData} {L:List Addr},VL H v d L→(∀ a∈L,∀ vs,H a=some (.lst vs)→H' a=some (.lst vs))→VL H' v d L
 | _,_,_,.int i,_ => .int i
 | _,_,_,.str x h,_ => .str x h
 | _,_,_,.lst h hn hs,e => .lst (e _ (.head _) _ h) hn (hs.keepL t fun a ha=>e a (.tail _ ha))
 | _,_,_,.tup h hn hs,e => .tup (t _ _ h) hn (hs.keepL t e)
theorem VLs.keepL {H H':Hp} (t:Tps H H'):∀ {vs:List V} {ds:List PyData} {L:List Addr},VLs H vs ds L→(∀ a∈L,∀ vs,H a=some (.lst vs)→H' a=some (.lst vs))→VLs H' vs ds L
 | _,_,_,.nil,_ => .nil
 | _,_,_,.cons h hs,e => .cons (h.keepL t fun a ha=>e a (List.mem_append_left _ ha)) (hs.keepL t fun a ha=>e a (List.mem_append_right _ ha))
end
theorem VL.keep {H H':Hp} {v:V} {d:PyData} {L:List Addr} (h:VL H v d L) (s:Same H H'):VL H' v d L:=h.keepL s.tps fun a _ vs e=>s _ _ e
theorem VLs.keep {H H':Hp} {vs:List V} {ds:List PyData} {L:List Addr} (h:VLs H vs ds L) (s:Same H H'):VLs H' vs ds L:=h.keepL s.tps fun a _ vs e=>s _ _ e
mutual
theorem VL.mem {H:Hp}:∀ {v:V} {d:PyData} {L:List Addr},VL H v d L→∀ a∈L,∃ vs,H a=some (.lst vs)∧vs.length≤10000
 | _,_,_,.lst (a:=b) h hn hs,a,ha=>by
  rcases List.mem_cons.mp ha with e | ha
  ·subst e;exact ⟨_,h,hn⟩
  ·exact hs.mem a ha
 | _,_,_,.tup h hn hs,a,ha=>hs.mem a ha
theorem VLs.mem {H:Hp}:∀ {vs:List V} {ds:List PyData} {L:List Addr},VLs H vs ds L→∀ a∈L,∃ vs,H a=some (.lst vs)∧vs.length≤10000
 | _,_,_,.cons h hs,a,ha=>by
  rcases List.mem_append.mp ha with ha | ha
  ·exact h.mem a ha
  ·exact hs.mem a ha
end
mutual
theorem VL.den {K:PySem.W.Frag} {H:Hp}:∀ {v:V} {d:PyData} {L:List Addr},VL H v d L→Den K H v d
 | _,_,_,.int i => .int i
 | _,_,_,.str x h => .str x h
 | _,_,_,.lst h _ hs => .lst (SqL.of h) hs.den
 | _,_,_,.tup h _ hs => .tup (SqT.of h) hs.den
theorem VLs.den {K:PySem.W.Frag} {H:Hp}:∀ {vs:List V} {ds:List PyData} {L:List Addr},VLs H vs ds L→Dens K H vs ds
 | _,_,_,.nil => .nil
 | _,_,_,.cons h hs => .cons h.den hs.den
end
theorem VLs.length {H:Hp}:∀ {vs:List V} {ds:List PyData} {L:List Addr},VLs H vs ds L→vs.length=ds.length
 | _,_,_,.nil=>rfl
 | _,_,_,.cons _ hs=>congrArg (·+1) hs.length
theorem VLs.append {H:Hp} {vs':List V} {ds':List PyData} {L':List Addr}:∀ {vs:List V} {ds:List PyData} {L:List Addr},VLs H vs ds L→VLs H vs' ds' L'→VLs H (vs++vs') (ds++ds') (L++L')
 | _,_,_,.nil,h=>h
 | _,_,_,.cons a b,h=>by rw [List.append_assoc];exact .cons a (b.append h)
theorem VL.one {H:Hp} {v:V} {d:PyData} {L:List Addr} (h:VL H v d L):VLs H [v] [d] L:=by
 have:=VLs.cons h .nil
 rwa [List.append_nil] at this
theorem VLs.take {H:Hp}:∀ {vs:List V} {ds:List PyData} {L:List Addr} (n:Nat),VLs H vs ds L→∃ L',VLs H (vs.take n) (ds.take n) L'∧∀ a∈L',a∈L
 | _,_,_,0,_=>by simp;exact ⟨[],.nil,fun a h=>by cases h⟩
 | _,_,_,n+1,.nil=>by simp;exact ⟨[],.nil,fun a h=>by cases h⟩
 | _,_,_,n+1,.cons a b=>by
  obtain ⟨L',h1,h2⟩:=b.take n
  exact ⟨_,.cons a h1,fun x hx=>by
   rcases List.mem_append.mp hx with h | h
   ·exact List.mem_append_left _ h
   ·exact List.mem_append_right _ (h2 x h)⟩
theorem VLs.drop {H:Hp}:∀ {vs:List V} {ds:List PyData} {L:List Addr} (n:Nat),VLs H vs ds L→∃ L',VLs H (vs.drop n) (ds.drop n) L'∧∀ a∈L',a∈L
 | _,_,_,0,h=>⟨_,h,fun a h=>h⟩
 | _,_,_,n+1,.nil=>⟨[],by simp;exact .nil,fun a h=>by cases h⟩
 | _,_,_,n+1,.cons a b=>by
  obtain ⟨L',h1,h2⟩:=b.drop n
  exact ⟨L',h1,fun x hx=>List.mem_append_right _ (h2 x hx)⟩
structure Owns (H0 H:Hp) (vs:List V) (ds:List PyData) (L:List Addr):Prop where
 vl:VLs H vs ds L
 nd:L.Nodup
 new:∀ a∈L,H0 a=none
theorem Owns.ext {H0 H1 H2:Hp} {vs:List V} {ds:List PyData} {L L':List Addr} {ys:List V} {es:List PyData} {D:Addr} {zs zs':List V} (h:Owns H0 H1 vs ds L) (hD:∀ a∈L,a≠D) (s0:Same H0 H1) (s:Same H1 H2) (o:Owns H1 H2 ys es L') (h1:H1 D=some (.lst zs)):Owns H0 (upd H2 D (.lst zs')) (vs++ys) (ds++es) (L++L')∧∀ a∈L++L',a≠D:=by
 have hD':∀ a∈L',a≠D:=fun a ha e=>by have:=o.new a ha;rw [e,h1] at this;cases this
 have t:Tps H2 (upd H2 D (.lst zs')) := .upd_lst (s _ _ h1)
 refine ⟨⟨((h.vl.keep s).keepL t fun a ha vs e=>by rw [Yl (hD a ha)];exact e).append (o.vl.keepL t fun a ha vs e=>by rw [Yl (hD' a ha)];exact e),?_,fun a ha=>?_⟩,fun a ha=>?_⟩
 ·refine List.nodup_append.mpr ⟨h.nd,o.nd,fun a ha b hb e=>?_⟩
  subst e
  obtain ⟨vs,e1,_⟩:=h.vl.mem a ha
  rw [o.new a hb] at e1
  cases e1
 ·rcases List.mem_append.mp ha with ha | ha
  ·exact h.new a ha
  ·exact s0.free (o.new a ha)
 ·rcases List.mem_append.mp ha with ha | ha
  ·exact hD a ha
  ·exact hD' a ha
section
variable {src:List (Option Nat)} {te:TE} {σ:St} {H:Hp} {Q:VK}
end
end L2
namespace L2
open PySem PySem.Spec PyProof.Rows
section
variable {X:Cx} {pos:Pos}
def YbS:V→List V→Hp→VK→Prop:=fun x vs H Q=>∃ (z y:Str),x = .str z∧vs=[.str y]∧Q (.bl (Txt.startswith z y)) H
theorem Yad:MtR X "str.startswith" YbS:=by
 intro pins s σ H x vs v us Q I rx r h
 obtain ⟨z,y,rfl,rfl,q⟩:=h
 obtain ⟨t,rfl⟩:=rx
 obtain ⟨u,rfl,ru⟩:=XW r
 obtain ⟨t',rfl⟩:=ru
 exact call_gives F.slot_str_startswith (typeIs_str s z t) F.entry_str_startswith (F.args_str_startswith_2 _ _) (gives_str_startswith z y t t') ⟨.bl _,H,I,rfl,q⟩
theorem Wk:YX X (.type "int") (fun xs H Q=>∃ x n,xs=[.str x]∧PySem.intText? x=some n∧x.length≤640∧Q (.int n) H):=by
 intro pins s σ H xs us Q I r h
 obtain ⟨x,n,rfl,hn,hl,q⟩:=h
 obtain ⟨u,rfl,t,rfl⟩:=XW r
 exact PySem.W.KIN.call_text hn hl ⟨.int n,H,I.tok _,⟨_,rfl⟩,q⟩
end
def dg (i:Int):List Nat:=(Str.ofString (toString i)).cps.toList
theorem W6 (i:Int):Str.ofString (toString i)=S (dg i):=by unfold dg S;simp
theorem Xr (n:Nat):dg (n:Int)=(Nat.toDigits 10 n).map Char.toNat:=PySem.W.KIN.signs_num n
theorem XB (n:Nat):∀ c∈dg (n:Int),48≤c∧c≤57:=by
 intro c hc
 rw [Xr] at hc
 obtain ⟨ch,hch,e⟩:=List.mem_map.mp hc
 have r:=PyProof.Rows.digit_range (Nat.isDigit_of_mem_toDigits (by decide) (by decide) hch)
 rw [← e]
 exact r
theorem UT {n:Nat} (h:0<n):∃ c r,dg (n:Int)=c::r∧c≠48:=by
 rw [Xr]
 induction n using Nat.strongRecOn with
 | _ m ih =>
  by_cases h1:m<10
  ·rw [Nat.toDigits_of_lt_base h1]
   refine ⟨_,[],rfl,?_⟩
   have:∀ d:Nat,d<10→0<d→(Nat.digitChar d).toNat≠48:=by decide
   exact this m h1 h
  ·have hm:m%10<10:=Nat.mod_lt m (by decide)
   have t:Nat.toDigits 10 (m / 10)++Nat.toDigits 10 (m%10)=Nat.toDigits 10 (10*(m / 10)+m%10):=Nat.toDigits_append_toDigits (by decide) (by omega) hm
   rw [Nat.div_add_mod] at t
   obtain ⟨c,r,e,hc⟩:=ih (m / 10) (by omega) (by omega)
   rw [← t,List.map_append,e]
   exact ⟨c,_,rfl,hc⟩
theorem Qm (n:Nat):dg (n:Int)≠[]:=by
 by_cases h:n=0
 ·subst h;decide +kernel
 ·obtain ⟨c,r,e,_⟩:=UT (n:=n) (by omega)
  rw [e];simp
theorem W7 {n:Nat} (h:0<n):dg (-(n:Int))=45::dg (n:Int):=by
 obtain ⟨m,rfl⟩:∃ m,n=m+1:=⟨n - 1,by omega⟩
 rw [Xr]
 unfold dg
 rw [Str.ofString_eq_byList]
 show ((toString (Int.negSucc m)).toList.map Char.toNat)=_
 have e:toString (Int.negSucc m)="-"++Nat.repr (m+1):=rfl
 rw [e,String.toList_append,List.map_append,Nat.toList_repr]
 rfl
theorem XU {n k:Nat} (hk:0<k) (h:n<10^k):(dg (n:Int)).length≤k:=by
 rw [Xr,List.length_map]
 have:=(Nat.length_repr_le_iff hk).mpr h
 rwa [← String.length_toList,Nat.toList_repr] at this
theorem W8 {i:Int} (h:i.natAbs<10^600):PySem.intText? (S (dg i))=some i:=by
 have hl:=XU (k:=600) (by decide) h
 rcases Int.natAbs_eq i with e | e
 ·rw [e]
  have e1:(S (dg (i.natAbs:Int))).cps.toList=dg (i.natAbs:Int):=YN _
  have:=PySem.intText_digits (x:=S (dg (i.natAbs:Int))) (by rw [e1];exact XB _) (by rw [e1];exact Qm _) (by rw [Yx];omega)
  rw [this,e1,Xr,PySem.W.KIN.val_back]
 ·by_cases h0:i.natAbs=0
  ·have:i=0:=by omega
   subst this
   decide +kernel
  ·rw [e,W7 (by omega)]
   have e1:(S (45::dg (i.natAbs:Int))).cps.toList=45::dg (i.natAbs:Int):=YN _
   have:=PySem.intText_neg (x:=S (45::dg (i.natAbs:Int))) e1 (XB _) (Qm _) (by rw [Yx,List.length_cons];omega)
   rw [this,Xr,PySem.W.KIN.val_back]
end L2
namespace L2
open PySem
section
variable {src:List (Option Nat)} {te:TE} {σ:St} {H:Hp} {Q:VK}
end
end L2
namespace L2
open PySem PySem.Spec PyProof.Rows
def Gx.MeX (g:Gx) (k:Nat) (C:Addr) (m:Str) (ps:List Str) (sp:Sp):Prop:=∃ f fd,FnOk g.P g.w g.K g.mg g.base (CXF g.P g.w) k f fd ps sp∧YY g.K fd ps []∧Meth g.K C m f
section
variable {g:Gx} {k:Nat} {x qual m:Str} {st:Stmt} {N ps:List Str} {sp:Sp} {C:Addr}
theorem Gx.RawM.meX (R:g.RawM C m qual st ps) (S:FnScope N ps (Yg st)) (len:∀ vs H Q E,sp vs H Q E→vs.length=ps.length) (b:Ya9 g k N qual st sp):g.MeX (k+1) C m ps sp:=by
 obtain ⟨f,fd,F,bd,hm⟩:=R
 refine ⟨f,fd,?_,bd,hm⟩
 obtain ⟨oc,od,kV,doc,pm,an,cdv,ct,osl,rfl,lk,hcd⟩:=F.ex
 exact Qg lk hcd S len fun A outer s H vs Q E hr h=>b f cdv A outer s H vs Q E hr h
theorem Gx.MeX.mono {j:Nat} (F:g.MeX j C m ps sp) (h:j≤k):g.MeX k C m ps sp:=by
 obtain ⟨f,fd,F,r⟩:=F
 exact ⟨f,fd,F.mono h,r⟩
theorem Gx.RawM.noneX (R:g.RawM C m qual st ps) (no:∀ vs H Q E,¬ sp vs H Q E):g.MeX k C m ps sp:=by
 obtain ⟨f,fd,F,bd,hm⟩:=R
 exact ⟨f,fd,⟨fun vs H Q E h=>absurd h (no vs H Q E),fun A outer s H args us vs Q E _ _ _ _ h=>absurd h (no vs H Q E)⟩,bd,hm⟩
end
section
variable {g:Gx} {X:Cx} {k j:Nat} {x m:Str} {ps:List Str} {sp:Sp} {E:XK} {C:Addr} {e o:Expr} {es:List Expr} {t:TA} {ta:TE} {p pos apos:Pos}
theorem WG {pl:Sem Bool} (F:g.MeX j C m ps sp) (c:Cls g.K C) (hr:Room k X.A) (hp:Xa (CXF g.P g.w) X E) (ho:PE X o ta) (hj:j≤k) (hX:X.gx=g)
  (ht:eval (.Call (.Attribute o m apos) [] [] pos) X.env=(do
   let ov ← eval o X.env
   standAt apos.atName
   let (f,first) ← holding [ov] (getMethod ov m pl)
   callWith pos f first (backTo pos (starEach [] X.env)) (backToKw pos (keywordEach [] X.env)))):PE X (.Call (.Attribute o m apos) [] [] pos) (WD C m sp [] E ta VY):=by
 subst hX
 obtain ⟨f,fd,F,b,hm⟩:=F
 exact V0 ho c hm F (hr.mono hj) b .nil hp ht
end
theorem WR {X:Cx} {f:Value} {r1 r2:List V→Hp→VK→Prop} (h1:YX X f r1) (h2:YX X f r2):YX X f (fun xs H Q=>r1 xs H Q∨r2 xs H Q):=fun pins s σ H xs us Q I v h =>
 h.elim (h1 pins s σ H xs us Q I v) (h2 pins s σ H xs us Q I v)
section
variable {g:Gx} {X:Cx} {k jj j:Nat} {f c n:Str} {ps:List Str} {sp:Sp} {e:Expr} {es:List Expr} {t:TA} {ts:TS} {b₀:Stmt} {suite:List Stmt} {cv:Value} {fp cp hpos apos cpos pos:Pos}
end
end L2
namespace L2
open PySem PySem.Spec PyProof.Rows
def YbT (l:List Str) (v:Str):List Str:=if l.any (·==v) then l else l++[v]
def met (val:Nat→Str) (i:Nat):List Str:=((List.range i).map val).foldl YbT []
section
variable {prog:Program} {w:World} {A:Around} {R:Result→Shared→Prop} {I:Addr} {fp wr:List Addr} {G:Array GenState→Array GenState→Prop} {n:Nat} {P:Nat→Value→Prop} {St:Nat→Shared→Prop}
end
end L2
namespace L2
open PySem PySem.Spec PyProof.Rows
section
variable {prog:Program} {w:World} {A:Around} {E:Value→Shared→Prop} {s:Shared}
end
def SetO (a:Addr) (n:Nat):HO := .ext fun h=>∃ (o:Obj) (es:Array (Int×Value)) (ep:Nat) (t:SetTable),h.get? a=some o∧o.ExactSet∧o.data = .set es ep t∧t.fits es.size=true∧es.size=n∧n<scanBound
section
variable {X:Cx}
end
end L2
namespace L2
open PySem PySem.Spec PyProof.Rows
section
variable {X:Cx}
end
end L2
namespace L2
open PySem PySem.Spec PyProof.Rows
section
variable {X:Cx}
end
end L2
namespace L2
open PySem PySem.Spec PyProof.Rows
theorem Ua (a:Array Nat):∀ (n:Nat) (b:Array Nat),((List.replicate n a).foldl (·++·) b).size=b.size+n*a.size
 | 0,b=>by simp
 | n+1,b=>by
  rw [List.replicate_succ,List.foldl_cons,Ua a n,Array.size_append,Nat.succ_mul]
  omega
section
variable {X:Cx}
end
end L2
namespace L2
open PySem PySem.Spec PyProof.Rows
section
variable {X:Cx} {e lo st:Expr} {te tl ts:TE} {pos p2:Pos}
end
section
variable {g:Gx} {X:Cx} {k j:Nat} {x m:Str} {ps:List Str} {sp:Sp} {e:Expr} {es:List Expr} {t:TA} {p pos apos:Pos}
end
end L2
namespace L2
open PySem PySem.Spec PyProof.Rows
section
variable {X:Cx}
end
section
variable {K:PySem.W.Frag} {h:Heap} {mg:Str→Option Value} {P:Program} {w:World} {base:Heap} {f B:Addr} {x qual m:Str} {st:Stmt} {ps N:List Str} {oc kV dc pm cd ct:Value} {od an:Option Addr} {sl:Array (Option Value)} {g:Gx} {k:Nat} {sp:Sp}
end
end L2
namespace L2
end L2
namespace L2
open PySem PySem.Spec PyProof.Rows
section
variable {g:TG} {tb:TS} {D:Ends} {σ:St} {H:Hp}
end
def V0s (H:Hp) (us:List V) (ds:List PyData):Prop:=us.length=ds.length∧∀ (i:Nat) u d,us[i]?=some u→ds[i]?=some d→VL H u d []
theorem V0s.keep {H H':Hp} {us:List V} {ds:List PyData} (h:V0s H us ds) (t:Tps H H'):V0s H' us ds:=⟨h.1,fun i u d h1 h2=>(h.2 i u d h1 h2).keepL t fun a ha=>absurd ha (by simp)⟩
theorem V0s.nil {H:Hp}:V0s H [] []:=⟨rfl,fun i u d h=>by simp at h⟩
theorem V0s.one {H:Hp} {u:V} {d:PyData} (h:VL H u d []):V0s H [u] [d]:=⟨rfl,fun i x y h1 h2=>by
 cases i with
 | zero =>
  have e1:u=x:=by simpa using h1
  have e2:d=y:=by simpa using h2
  subst e1 e2
  exact h
 | succ i=>simp at h1⟩
theorem V0s.append {H:Hp} {us us':List V} {ds ds':List PyData} (h:V0s H us ds) (h':V0s H us' ds'):V0s H (us++us') (ds++ds'):=by
 refine ⟨by rw [List.length_append,List.length_append,h.1,h'.1],fun i u d h1 h2=>?_⟩
 by_cases hi:i<us.length
 ·rw [List.getElem?_append_left hi] at h1
  rw [List.getElem?_append_left (by rw [← h.1];exact hi)] at h2
  exact h.2 i u d h1 h2
 ·rw [List.getElem?_append_right (by omega)] at h1
  rw [List.getElem?_append_right (by rw [← h.1];omega),← h.1] at h2
  exact h'.2 _ u d h1 h2
theorem V0s.take {H:Hp} {us:List V} {ds:List PyData} (h:V0s H us ds) (n:Nat):V0s H (us.take n) (ds.take n):=by
 refine ⟨by rw [List.length_take,List.length_take,h.1],fun i u d h1 h2=>?_⟩
 rw [List.getElem?_take] at h1 h2
 split at h1
 ·rw [if_pos (by assumption)] at h2;exact h.2 i u d h1 h2
 ·cases h1
theorem V0s.drop {H:Hp} {us:List V} {ds:List PyData} (h:V0s H us ds) (n:Nat):V0s H (us.drop n) (ds.drop n):=by
 refine ⟨by rw [List.length_drop,List.length_drop,h.1],fun i u d h1 h2=>?_⟩
 rw [List.getElem?_drop] at h1 h2
 exact h.2 _ u d h1 h2
theorem V0s.of {H:Hp}:∀ {us:List V} {ds:List PyData} {L:List Addr},VLs H us ds L→L=[]→V0s H us ds
 | _,_,_,.nil,_ => .nil
 | _,_,_,.cons h hs,e=>by
  obtain ⟨e1,e2⟩:=List.append_eq_nil_iff.mp e
  subst e1
  have:=(V0s.of hs e2)
  exact V0s.append (.one h) this
end L2
namespace L2
open PySem
end L2
namespace L2
open PySem
end L2
namespace L2
open PySem PySem.Spec PyProof.Rows
section
variable {X:Cx} {elts:List Expr} {kk:Nat} {tpos:Pos}
end
section
variable {tb:TS} {D:Ends} {σ:St} {H:Hp}
end
end L2
namespace L2
open PySem
end L2
namespace L2
open PySem PySem.Spec PyProof.Rows
abbrev FnO (f:Addr) (fd:FuncData):HO := .ext fun h=>h.get? f=some { cls := .type "function",data := .func fd }
abbrev CdO (c:Addr) (q:Str):HO := .ext fun h=>h.CodeRec (.ref c) q
abbrev CellO (c:Addr) (v:V):HO := .ext fun h=>∃ u,Yo v u∧h.IsCell c (some u)
section
variable {P:Program} {w:World} {H H':Hp} {h h':Heap}
end
def off (H:Hp) (cs:List Addr):Hp:=fun b=>if b∈cs then none else H b
def on (H' H:Hp) (cs:List Addr):Hp:=fun b=>if b∈cs then H b else H' b
section
variable {H H':Hp} {cs:List Addr} {b:Addr} {o:HO}
end
abbrev Wt:=List (Str×Addr×V)
def Wt.In (l:Wt) (H:Hp):Prop:=∀ p∈l,H p.2.1=some (CellO p.2.1 p.2.2)
theorem Wt.In.keep {l:Wt} {H H':Hp} (h:l.In H) (s:Same H H'):l.In H':=fun p hp=>s _ _ (h p hp)
section
variable {l:Wt} {H:Hp}
end
section
variable {P:Program} {w:World} {K:PySem.W.Frag} {mg:Str→Option Value} {base:Heap} {N ps:List Str} {qual name:Str} {scope:Scope} {f c:Addr} {A:Around} {outer:List Env} {s:Shared} {H:Hp} {us:List Value} {vs:List V} {l:Wt} {cd:Value}
end
def ClIn (H:Hp) (f c:Addr) (fd:FuncData) (qual:Str) (l:Wt):Prop:=H f=some (FnO f fd)∧H c=some (CdO c qual)∧l.In H
theorem ClIn.keep {H H':Hp} {f c:Addr} {fd:FuncData} {qual:Str} {l:Wt} (h:ClIn H f c fd qual l) (s:Same H H'):ClIn H' f c fd qual l:=⟨s _ _ h.1,s _ _ h.2.1,h.2.2.keep s⟩
end L2
namespace L2
open PySem PySem.Spec PyProof.Rows
section
variable {X:Cx} {pins:List (Addr×Obj)} {σ:St} {H:Hp} {s:Shared}
end
section
variable {X:Cx} {c P:Addr} {name qual:Str} {params:Arguments} {body:List Stmt} {eb:Expr} {scope:Scope} {clos:List (Str×Addr)} {pos:Pos} {ln:Nat}
end
section
variable {X:Cx} {st:Stmt} {YU:List Stmt} {t:TS} {u:(St→V→Hp→Prop)→St→Hp→Prop} {e:Expr} {te:TE} {pos:Pos}
end
end L2
namespace L2
open PySem PySem.Spec PyProof.Rows
section
variable {X:Cx} {g:Gx} {k j i:Nat} {x:Str} {p pos:Pos} {e:Expr} {es:List Expr} {t:TA}
end
end L2
namespace HT
open PySem PySem.Spec PyProof.Rows
variable {prog:Program} {w:World} {A:Around} {E:Value→Shared→Prop} {s:Shared}
end HT
namespace L2
open PySem PySem.Spec PyProof.Rows
end L2
namespace L2
open PySem PySem.Spec PyProof.Rows
section
variable {tb:TS} {D:Ends} {σ:St} {H:Hp}
end
section
variable {src:List (Option Nat)} {te:TE} {tt:TT} {σ:St} {H:Hp} {Q:VK}
end
end L2
namespace L2
open PySem PySem.Spec PyProof.Rows
end L2
namespace L2
open PySem PySem.Spec PyProof.Rows
section
variable {g:Gx} {x qual:Str} {st:Stmt} {N ps:List Str} {dvs:List V} {sp:Sp} {j k:Nat}
variable {X:Cx} {p pos:Pos} {e:Expr} {es:List Expr} {t:TA}
end
section
variable {X:Cx}
end
section
variable {src:List (Option Nat)} {te:TE} {σ:St} {H:Hp} {Q:VK}
end
end L2
namespace L2
open PySem PySem.Spec PyProof.Rows
mutual
inductive RK (h:Heap):Value→PyData→Prop
 | int (i:Int) (t:Tok):RK h (.int i t) (.int i)
 | str (x:Str) (t:Tok) (hx:PyData.strOk x=true):RK h (.str x t) (.str x)
 | tup {a:Addr} {o:Obj} {vs:Array Value} {n:Nat} {ds:List PyData}:h.get? a=some o→o.cls = .type "tuple"→o.data = .seq vs n→RKs h vs.toList ds→RK h (.ref a) (.tuple ds)
inductive RKs (h:Heap):List Value→List PyData→Prop
 | nil:RKs h [] []
 | cons {v:Value} {d:PyData} {vs:List Value} {ds:List PyData}:RK h v d→RKs h vs ds→RKs h (v::vs) (d::ds)
end
mutual
inductive KO:PyData→Prop
 | int (i:Int):KO (.int i)
 | str (x:Str):KO (.str x)
 | tup {ds:List PyData}:KOs ds→KO (.tuple ds)
inductive KOs:List PyData→Prop
 | nil:KOs []
 | cons {d:PyData} {ds:List PyData}:KO d→KOs ds→KOs (d::ds)
end
mutual
theorem RK.ko {h:Heap}:∀ {v:Value} {d:PyData},RK h v d→KO d
 | _,_,.int i t => .int i
 | _,_,.str x t _ => .str x
 | _,_,.tup _ _ _ hs => .tup hs.ko
theorem RKs.ko {h:Heap}:∀ {vs:List Value} {ds:List PyData},RKs h vs ds→KOs ds
 | _,_,.nil => .nil
 | _,_,.cons a b => .cons a.ko b.ko
end
mutual
theorem RK.reads {h:Heap}:∀ {v:Value} {d:PyData},RK h v d→(∃ as,Reads h v d as)∧d.canLay0=true
 | _,_,.int i t=>⟨⟨_,.int i t⟩,rfl⟩
 | _,_,.str x t hx=>⟨⟨_,.str x t⟩,by simpa [PyData.canLay0] using hx⟩
 | _,_,.tup h1 h2 h3 hs=>by
  obtain ⟨⟨as,r⟩,l⟩:=hs.reads
  exact ⟨⟨_,.tuple h1 h2 h3 r⟩,by rw [PyData.canLay0];exact l⟩
theorem RKs.reads {h:Heap}:∀ {vs:List Value} {ds:List PyData},RKs h vs ds→(∃ as,ReadsAll h vs ds as)∧PyData.canLayAll0 ds=true
 | _,_,.nil=>⟨⟨_,.nil⟩,rfl⟩
 | _,_,.cons a b=>by
  obtain ⟨⟨as,r⟩,l⟩:=a.reads
  obtain ⟨⟨bs,r'⟩,l'⟩:=b.reads
  exact ⟨⟨_,.cons r r'⟩,by rw [PyData.canLayAll0,l,l'];rfl⟩
end
theorem RK.of {h:Heap} {d:PyData} {v:Value} {as:List Addr} (k:KO d) (r:Reads h v d as) (l:d.canLay0=true):RK h v d:=by
 induction k using KO.rec (motive_2:=fun ds _=>∀ {vs:List Value} {as:List Addr},ReadsAll h vs ds as→PyData.canLayAll0 ds=true→RKs h vs ds) generalizing v as with
 | int i=>cases r with | int _ t=>exact .int i t
 | str x=>cases r with | str _ t=>exact .str x t (by simpa [PyData.canLay0] using l)
 | tup _ ih=>cases r with | tuple h1 h2 h3 hs=>exact .tup h1 h2 h3 (ih hs (by rw [PyData.canLay0] at l;exact l))
 | nil=>rename_i r l;cases r;exact .nil
 | cons _ _ ih ihs =>
  rename_i r l
  rw [PyData.canLayAll0,Bool.and_eq_true] at l
  cases r with | cons r rs=>exact .cons (ih r l.1) (ihs rs l.2)
theorem RK.inj {h:Heap} {d:PyData} {v:Value} {e:PyData} (a:RK h v d) (b:RK h v e):d=e:=by
 obtain ⟨⟨_,r⟩,l⟩:=a.reads
 obtain ⟨⟨_,r'⟩,_⟩:=b.reads
 exact (r.unique _ _ r').1
mutual
theorem RK.keeps {h h':Heap} {x:Addr} {o:Obj} {es:Array DictEntry} {ep:Nat} (ho:h.get? x=some o) (hd:o.data = .dict es ep) (hs:Heap.SameBut x h h'):∀ {v:Value} {d:PyData},RK h v d→RK h' v d
 | _,_,.int i t => .int i t
 | _,_,.str y t hy => .str y t hy
 | _,_,.tup (a:=a) h1 h2 h3 ks=>by
  have hne:a≠x:=by
   rintro rfl
   rw [ho] at h1
   cases h1
   rw [hd] at h3
   exact nomatch h3
  exact .tup ((hs.2 a hne).trans h1) h2 h3 (RKs.keeps ho hd hs ks)
theorem RKs.keeps {h h':Heap} {x:Addr} {o:Obj} {es:Array DictEntry} {ep:Nat} (ho:h.get? x=some o) (hd:o.data = .dict es ep) (hs:Heap.SameBut x h h'):∀ {vs:List Value} {ds:List PyData},RKs h vs ds→RKs h' vs ds
 | _,_,.nil => .nil
 | _,_,.cons a b => .cons (RK.keeps ho hd hs a) (RKs.keeps ho hd hs b)
end
noncomputable instance decPy:DecidableEq PyData:=fun a b=>Classical.propDecidable (a=b)
mutual
theorem KO.eqv:∀ {d e:PyData},KO d→KO e→d.eqv e=decide (d=e)
 | .int a,.int b,_,_=>by
  by_cases h:a=b
  ·subst h;simp [PyData.eqv]
  ·simp [PyData.eqv,h]
 | .str a,.str b,_,_=>by
  by_cases h:a=b
  ·subst h;simp [PyData.eqv]
  ·simp [PyData.eqv,h]
 | .int a,.str b,_,_=>by simp [PyData.eqv]
 | .str a,.int b,_,_=>by simp [PyData.eqv]
 | .int a,.tuple b,_,_=>by simp [PyData.eqv]
 | .str a,.tuple b,_,_=>by simp [PyData.eqv]
 | .tuple a,.int b,_,_=>by simp [PyData.eqv]
 | .tuple a,.str b,_,_=>by simp [PyData.eqv]
 | .tuple a,.tuple b,.tup x,.tup y=>by
  rw [PyData.eqv,KOs.eqv x y]
  by_cases h:a=b
  ·subst h;simp
  ·simp [h]
theorem KOs.eqv:∀ {ds es:List PyData},KOs ds→KOs es→PyData.eqvAll ds es=decide (ds=es)
 | [],[],_,_=>by simp [PyData.eqvAll]
 | [],_::_,_,_=>by simp [PyData.eqvAll]
 | _::_,[],_,_=>by simp [PyData.eqvAll]
 | d::ds,e::es,.cons x xs,.cons y ys=>by
  rw [PyData.eqvAll,KO.eqv x y,KOs.eqv xs ys]
  by_cases h:d=e
  ·subst h
   by_cases h2:ds=es
   ·subst h2;simp
   ·simp [h2]
  ·simp [h]
end
section
variable {P:Program} {w:World}
mutual
def kh (P:Program) (w:World):PyData→Int
 | .int i=>(Xd P w).hash (.inl i)
 | .str x=>(Xd P w).hash (.inr x)
 | .tuple ds=>reduceHash (Builtin.Tuple.tupleHashOf (khs P w ds))
 | _=>0
def khs (P:Program) (w:World):List PyData→List Int
 | []=>[]
 | d::ds=>kh P w d::khs P w ds
end
mutual
def kdr:PyData→Nat
 | .int _=>1
 | .str _=>1
 | .tuple ds=>Xw ds+1
 | _=>0
def Xw:List PyData→Nat
 | []=>0
 | d::ds=>kdr d+Xw ds
end
theorem YbU (a b:List PyData):khs P w (a++b)=khs P w a++khs P w b:=by
 induction a with
 | nil=>simp [khs]
 | cons x a ih=>simp [khs,ih]
theorem YaL (a b:List PyData):Xw (a++b)=Xw a+Xw b:=by
 induction a with
 | nil=>simp [Xw]
 | cons x a ih=>simp [Xw,ih,Nat.add_assoc]
theorem YaM (a b:List PyData):PyData.depthAll (a++b)=max (PyData.depthAll a) (PyData.depthAll b):=by
 induction a with
 | nil=>simp [PyData.depthAll]
 | cons x a ih=>simp [PyData.depthAll,ih,Nat.max_assoc]
theorem W9 {s:Shared} {a:Addr} {o:Obj} (h1:s.heap.get? a=some o) (h2:o.cls = .type "tuple"):s.TypeIs (.ref a) "tuple":=⟨o,h1,h2⟩
theorem UU:∀ (n:Nat) {A:Around} {E:Value→Shared→Prop} {s:Shared} {v:Value} {d:PyData} {Q:Int→Shared→Prop},RK s.heap v d→d.depth≤n→A.units+n<cLine→Q (kh P w d) { s with toks:=s.toks+kdr d }→wpAny (model P w) A (pyHash v) Q E s
 | n,A,E,s,_,_,Q,.int i t,_,_,h=>(Xd P w).pyHash (Ya3 (k := .inl i) (show Yo (.int i) (.int i t) from ⟨t,rfl⟩)) (by simpa [kh,kdr] using h)
 | n,A,E,s,_,_,Q,.str x t _,_,_,h=>(Xd P w).pyHash (Ya3 (k := .inr x) (show Yo (.str x) (.str x t) from ⟨t,rfl⟩)) (by simpa [kh,kdr] using h)
 | 0,A,E,s,_,_,Q,.tup _ _ _ _,hd,_,h=>by simp [PyData.depth] at hd
 | n+1,A,E,s,_,_,Q,.tup (a:=a) (ds:=ds) h1 h2 h3 ks,hd,hu,h=>by
  have hT:=W9 h1 h2
  unfold pyHash
  first | unfold pyHashByItsType | skip
  first | refine wpAny_bind (wpAny_cRoomFor_or (.inr (by omega)) ?_) | skip
  refine wpAny_bind (wpAny_specialOf hT F.slot_tuple_hash.lookup ?_)
  show wpAny _ _ (if (some (Value.builtin "tuple.__hash__")==some Value.none)=true then _ else _) Q E s
  rw [if_neg (by rw [beq_builtin_none];exact Bool.false_ne_true)]
  refine wpAny_bind (wpAny_specialOf hT F.slot_tuple_hash.lookup ?_)
  refine wpAny_bind (wpAny_callSpecialIfBoundUnlessNone?_slot hT F.slot_tuple_hash (wpAny_call_entry F.slot_tuple_hash hT F.entry_tuple_hash ?_ (F.args_tuple_hash_1 _)))
  show wpAny _ _ (Builtin.Tuple.tupleItemsOf (.ref a) >>= _) _ _ s
  refine wpAny_bind (wpAny_tupleItemsOf h1 h3 ?_)
  refine wpAny_bind ?_
  rw [← Array.forIn_toList]
  have hdd:PyData.depthAll ds≤n:=by simp only [PyData.depth] at hd;omega
  refine wpAny_forIn_list _ (fun YU (b:Array Int) s'=>∃ done left,ds=done++left∧RKs s.heap YU left∧b.toList=khs P w done∧s'={ s with toks:=s.toks+Xw done }) _ ?_ ?_ _ _ ⟨[],ds,rfl,ks,by simp [khs],by simp [Xw]⟩
  ·rintro x YU b s' ⟨done,left,e,hl,hb,rfl⟩
   cases hl with
   | @cons _ d _ ds' hk hl' =>
    have hdk:d.depth≤n:=by
     rw [e,YaM] at hdd
     simp only [PyData.depthAll] at hdd
     omega
    have hin:A.in1.units+n<cLine:=by
     have:A.in1.units=A.units+1:=rfl
     omega
    refine wpAny_bind (UU n (s:={ s with toks:=s.toks+Xw done }) hk hdk hin ?_)
    have fin:∃ done' left',ds=done'++left'∧RKs s.heap YU left'∧(b.push (kh P w d)).toList=khs P w done'∧({ s with toks:=s.toks+Xw done+kdr d }:Shared)={ s with toks:=s.toks+Xw done' } :=
     ⟨done++[d],ds',by rw [e];simp,hl',by rw [YbU,Array.toList_push,hb];simp [khs],by rw [YaL];simp [Xw,Nat.add_assoc]⟩
    first
     | exact wpAny_pure fin
     | exact wpAny_bind (wpAny_pure (wpAny_pure fin))
  ·rintro b s' ⟨done,left,e,hl,hb,rfl⟩
   cases hl
   rw [List.append_nil] at e
   subst e
   show wpAny _ _ (retInt (Builtin.Tuple.tupleHashOf b.toList)) _ _ _
   rw [hb]
   refine wpAny_ret_mkInt ?_
   simp only [kh,kdr] at h
   unfold reduceHash at h
   show wpAny _ _ (if (decide (-(2:Int)^63≤Builtin.Tuple.tupleHashOf (khs P w ds))&&decide (Builtin.Tuple.tupleHashOf (khs P w ds)<2^63))=true then _ else _) Q E _
   by_cases hr:(decide (-(2:Int)^63≤Builtin.Tuple.tupleHashOf (khs P w ds))&&decide (Builtin.Tuple.tupleHashOf (khs P w ds)<2^63))=true
   ·rw [if_pos hr]
    rw [if_pos hr] at h
    exact wpAny_pure (by simpa [Nat.add_assoc] using h)
   ·rw [if_neg hr]
    rw [if_neg hr] at h
    exact wpAny_bind (wpAny_rule (wpAny_pure (by simpa [Nat.add_assoc] using h)))
theorem Ub:∀ (n:Nat) {A:Around} {E:Value→Shared→Prop} {s:Shared} {v:Value} {d:PyData} {Q:Bool→Shared→Prop},RK s.heap v d→d.depth≤n→Q true s→wpAny (model P w) A (eqIsQuiet n v) Q E s
 | n,A,E,s,_,_,Q,.int i t,_,h=>by rw [eqIsQuiet_byValue _ (by rfl)];exact wpAny_pure h
 | n,A,E,s,_,_,Q,.str x t _,_,h=>by rw [eqIsQuiet_byValue _ (by rfl)];exact wpAny_pure h
 | 0,A,E,s,_,_,Q,.tup _ _ _ _,hd,h=>by simp [PyData.depth] at hd
 | n+1,A,E,s,_,_,Q,.tup (a:=a) (ds:=ds) h1 h2 h3 ks,hd,h=>by
  have hT:=W9 h1 h2
  have hdd:PyData.depthAll ds≤n:=by simp only [PyData.depth] at hd;omega
  unfold eqIsQuiet
  refine wpAny_bind (wpAny_specialOf hT F.slot_tuple_eq.lookup ?_)
  refine wpAny_bind (wpAny_isInstance hT isSubtype_tuple_tuple ?_)
  simp only [Bool.not_true,Bool.false_eq_true,if_false]
  refine wpAny_bind (wpAny_seqItems h1 h3 ?_)
  refine wpAny_bind ?_
  rw [Option.getD_some,← Array.forIn_toList]
  refine wpAny_forIn_list _ (fun YU r s'=>r.1=none∧s'=s∧∃ left,RKs s.heap YU left∧PyData.depthAll left≤n) _ ?_ ?_ _ _ ⟨rfl,rfl,ds,ks,hdd⟩
  ·rintro v YU r s' ⟨hr,rfl,left,hl,hdl⟩
   cases hl with
   | @cons _ d _ ds' hk hl' =>
    simp only [PyData.depthAll] at hdl
    refine wpAny_bind (Ub n hk (by omega) ?_)
    simp only [Bool.not_true,Bool.false_eq_true,if_false]
    exact wpAny_pure ⟨rfl,rfl,ds',hl',by omega⟩
  ·rintro ⟨r1,r2⟩ s' ⟨hr,rfl,_⟩
   simp only at hr
   subst hr
   exact wpAny_pure h
noncomputable def deepKind (P:Program) (w:World):HeapKind P w PyData where
 is:=fun h d a=>RK h (.ref a) d∧d.depth≤8
 hash:=kh P w
 draws:=kdr
 room:=fun A=>A.units+8<cLine
 inj:=fun hx hy=>hx.1.inj hy.1
 keeps:=fun x ho hd hs=>⟨x.1.keeps ho hd hs,x.2⟩
 pyHash:=fun hu hk h=>UU 8 hk.1 hk.2 hu h
 eqBool:=fun {A E s x y a b Q} hu hx hy h=>by
  obtain ⟨⟨as,r1⟩,l1⟩:=hx.1.reads
  obtain ⟨⟨bs,r2⟩,l2⟩:=hy.1.reads
  have hm:min x.depth y.depth≤8:=Nat.le_trans (Nat.min_le_left _ _) hx.2
  exact SeqAt.eqAt_reads x y A s _ _ _ _ r1 r2 l1 l2 (by omega) P w E Q (by rw [KO.eqv hx.1.ko hy.1.ko];exact h)
 quiet:=fun hk h=>Ub 8 hk.1 hk.2 h
end
abbrev Dx:=List (PyData×Addr×Addr)
def dconv (x:PyData×Addr×Addr):PyData×Addr×Value:=(x.1,x.2.1,.ref x.2.2)
noncomputable def DDi (P:Program) (w:World) (a:Addr) (xs:Dx):HO := .ext fun h=>(a==sysModules)=false∧∃ o es ep,h.get? a=some o∧o.ExactDict∧o.data = .dict es ep∧es.toList=(xs.map dconv).map (entryOfKey (deepKind P w))
structure DK (K:PySem.W.Frag) (H:Hp) (b:Addr) (d:PyData):Prop where
 den:Den K H (.ref b) d
 ko:KO d
 dp:d.depth≤8
theorem DK.keep {K:PySem.W.Frag} {H H':Hp} {b:Addr} {d:PyData} (h:DK K H b d) (s:Same H H'):DK K H' b d:=⟨h.den.keep s,h.ko,h.dp⟩
noncomputable def lookD (xs:Dx) (d:PyData):Option Addr:=(xs.find? fun x=>decide (x.1=d)).map (·.2.2)
structure DictD (P:Program) (w:World) (K:PySem.W.Frag) (H:Hp) (a:Addr) (xs:Dx):Prop where
 at_:H a=some (DDi P w a xs)
 nd:(xs.map (·.1)).Nodup
 len:xs.length≤1000
 keys:∀ x∈xs,DK K H x.2.1 x.1
section
variable {X:Cx} {pins:List (Addr×Obj)} {σ:St} {H:Hp} {s:Shared} {a b:Addr} {d:PyData} {xs:Dx} {u r:Value} {A:Around} {E:Value→Shared→Prop}
end
section
variable {X:Cx} {o i e value:Expr} {pos pos' tpos:Pos} {td ty tv:TE} {k:Nat}
end
def Wf (H H':Hp):Prop:=∀ b xs,Rd H b (.tup xs)→Rd H' b (.tup xs)
theorem Wf.sq {K:PySem.W.Frag} {H H':Hp} (t:Wf H H') {b:Addr} {xs:List V} (h:SqT K H b xs):SqT K H' b xs:=by
 rcases h with h | h
 ·exact .inl (t _ _ h)
 ·exact .inr h
theorem Wf.trans {H H1 H2:Hp} (a:Wf H H1) (b:Wf H1 H2):Wf H H2:=fun c xs e=>b c xs (a c xs e)
theorem YaN {K:PySem.W.Frag} {H H':Hp} (t:Wf H H') {d:PyData} {v:V} (k:KO d) (r:Den K H v d):Den K H' v d:=by
 induction k using KO.rec (motive_2:=fun ds _=>∀ {vs:List V},Dens K H vs ds→Dens K H' vs ds) generalizing v with
 | int i=>cases r with | int _=>exact .int i
 | str x=>cases r with | str _ h=>exact .str x h
 | tup _ ih=>cases r with | tup h hs=>exact .tup (t.sq h) (ih hs)
 | nil=>rename_i r;cases r;exact .nil
 | cons _ _ ih ihs=>rename_i r;cases r with | cons a b=>exact .cons (ih a) (ihs b)
theorem DK.tupk {K:PySem.W.Frag} {H H':Hp} {b:Addr} {d:PyData} (h:DK K H b d) (t:Wf H H'):DK K H' b d:=⟨YaN t h.ko h.den,h.ko,h.dp⟩
theorem DictD.keep {P:Program} {w:World} {K:PySem.W.Frag} {H H':Hp} {a:Addr} {xs:Dx} (h:DictD P w K H a xs) (t:Wf H H') (e:H' a=some (DDi P w a xs)):DictD P w K H' a xs:=⟨e,h.nd,h.len,fun x hx=>(h.keys x hx).tupk t⟩
section
variable {X:Cx} {k:Nat}
end
section
variable {X:Cx} {e:Expr} {f:Str} {pos:Pos} {ta:TE}
end
end L2
namespace L2
open PySem PySem.Spec PyProof.Rows
end L2
namespace L2
open PySem PySem.Spec PyProof.Rows
end L2
namespace L2
open PySem PySem.Spec PyProof.Rows
section
variable {M:Model} {A:Around} {E:Value→Shared→Prop} {s:Shared}
end
section
variable {X:Cx}
end
section
variable {X:Cx}
end
end L2
namespace L2
open PySem PySem.Spec PyProof.Rows
theorem YbV {e:Value} {env env':Env} (h:env.frame=env'.frame):noteFrame e env=noteFrame e env':=by
 unfold noteFrame PySem.frameOf
 rw [h]
def Xi (B:Heap) (l:List Env) (e:Addr) (cls a0:Value) (h:Heap):Prop:=B.StaysIn h∧B.get? e=none∧h.FunFrames B l∧∃ fl,h.TracedAtW B e cls a0 fl
section
variable {M:Model} {A:Around} {E:Value→Shared→Prop} {s:Shared} {B:Heap} {env:Env} {outer l:List Env} {e L:Addr} {cls a0:Value} {Q:Unit→Shared→Prop}
theorem Qn {fr:Option Addr} (R:Xi B l e cls a0 s.heap) (h:∀ h',Xi B l e cls a0 h'→s.heap.UpToSlots h'→Q () { s with heap:=h' }):wpAny M A (setFlight (.ref e) fr) Q E s:=by
 obtain ⟨kb,en,fl,f,oe,vs,T,oT,ts,he,hc,hd,h1,nT,neT,hT,dT,h3⟩:=R
 have sz:3<ts.size:=(Array.getElem?_eq_some_iff.mp h3).1
 have oth:∀ b,b≠T→(s.heap.update T (Obj.mapFields (·.setIfInBounds 3 (fr.elim Value.none fun f=>rawInt f)))).get? b=s.heap.get? b:=fun b hb=>Heap.get?_update_other _ _ (Ne.symm hb)
 have nr:∀ b o,s.heap.get? b=some o→(∀ vs,o.data ≠ .fields vs)→b≠T:=fun b o hb hn q=>by
  rw [q,hT] at hb
  cases hb
  exact hn ts dT
 unfold setFlight
 refine wpAny_bind (wpAny_field he hd h1 ?_)
 rw [if_pos (show (Value.ref T != Value.none)=true by simp)]
 refine wpAny_setField hT dT sz (h _ ⟨fun b o q=>(oth b fun z=>by rw [z,nT] at q;cases q).trans (kb b o q),en,fl.of_keeps fun b o q n=>⟨o,(oth b (nr b o q n)).trans q,rfl⟩,fr.elim Value.none fun f=>rawInt f,oe,vs,T,_,_,(oth e (Ne.symm neT)).trans he,hc,hd,h1,nT,neT,Heap.get?_update_self _ hT (Obj.isFreed_of_fields (Obj.data_mapFields dT _)),Obj.data_mapFields dT _,?_⟩ fun b o q n=>⟨o.slots,(oth b (nr b o q n)).trans q⟩)
 simp [sz]
theorem Uc (hfr:A.frames=some (env::outer)) (hf:env.frame=some L) (R:Xi B (env::outer) e cls a0 s.heap) (hQ:∀ h',Xi B (env::outer) e cls a0 h'→s.heap.UpToSlots h'→Q () { s with heap:=h' }):wpAny M A (noteFrame (.ref e) env) Q E s:=by
 obtain ⟨kb,en,fl,f,oe,vs,T,oT,ts,he,⟨hc,h0⟩,hd,h1,nT,neT,hT,dT,h3⟩:=R
 subst hc
 unfold noteFrame
 simp only [hf]
 refine wpAny_bind (wpAny_field he hd h1 ?_)
 rw [if_pos (show (Value.ref T != Value.none)=true by simp)]
 refine wpAny_bind (wpAny_field hT dT h3 ?_)
 by_cases c:(f==rawInt L)=true
 ·rw [if_pos c]
  exact wpAny_pure (hQ s.heap ⟨kb,en,fl,f,oe,vs,T,oT,ts,he,⟨rfl,h0⟩,hd,h1,nT,neT,hT,dT,h3⟩ (.refl _))
 ·rw [if_neg c]
  have oth:∀ b,b≠T→(s.heap.update T (Obj.mapFields (·.setIfInBounds 3 Value.none))).get? b=s.heap.get? b:=fun b hb=>Heap.get?_update_other _ _ (Ne.symm hb)
  have nr:∀ b o,s.heap.get? b=some o→(∀ vs,o.data ≠ .fields vs)→b≠T:=fun b o hb hn q=>by
   rw [q,hT] at hb
   cases hb
   exact hn ts dT
  refine wpAny_bind (wpAny_setField hT dT (Array.getElem?_eq_some_iff.mp h3).1 ?_)
  exact wpAny_entryW hfr (fl.of_keeps fun b o q n=>⟨o,(oth b (nr b o q n)).trans q,rfl⟩) hf ((oth e (Ne.symm neT)).trans he) (fun b o q=>(oth b fun z=>by rw [z,nT] at q;cases q).trans (kb b o q)) en hd (Array.getElem?_eq_some_iff.mp h1).1 h0
   fun h' ⟨x1,x2,x3,x4⟩=>hQ h' ⟨x1,en,x2,_,x3⟩ fun b o q n=>x4 b o ((oth b (nr b o q n)).trans q) n
theorem Yae (hfr:A.frames=some (env::outer)) (hf:env.frame=some L) (R:Xi B (env::outer) e cls a0 s.heap) (hQ:∀ h',Heap.FlyingW B outer e cls a0 h'→s.heap.UpToSlots h'→Q () { s with heap:=h' }):wpAny M A (leaving env (.ref e)) Q E s:=by
 unfold leaving
 refine wpAny_bind (Uc hfr hf R fun h1 ⟨k1,k2,k3,fl,k4⟩ u1=>?_)
 refine wpAny_setFlight_noneW k1 k3 k4 fun h2 j1 j2 j3 j4=>hQ h2 ⟨j1,k2,j2.2.2,j3⟩ ?_
 exact u1.trans fun b o q n=>⟨o.slots,j4 b o q n⟩
theorem Xi.hide {h h':Heap} {C:Addr} {oc:Obj} (R:Xi B l e cls a0 h) (hC:B.get? C=some oc) (sb:Heap.SameBut C h h'):Xi (PySem.W.hideAll B [C]) l e cls a0 h':=by
 obtain ⟨kb,en,fl,f,oe,vs,T,oT,ts,he,hc,hd,h1,nT,neT,hT,dT,h3⟩:=R
 have nC:∀ {b:Addr},B.get? b=none→b≠C:=fun {b} q z=>by rw [z,hC] at q;cases q
 have hn:∀ {b:Addr},B.get? b=none→(PySem.W.hideAll B [C]).get? b=none:=fun {b} q=>by
  cases z:(PySem.W.hideAll B [C]).get? b with
  | none=>rfl
  | some o=>rw [PySem.W.of_hideAll _ z] at q;cases q
 have ff:∀ {l:List Env},h.FunFrames B l→h'.FunFrames (PySem.W.hideAll B [C]) l:=fun {l}=>by
  induction l with
  | nil=>exact fun _=>trivial
  | cons x r ih =>
   rintro ⟨z1,⟨L,o,z2,z3,z4,z5⟩,z6⟩
   exact ⟨z1,⟨L,o,z2,hn z3,(sb.2 L (nC z3)).trans z4,z5⟩,ih z6⟩
 refine ⟨fun b o q=>?_,hn en,ff fl,f,oe,vs,T,oT,ts,(sb.2 e (nC en)).trans he,hc,hd,h1,hn nT,neT,(sb.2 T (nC nT)).trans hT,dT,h3⟩
 have:b≠C:=fun z=>by rw [z,PySem.W.hideAll_none _ (by simp)] at q;cases q
 exact (sb.2 b this).trans (kb b o (PySem.W.of_hideAll _ q))
end
section
variable {X:Cx} {pins:List (Addr×Obj)} {σ:St} {H H':Hp} {s s1 s':Shared} {B:Heap} {e C:Addr} {cls a0:Value} {M:Model} {A:Around} {Q:Unit→Shared→Prop} {EE:Value→Shared→Prop}
theorem Inv.leave_comp {oc:Obj} (I:Inv X pins σ H s) (hs:X.stack=X.env::X.outer) (hf:X.env.frame=some X.env.locals) (hex:X.ex=[]) (hA:A.frames=some (X.env::X.outer)) (F:Fly X.prog X.w X.stack H s.heap e cls H' s1.heap B)
  (hC:s.heap.get? C=some oc) (hHC:H C=none) (hCn:X.s₀.heap.objs.size≤C) (R:Xi (PySem.W.hideAll B [C]) (X.env::X.outer) e cls a0 s'.heap) (up:∀ b o,b≠C→s1.heap.get? b=some o→(∀ vs,o.data ≠ .fields vs)→∃ sl,s'.heap.get? b=some { o with slots:=sl })
  (hQ:∀ h'',Fly X.prog X.w X.outer X.H₀ X.s₀.heap e cls H' h'' (PySem.W.hideAll B [C])→Q () { s' with heap:=h'' }):wpAny M A (leaving X.env (.ref e)) Q EE s':=by
 have nx:∀ b:Addr,b∉X.ex:=by
  rw [hex]
  intro b z
  cases z
 have old:∀ {b:Addr} {o:Obj},X.s₀.heap.get? b=some o→b≠C:=fun {b o} q=>Nat.ne_of_lt (Nat.lt_of_lt_of_le (Heap.lt_size q) hCn)
 have nm:∀ {b:Addr},b≠C→b∉[C]:=fun {b} n z=>n (by simpa using z)
 rw [hs] at F
 refine Yae hA hf R fun h'' x1 x2=>hQ h'' ?_
 refine ⟨⟨a0,x1⟩,fun b o q=>?_,fun b o q n nb=>PySem.W.hideAll_get _ (F.keep b o (I.base.keep b o q n nb (nx b)) (I.base.free b o q n (nx b)) (I.notStk hf q nb)) (nm (old q)),fun b o q n hb=>?_,fun b o q nb=>?_,fun b o q n=>?_,fun b xs q=>F.tups b xs (I.base.tups b xs q),fun b o u q=>F.frzs b o u (I.base.frzs b o u q),fun b ps q=>?_⟩
 ·have hn:H' C=none:=F.free C oc hC hHC
  refine (F.hok b o q).stay (fun c v hc r=>PySem.W.hideAll_get _ r (nm fun z=>?_)) (fun _ z=>z) fun _ _ z=>z
  rw [z] at hc
  rcases hc with hc | hc
  ·rw [← hc,hn] at q;cases q
  ·rw [hn] at hc;cases hc
 ·obtain ⟨sl,e1⟩:=I.base.slot b o q n hb (nx b)
  obtain ⟨sl1,e2⟩:=F.slot b _ e1 (I.base.free b o q n (nx b)) (I.inStk hf hb)
  obtain ⟨_,o',e',d⟩:=I.ok.funs.mem hb
  rw [q] at e'
  cases e'
  obtain ⟨sl2,e3⟩:=up b _ (old q) e2 d
  obtain ⟨sl3,e4⟩:=x2 b _ e3 d
  exact ⟨sl3,e4⟩
 ·obtain ⟨o',e1⟩:=I.base.there b o q (nx b)
  obtain ⟨o2,e2⟩:=F.al b o' e1 (I.notStk hf q nb)
  exact ⟨o2,PySem.W.hideAll_get _ e2 (nm (old q))⟩
 ·obtain ⟨o',e1⟩:=I.base.there b o q (nx b)
  exact F.free b o' e1 (I.base.free b o q n (nx b))
 ·obtain ⟨m1,e1⟩:=I.base.tbls b ps q
  obtain ⟨m2,e2⟩:=F.tbls b _ e1
  exact ⟨m1++m2,by rw [e2,Array.append_assoc]⟩
end
def UV (X:Cx) (E:XK):Prop:=X.stack=X.env::X.outer∧X.env.frame=some X.env.locals∧∀ (pins:List (Addr×Obj)) (σ:St) (H H':Hp) (s s1 s':Shared) (B:Heap) (e C:Addr) (cls a0:Value) (oc:Obj),Inv X pins σ H s→Fly X.prog X.w X.stack H s.heap e cls H' s1.heap B→s.heap.get? C=some oc→H C=none→X.s₀.heap.objs.size≤C→Xi (PySem.W.hideAll B [C]) (X.env::X.outer) e cls a0 s'.heap →
 (∀ b o,b≠C→s1.heap.get? b=some o→(∀ vs,o.data ≠ .fields vs)→∃ sl,s'.heap.get? b=some { o with slots:=sl })→s'.os=s.os→AllBare s'.gens→E cls none H'→X.xe (.ref e) s'
theorem YbW {g:Gx} {N:List Str} {qual:Str} {st:Stmt} {f:Addr} {cdv:Value} {A:Around} {outer:List Env} {s:Shared} {H:Hp} {E:XK}:UV (g.cxX N qual st f cdv A outer s H E) E :=
 ⟨rfl,rfl,fun pins σ H1 H' s2 s1 s' B e C cls a0 oc I F hC hHC hCn R up os bare q=>I.leave_comp rfl rfl rfl I.ok.frames F hC hHC hCn R up fun h'' F'=>⟨e,cls,H',_,rfl,os.trans I.os,bare,F',q⟩⟩
def cxCX (X:Cx) (E:XK) (scope:Scope) (N':List Str) (cl:List (Str×Addr)) (C:Addr) (s₀:Shared) (H₀:Hp) (fp:List Addr) (pn:List (Addr×Obj)):Cx :=
 (cxC X scope N' cl C s₀ H₀ fp pn).wish fun e s'=>∃ pins σ H s,Inv (cxC X scope N' cl C s₀ H₀ fp pn) pins σ H s∧CXF X.prog X.w X.stack H s E e s'
theorem passC {X:Cx} {E:XK} {scope:Scope} {N':List Str} {cl:List (Str×Addr)} {C:Addr} {s₀:Shared} {H₀:Hp} {fp:List Addr} {pn:List (Addr×Obj)}:Xa (CXF X.prog X.w) (cxCX X E scope N' cl C s₀ H₀ fp pn) E :=
 fun pins σ H s e s' I hq=>⟨pins,σ,H,s,I.unwish,hq⟩
section
variable {prog:Program} {w:World} {A:Around} {R:Result→Shared→Prop} {s:Shared}
theorem Qo {elt tg iter:Expr} {ifs:List Expr} {scope:Scope} {pos:Pos} {it acc:Value} {env:Env} (J:Nat→Shared→Prop)
  (turn:∀ n s,J n s→wpAny (model prog w) A (pyNext it) (fun r s₁=>match r with
    | none=>R (.ok .next) s₁
    | some v=>wpAny (model prog w) A (letOwnedTupleGo tg it v) (fun _ z₁=>wpAny (model prog w) A (assign tg env v) (fun _ s₂ =>
      wpAny (model prog w) A (forIn ifs true fun c r=>if r=true then do let ok ← isTrue c env (eval c env);pure (ForInStep.yield ok) else pure (ForInStep.yield r))
       (fun ok s₃=>if ok=true then wpAny (model prog w) A (eval elt env) (fun x s₄=>wpAny (model prog w) A (call (.builtin "list.append") [acc,x]) (fun _ s₅=>∃ m,m<n∧J m s₅) (fun _ _=>False) s₄) (notedBy (model prog w) A env fun e s'=>R (.error e) s') s₃
        else ∃ m,m<n∧J m s₃) (fun _ _=>False) s₂) (fun _ _=>False) z₁) (fun _ _=>False) s₁) (fun _ _=>False) s)
  (n:Nat) (h:J n s):codeAny (model prog w) A (.compLoop (.ListComp elt [⟨tg,iter,ifs,0⟩] scope pos) 0 it acc env) R s:=by
 refine codeAny_loop rfl J (fun n s hJ=>?_) n h
 show wpAny _ A (Sem.onRaise (compTurn (.ListComp elt [⟨tg,iter,ifs,0⟩] scope pos) 0 it acc env) (fun x=>do noteFrame x env;theTreesLotGoes x)) _ _ s
 refine wpAny_noted ?_
 rw [compTurn_list]
 have no:∀ {E:Value→Shared→Prop},∀ (e:Value) (s':Shared),False→E e s':=fun _ _ f=>f.elim
 refine wpAny_bind (wpAny_standAt (wpAny_bind (wpAny_mono (turn n s hJ) (fun r s₁ h₁=>?_) no)))
 cases r with
 | none=>exact wpAny_pure h₁
 | some v =>
  refine wpAny_bind (wpAny_mono h₁ (fun _ z₁ hz=>?_) no)
  refine wpAny_bind (wpAny_mono hz (fun _ s₂ h₂=>wpAny_bind (wpAny_mono h₂ (fun ok s₃ h₃=>?_) no)) no)
  cases ok with
  | false=>exact wpAny_pure ⟨rfl,h₃⟩
  | true =>
   exact wpAny_bind (wpAny_bind (wpAny_mono h₃ (fun x s₄ h₄=>wpAny_bind (wpAny_mono h₄ (fun _ s₅ h₅=>wpAny_pure (wpAny_pure ⟨rfl,h₅⟩)) no)) fun _ _ z=>z))
end
section
variable {X:Cx}
theorem YcB {elt tg iter:Expr} {ifs:List Expr} {scope:Scope} {pos:Pos} {src:List (Option Nat)} {N':List Str} {wi:TI} {g:TG} {tt:TT} {te:TE} {E:XK} (hL:UV X E) (hcap:Cap X scope src N') (hc:X.calm=true) (hi:PI X tg iter wi)
  (hg:∀ cl C s₀ H₀ fp pn,PG (cxC X scope N' cl C s₀ H₀ fp pn) tg g) (ht:∀ cl C s₀ H₀ fp pn,PTs (cxC X scope N' cl C s₀ H₀ fp pn) ifs tt) (he:∀ cl C s₀ H₀ fp pn,PE (cxCX X E scope N' cl C s₀ H₀ fp pn) elt te)
  (hfree:∀ x,(x,NameKind.free)∈scope.names→X.env.scope.names.lookup x=some NameKind.cell∨X.env.scope.names.lookup x=some NameKind.free)
  (hk:scope.kind = .function) (hcell:∀ y∈scope.names,y.2 ≠ .cell) (hnames:∀ y∈scope.names,y.2 = .local→scope.names.lookup y.1=some .local)
  (hs:∀ x,foldedSetIterable iter X.env x=pure x):PE X (.ListComp elt [⟨tg,iter,ifs,0⟩] scope pos) (tLC src wi g tt te):=by
 intro pins s σ H Q I h
 obtain ⟨hst,hfr,hX⟩:=hL
 have no:∀ {E:Value→Shared→Prop},∀ (e:Value) (s':Shared),False→E e s':=fun _ _ f=>f.elim
 obtain ⟨cl,hcl,a,b⟩:=Wb X.env scope fun x hx=>I.ok.has x (hfree x hx)
 rw [eval_ListComp]
 refine wpAny_comprehension_free (use:=none) rfl hs hcl hk hnames (thn (hi pins s σ H _ I h) fun v s1 h1=>thn h1 fun itv s2 h2=>?_)
 obtain ⟨it,fp,tn,J,H2,e,I2,T,st2,f2,q⟩:=h2
 subst e
 have hD:H2 s2.heap.objs.size=none:=I2.hok.fresh (Nat.le_refl _)
 obtain ⟨W,⟨m0,w0⟩,turn⟩:=q s2.heap.objs.size hD
 have I3:=I2.lnew (t':=s2.toks) (ys:=[]) (its:=[]) .nil (Nat.zero_le _)
 have fl2:∀ b∈fp,b<s2.heap.objs.size:=fun b hb=>by
  obtain ⟨o,e,_⟩:=T.obj _ _ st2 b hb
  exact Heap.lt_size e
 refine wpAny_newObj_type ?_
 generalize es3:({ s2 with heap:=s2.heap.push { cls := .type "list",dict:=none,data := .seq ([]:List Value).toArray } }:Shared)=s3
 have I3':Inv X pins σ (upd H2 s2.heap.objs.size (.lst [])) s3:=es3▸I3
 have keep3:∀ b o,s2.heap.get? b=some o→s3.heap.get? b=some o:=fun b o e=>by rw [← es3];exact Heap.get?_push_of_some _ e
 have st3:tn 0 s3.heap:=T.keep _ _ _ st2 fun b _ o e=>keep3 b o e
 have fl3:∀ b∈fp,b<s3.heap.objs.size:=fun b hb=>by
  obtain ⟨o,e,_⟩:=T.obj _ _ st3 b hb
  exact Heap.lt_size e
 have f3:∀ b∈fp,Xj X pins (upd H2 s2.heap.objs.size (.lst [])) b:=fun b hb=>⟨by rw [Yl (Nat.ne_of_lt (fl2 b hb))];exact (f2 b hb).1,(f2 b hb).2⟩
 generalize eD:s2.heap.objs.size=D at *
 generalize eH3:upd H2 D (.lst [])=H3 at *
 refine wpAny_newFunctionEnv hcell (by intro y hy;simp at hy) (fun h₁ hns₁ hsb₁=>?_) hk
 have keep4:∀ b o,s3.heap.get? b=some o→h₁.get? b=some o:=fun b o e=>hsb₁.extBut b o (Nat.ne_of_lt (Heap.lt_size e)) (Heap.get?_push_of_some _ e)
 have I4:=WP (N':=N') (src:=src) (tk:=s3.toks+([]:List (Str×Value)).length) hk hcell hcap a b I3' f3 fl3 rfl keep4 hns₁
 have stat:∀ {H':Hp},(∀ b∈fp,H' b=none)→∀ b∈fp,Xj (cxC X scope N' cl s3.heap.objs.size s3 H3 fp (X.pn++pins)) [] H' b:=fun hn b' hb=>by
  obtain ⟨f0,f1,fs,fe,f4,f5⟩:=f3 b' hb
  refine ⟨hn b' hb,Nat.ne_of_lt (fl3 b' hb),fun z=>?_,.inl hb,fun x c h=>f4 x c (a x c h),fun p hp=>f5 p (by simpa [cxC] using hp)⟩
  rcases List.mem_cons.mp (I3'.stkSub b' z) with e | e
  ·exact f1 e
  ·exact fs e
 have fin:∀ {H':Hp} {s':Shared} {σ':St} {pins':List (Addr×Obj)},Inv (cxC X scope N' cl s3.heap.objs.size s3 H3 fp (X.pn++pins)) pins' σ' H' s'→∀ h',Heap.SameBut s3.heap.objs.size s'.heap h'→Inv X pins σ H' { s' with heap:=h' }:=fun {H' s' σ' pins'} J' h' sb=>by
  have same:∀ b o,b≠s3.heap.objs.size→s'.heap.get? b=some o→h'.get? b=some o:=fun b o hb e=>sb.extBut b o hb e
  have u:Un (frs X.stack) fp H3 H' s3.heap s'.heap:=J'.base
  refine I3'.call' (s':={ s' with heap:=h' }) (ch:=fp) J'.os ⟨fun b o e n hb hx=>?_,fun b o e n hb hx=>?_,u.free,fun b o e hx=>?_,u.tups,u.frzs,u.tbls⟩ (fun b o e=>?_) J'.bare fun b hb=>?_
  ·exact same b o (Nat.ne_of_lt (Heap.lt_size e)) (u.keep b o e n hb hx)
  ·obtain ⟨sl,z⟩:=u.slot b o e n hb hx
   exact ⟨sl,same b _ (Nat.ne_of_lt (Heap.lt_size e)) z⟩
  ·obtain ⟨o',z⟩:=u.there b o e hx
   exact ⟨o',same b o' (Nat.ne_of_lt (Heap.lt_size e)) z⟩
  ·have nC:∀ c v,H' c=some v→c≠s3.heap.objs.size:=fun c v z q=>by
    have:=J'.free
    rw [show (cxC X scope N' cl s3.heap.objs.size s3 H3 fp (X.pn++pins)).env.locals=s3.heap.objs.size from rfl,← q,z] at this
    cases this
   refine (J'.hok b o e).stay (fun c v hc q=>same c v ?_ q) (fun _ q=>q) fun _ _ q=>q
   rcases hc with z | z
   ·rw [z];exact nC b o e
   ·exact nC c _ z
  ·obtain ⟨f0,f1,fs,fe,f4,f5⟩:=f3 b hb
   exact ⟨fe,f1,f4,f5⟩
 have nfr:s3.heap.objs.size∉frs X.stack:=fun z=>by
  obtain ⟨_,o,e,_⟩:=I3'.stack.mem z
  exact absurd (Heap.lt_size e) (Nat.lt_irrefl _)
 -- an exception leaves the block
 have gone:∀ (e:Value) (s':Shared),(∃ pins' σ' H s,Inv (cxC X scope N' cl s3.heap.objs.size s3 H3 fp (X.pn++pins)) pins' σ' H s∧CXF X.prog X.w X.stack H s E e s') →
   notedBy (model X.prog X.w) X.A (compEnvC scope cl s3.heap.objs.size X.env) (fun e s'=>compPost (model X.prog X.w) X.A X.xe none (EP X pins σ Q) (.ref D) s3.heap.objs.size (.error e) s') e s':=by
  rintro e s' ⟨pins',σ',H',s5,I5,ea,cls,H'',B,rfl,os5,bare5,F,qE⟩
  obtain ⟨m,hn,_⟩:=I5.loc
  obtain ⟨oc,es,ep,hoc,hdc,YU⟩:=id hn
  have hHC:H' s3.heap.objs.size=none:=I5.free
  have hoc':s5.heap.get? s3.heap.objs.size=some oc:=hoc
  have hBC:B.get? s3.heap.objs.size=some oc:=F.keep _ _ hoc' hHC nfr
  obtain ⟨a0,fl⟩:=F.fl
  rw [hst] at fl
  unfold notedBy
  rw [YbV (show (compEnvC scope cl s3.heap.objs.size X.env).frame=X.env.frame from rfl)]
  have fA:X.A.frames=some (X.env::X.outer):=by rw [← hst];exact I3'.ok.frames
  obtain ⟨f1,f2,f3,f4⟩:=fl
  refine Uc fA hfr ⟨f1,f2,f3,_,f4⟩ fun h1 R1 u1=>⟨m,⟨oc,es,ep,R1.1 _ _ hBC,hdc,YU⟩,fun h2 sb2 cenv _=>?_⟩
  have R2:=R1.hide hBC sb2
  obtain ⟨_,_,_,fg,oe,vs,T,oT,ts,ze,_,zd,z1,_⟩:=id R2
  unfold PySem.passOn
  refine wpAny_bind (wpAny_field ze zd z1 ?_)
  rw [if_neg (show ¬ ((Value.ref T==Value.none)=true) by simp)]
  have tail:wpAny (model X.prog X.w) X.A (setFlight (.ref ea) cenv.frame >>= fun _=>throw (.ref ea):Sem Value) (fun _ _=>False) X.xe { s' with heap:=h2 }:=by
   refine wpAny_bind (Qn R2 fun h3 R3 u3=>wpAny_throw ?_)
   refine hX pins σ H' H'' { s5 with heap:=s5.heap } s' _ B ea s3.heap.objs.size cls a0 oc (fin I5 _ ⟨rfl,fun _ _=>rfl⟩) F hoc' hHC I3'.sz R3 (fun b o nb q n=>?_) os5 bare5 qE
   obtain ⟨sl1,e1⟩:=u1 b o q n
   have e2:=(sb2.2 b nb).trans e1
   obtain ⟨sl3,e3⟩:=u3 b _ e2 n
   exact ⟨sl3,e3⟩
  first
   | exact wpAny_bind (wpAny_pure tail)
   | exact tail
 have loop:codeAny (model X.prog X.w) X.A (.compLoop (.ListComp elt [⟨tg,iter,ifs,0⟩] scope pos) 0 (.ref it) (.ref D) (compEnvC scope cl s3.heap.objs.size X.env))
   (compPost (model X.prog X.w) X.A X.xe none (EP X pins σ Q) (.ref D) s3.heap.objs.size) { s3 with heap:=h₁,toks:=s3.toks+([]:List (Str×Value)).length }:=by
  refine Qo (fun n s'=>∃ i ys σ' H',Inv (cxC X scope N' cl s3.heap.objs.size s3 H3 fp (X.pn++pins)) [] σ' H' s'∧tn i s'.heap∧(∀ b∈fp,H' b=none)∧W i n ys σ' H') ?_ m0 ⟨0,[],YC src σ,H3,I4,T.keep _ _ _ st3 fun b _ o e=>keep4 b o e,fun b hb=>(f3 b hb).1,w0⟩
  rintro n s5 ⟨i,ys,σ5,H5,I5,st5,fr5,w5⟩
  obtain ⟨hDs,stop | go⟩:=turn i n ys σ5 H5 w5
  ·obtain ⟨stop,qn⟩:=stop
   refine thn (T.done (cxC X scope N' cl s3.heap.objs.size s3 H3 fp (X.pn++pins)) rfl rfl rfl hc i [] s5 σ5 H5 _ I5 (stat fr5) st5 stop) fun r s6 ⟨hr,I6⟩=>?_
   subst hr
   obtain ⟨m,hn,_⟩:=id I6.loc
   exact ⟨m,hn,fun h' sb=>⟨.ref D,H5,fin I6 h' sb,rfl,qn⟩⟩
  ·obtain ⟨go,N,hN,step⟩:=go
   refine thn (T.item (cxC X scope N' cl s3.heap.objs.size s3 H3 fp (X.pn++pins)) rfl rfl rfl hc i [] s5 σ5 H5 _ I5 (stat fr5) st5 go) fun r s6 ⟨u,hr,h6⟩=>?_
   subst hr
   refine thn h6 fun _ s7 ⟨x,H7,I7,r7,y7,st7,fr7⟩=>?_
   have I7':=I7.pinned (stat fr7) (T.obj _ _ st7)
   have again:∀ {s8:Shared} {σ8:St} {H8:Hp} {ys':List V},Inv (cxC X scope N' cl s3.heap.objs.size s3 H3 fp (X.pn++pins)) ([]++XO fp s7.heap) σ8 H8 s8→(∃ m',m'<n∧W (i+1) m' ys' σ8 H8) →
     ∃ m,m<n∧∃ i ys σ' H',Inv (cxC X scope N' cl s3.heap.objs.size s3 H3 fp (X.pn++pins)) [] σ' H' s8∧tn i s8.heap∧(∀ b∈fp,H' b=none)∧W i m ys σ' H':=fun {s8 σ8 H8 ys'} I8 ⟨m',hm,w8⟩=>by
    refine ⟨m',hm,i+1,ys',σ8,H8,I8.unpinned,T.keep _ _ _ st7 fun b hb o e=>(I8.pin (b,o) (List.mem_append_right _ (List.mem_append_right _ (YO hb e)))).1,fun b hb=>?_,w8⟩
    obtain ⟨o,e,d⟩:=T.obj _ _ st7 b hb
    exact (I8.pin (b,o) (List.mem_append_right _ (List.mem_append_right _ (YO hb e)))).2.1
   refine thn (hg cl _ s3 H3 fp _ _ s7 σ5 H7 x u _ I7' r7 (step x H7 y7)) fun _ s8 ⟨σ8,H8,I8,q8⟩=>?_
   refine thn (ht cl _ s3 H3 fp _ _ s8 σ8 H8 _ I8 q8) fun ok s9 ⟨H9,I9,q9⟩=>?_
   cases ok with
   | false=>exact again I9 (hN _ _ _ q9)
   | true =>
    rw [if_pos rfl]
    refine wpAny_mono (he cl _ s3 H3 fp _ _ s9 σ8 H9 _ (I9.wish _) q9) (fun y s10 ⟨yv,H10,I10',r10,q10⟩=>?_) gone
    have I10:=I10'.unwish
    obtain ⟨hDy,hlen,w10⟩:=q10
    refine thn (XA (X:=cxC X scope N' cl s3.heap.objs.size s3 H3 fp (X.pn++pins)) _ s10 σ8 H10 (.ref D) [yv] (.ref D) [y] (fun _ H'=>H'=upd H10 D (.lst (ys++[yv]))) I10 rfl (.cons r10 .nil) ⟨D,ys,yv,rfl,rfl,hDy,hlen,rfl⟩) fun _ s11 ⟨_,H11,I11,_,e11⟩=>?_
    subst e11
    exact again I11 (hN _ _ _ w10)
 exact codeAny_compStart_list loop (T.self _ 0 _ _ _ (T.keep _ _ _ st3 fun b _ o e=>keep4 b o e) loop)
end
end L2
namespace L2
open PySem PySem.Spec PyProof.Rows
section
variable {prog:Program} {w:World} {A:Around} {E:Value→Shared→Prop} {s:Shared}
end
section
variable {X:Cx}
end
end L2
namespace L2
open PySem PySem.Spec PyProof.Rows
open Sem (wp)
section
variable {prog:Program} {w:World} {A:Around} {R:Result→Shared→Prop} {I:Addr} {fp wr:List Addr} {n:Nat} {P:Nat→Value→Prop} {St:Nat→Heap→Prop}
end
section
variable {prog:Program} {w:World} {A:Around} {E:Value→Shared→Prop} {s:Shared} {l:Addr} {xs:Array (Int×Tok)}
end
section
variable {X:Cx}
end
theorem Ud (a:Array Nat):∀ (n:Nat) (b:Array Nat),((List.replicate n a).foldl (·++·) b).toList=b.toList++(List.replicate n a.toList).flatten
 | 0,b=>by simp
 | n+1,b=>by
  rw [List.replicate_succ,List.foldl_cons,Ud a n,List.replicate_succ,List.flatten_cons,Array.toList_append,List.append_assoc]
section
variable {X:Cx}
theorem Vn:OpR X (binaryOp .Mult) (fun x y H Q=>∃ (z:Str) (n:Int),x = .str z∧y = .int n∧0≤n∧n≤100000∧z.length≤10∧∀ r:Str,r.cps.toList=(List.replicate n.toNat z.cps.toList).flatten→Q (.str r) H):=by
 intro pins s σ H x y v u Q I rx ry h
 obtain ⟨z,n,rfl,rfl,h0,h1,hz,q⟩:=h
 obtain ⟨t,rfl⟩:=rx
 obtain ⟨t',rfl⟩:=ry
 have hm:z.length*n.toNat≤1000000:=by
  have a1:n.toNat≤100000:=by omega
  calc z.length*n.toNat≤10*100000:=Nat.mul_le_mul hz a1
   _=1000000:=rfl
 have big:1000000≤sizeLine:=by decide
 refine PySem.P.mul_str ?_ ?_ ?_ ?_
 ·rw [decide_eq_false (by omega),decide_eq_false (by omega)];rfl
 ·intro a b c
  have:(10:Int)≤(2^63 - 1) / n:=by
   rw [Int.le_ediv_iff_mul_le (by omega)]
   have:(10:Int)*n≤1000000:=by omega
   exact Int.le_trans this (by decide)
  omega
 ·intro a b
  unfold Builtin.Str.tooLong
  exact decide_eq_false (by omega)
 ·by_cases a:n<1
  ·rw [if_pos a]
   have e:n=0:=by omega
   subst e
   exact ⟨by decide,.str Str.empty,H,I.tok _,⟨_,rfl⟩,q _ rfl⟩
  ·rw [if_neg a]
   by_cases b:(n==1||z.length==0)=true
   ·rw [if_pos b]
    refine ⟨.str z,H,I,⟨t,rfl⟩,q z ?_⟩
    rcases (Bool.or_eq_true _ _).mp b with b | b
    ·have e:n=1:=by simpa using b
     subst e
     simp
    ·have e0:z.cps.size=0:=by simpa [Str.length] using b
     have e:z.cps.toList=[]:=List.eq_nil_of_length_eq_zero (by rw [Array.length_toList,e0])
     rw [e]
     simp
   ·rw [if_neg b]
    have hs:=Ua z.cps n.toNat #[]
    have hl:(({ cps:=List.foldl (fun x1 x2=>x1++x2) #[] (List.replicate n.toNat z.cps) }:Str)).length=z.length*n.toNat:=by
     show (List.foldl (fun x1 x2=>x1++x2) #[] (List.replicate n.toNat z.cps)).size=z.length*n.toNat
     rw [hs,Nat.mul_comm]
     show 0+z.cps.size*n.toNat=z.cps.size*n.toNat
     omega
    refine ⟨by rw [hl];omega,.str _,H,I.tok _,⟨_,rfl⟩,q _ ?_⟩
    have:=Ud z.cps n.toNat #[]
    simpa using this
end
end L2
namespace L2
open PySem PySem.Spec PyProof.Rows PySem.Builtin.Str
section
variable {X:Cx}
end
end L2
namespace L2
open PySem PySem.Spec PyProof.Rows
section
variable {X:Cx}
end
end L2
set_option maxHeartbeats 8000000
namespace KW
open PySem L2
def top (i:Nat):Stmt:=PySem.Challenge.pw_countgen_k51_terms_refused.main.body.getD i (.Pass ⟨0,0,0,0⟩)
abbrev Z1T:Stmt:=top 9
abbrev Z0M:Stmt:=top 10
abbrev Z0d:Stmt:=top 11
abbrev Z1c:Stmt:=top 12
abbrev Z29:Stmt:=top 13
abbrev ZZ:Stmt:=top 15
theorem ZD:FnScope ["text","depth","sign"] ["text"] (Yg ZZ):=⟨rfl,rfl,rfl,by decide +kernel,rfl,by decide +kernel,by decide +kernel⟩
abbrev Z12:Stmt:=top 16
theorem Z0S:FnScope ["text","reader","note"] ["text"] (Yg Z12):=⟨rfl,rfl,rfl,by decide +kernel,rfl,by decide +kernel,by decide +kernel⟩
abbrev Z00:Stmt:=top 19
theorem Z0N:FnScope ["word","figures"] ["word"] (Yg Z00):=⟨rfl,rfl,rfl,by decide +kernel,rfl,by decide +kernel,by decide +kernel⟩
abbrev Z13:Stmt:=top 20
theorem Ue:FnScope ["note"] ["note"] (Yg Z13):=⟨rfl,rfl,rfl,by decide +kernel,rfl,by decide +kernel,by decide +kernel⟩
abbrev Z01:Stmt:=top 21
theorem Z0O:FnScope ["note","word"] ["note"] (Yg Z01):=⟨rfl,rfl,rfl,by decide +kernel,rfl,by decide +kernel,by decide +kernel⟩
abbrev ZN:Stmt:=top 26
theorem Z1l:FnScope ["notes","many"] ["notes","many"] (Yg ZN):=⟨rfl,rfl,rfl,by decide +kernel,rfl,by decide +kernel,by decide +kernel⟩
abbrev Z0f:Stmt:=top 27
theorem Z0T:FnScope ["note","place"] ["note"] (Yg Z0f):=⟨rfl,rfl,rfl,by decide +kernel,rfl,by decide +kernel,by decide +kernel⟩
abbrev Z0g:Stmt:=top 28
theorem Z1V:FnScope ["notes"] ["notes"] (Yg Z0g):=⟨rfl,rfl,rfl,by decide +kernel,rfl,by decide +kernel,by decide +kernel⟩
abbrev Z0t:Stmt:=top 29
theorem Z2a:FnScope ["mark","notes"] ["mark","notes"] (Yg Z0t):=⟨rfl,rfl,rfl,by decide +kernel,rfl,by decide +kernel,by decide +kernel⟩
abbrev ZQ:Stmt:=top 30
theorem Z1y:FnScope ["mark","notes","many"] ["mark","notes","many"] (Yg ZQ):=⟨rfl,rfl,rfl,by decide +kernel,rfl,by decide +kernel,by decide +kernel⟩
abbrev Z0u:Stmt:=top 31
theorem Z2b:FnScope ["word"] ["word"] (Yg Z0u):=⟨rfl,rfl,rfl,by decide +kernel,rfl,by decide +kernel,by decide +kernel⟩
abbrev Z0v:Stmt:=top 32
theorem Z0h:FnScope ["note","mark","notes"] ["note"] (Yg Z0v):=⟨rfl,rfl,rfl,by decide +kernel,rfl,by decide +kernel,by decide +kernel⟩
abbrev Z14:Stmt:=top 33
theorem Uf:FnScope ["text"] ["text"] (Yg Z14):=⟨rfl,rfl,rfl,by decide +kernel,rfl,by decide +kernel,by decide +kernel⟩
abbrev Z0H:Stmt:=top 34
theorem Z1d:FnScope ["term","mark"] ["term"] (Yg Z0H):=⟨rfl,rfl,rfl,by decide +kernel,rfl,by decide +kernel,by decide +kernel⟩
abbrev Z15:Stmt:=top 35
theorem Z0U:FnScope ["term","mark","shown"] ["term"] (Yg Z15):=⟨rfl,rfl,rfl,by decide +kernel,rfl,by decide +kernel,by decide +kernel⟩
abbrev Z0I:Stmt:=top 37
theorem Z2f:FnScope ["_law_script","_law_k"] ["_law_script","_law_k"] (Yg Z0I):=⟨rfl,rfl,rfl,by decide +kernel,rfl,by decide +kernel,by decide +kernel⟩
abbrev Z1m:Stmt:=top 38
theorem Z16:FnScope ["_law_cell","_law_some"] ["_law_cell"] (Yg Z1m):=⟨rfl,rfl,rfl,by decide +kernel,rfl,by decide +kernel,by decide +kernel⟩
abbrev Z1B:Stmt:=top 39
theorem ZE:FnScope ["_law_cell","_law_number","_law_some"] ["_law_cell"] (Yg Z1B):=⟨rfl,rfl,rfl,by decide +kernel,rfl,by decide +kernel,by decide +kernel⟩
abbrev VS:Stmt:=top 40
theorem YL:FnScope ["_law_script","_law_way","_law_cell","_law_text","_law_place","_law_ahead","_law_k","_law_thing","_law_error","_law_term","e"] ["_law_script"] (Yg VS):=⟨rfl,rfl,rfl,by decide +kernel,rfl,by decide +kernel,by decide +kernel⟩
abbrev Z0e:Stmt:=Xv (top 14) 0
abbrev ZX:Stmt:=Xv (top 14) 1
abbrev Z0F:Stmt:=Xv (top 14) 2
abbrev ZT:Stmt:=Xv (top 14) 3
abbrev ZC:Stmt:=Xv (top 14) 4
theorem Zi:FnScope ["self","label","word"] ["self"] (Yg ZC):=⟨rfl,rfl,rfl,by decide +kernel,rfl,by decide +kernel,by decide +kernel⟩
abbrev ZA:Stmt:=Xv (top 14) 5
theorem ZI:FnScope ["self","notes"] ["self"] (Yg ZA):=⟨rfl,rfl,rfl,by decide +kernel,rfl,by decide +kernel,by decide +kernel⟩
abbrev Z0r:Stmt:=Xv (top 14) 6
variable {g:Gx}
local macro_rules | `(tactic| walk_at "rd")=>`(tactic| simp (config:={ failIfUnchanged:=false,maxSteps:=10000000 }) only [L2.Xq,Ycz,nox_K,List.map_cons,List.map_nil,List.length_cons,List.length_nil,List.cons_append,List.nil_append,List.replicate_succ,List.replicate_zero,Nat.zero_add,Nat.reduceAdd,Nat.reduceSub,Nat.sub_self,XN,tIfS,Qc,tOp,tC,tVar,rI0,rI,rU,tUn,tRet,tRetN,YaW,YaV,Ycp,tCont,tAsg,Y4,gNil,gCons,Ya0,VY,tCB,VO,tTry,Q8,Q7,sFld,tFld,Qf,WD,Ends.gone,YaK,tB,tAnd,tOr,tNot,YaU,tOrV,tNotV,tIf,VX,UO,Ya1,tSl,Ycq,tAug,rIxL,rIxT,rSlL,tLst,tTup,gTup,tRev,tLZ,Ya8,YcA,rBits,rFind,rIn,tBM,tBM0,UP,YaF,rEq,rNe,YbM,UR,rCat,rSetL,gSub,ipI,YC,List.getD_cons_zero,List.getD_cons_succ,decide_true,not_true_eq_false,not_false_eq_true,
 exists_eq_left',exists_eq_left,exists_eq',exists_eq,exists_and_left,and_assoc,Option.some.injEq,V.int.injEq,V.bl.injEq,V.ref.injEq,V.str.injEq,List.getElem?_cons_zero,List.getElem?_cons_succ,List.set_cons_zero,List.set_cons_succ,List.cons.injEq,and_true,true_and,List.append_nil,decide_eq_true_eq,Bool.not_eq_true',decide_eq_false_iff_not,Bool.not_not,Bool.not_true,Bool.not_false,Bool.true_eq_false,Bool.false_eq_true,if_true,if_false,ite_true,ite_false])
theorem cpow {i j:Int} (h:0≤j∧j≤1000000∧i.natAbs<2^64:=by decide):CPow i j:=h
theorem few {n:Nat} (h:n≤100000):n≤sizeLine:=Nat.le_trans h (by decide)
theorem XJ (x:Int) {j:Int} (h:0<j):∃ r:Nat,x%j=r∧(r:Int)<j:=⟨(x%j).toNat,by have:=Int.emod_nonneg x (Int.ne_of_gt h);omega,by have:=Int.emod_lt_of_pos x h;have:=Int.emod_nonneg x (Int.ne_of_gt h);omega⟩
variable {C:Addr}
namespace Rd
mutual
inductive Note where
 | leaf (l w:List Nat)
 | node (l w:List Nat) (ks:Notes)
inductive Notes where
 | nil
 | cons (n:Note) (r:Notes)
end
def Note.lab:Note→List Nat
 | .leaf l _=>l
 | .node l _ _=>l
def Notes.snoc:Notes→Note→Notes
 | .nil,n => .cons n .nil
 | .cons m r,n => .cons m (r.snoc n)
def Notes.len:Notes→Nat
 | .nil=>0
 | .cons _ r=>r.len+1
def head (l w:List Nat):List Nat:=if l=[] then w else l++58::w
mutual
def txt:Note→List Nat
 | .leaf l w=>head l w
 | .node l w ks=>head l w++40::(txts ks++[41])
def txts:Notes→List Nat
 | .nil=>[]
 | .cons n .nil=>txt n
 | .cons n (.cons m r)=>txt n++44::txts (.cons m r)
end
def isFig (c:Nat):Bool:=decide (48≤c)&&decide (c≤57)
def YB (c:Nat):Bool:=decide (97≤c)&&decide (c≤122)
def Wg (c:Nat):Bool:=decide (65≤c)&&decide (c≤90)
def isLF (c:Nat):Bool:=YB c||Wg c||isFig c
def isWS (c:Nat):Bool:=isLF c||c==45
def okL (l:List Nat):Prop:=l.length≤8∧∀ c∈l,YB c=true
def okW (w:List Nat):Prop:=1≤w.length∧w.length≤62∧∀ c∈w,isWS c=true
mutual
def Ok:Nat→Note→Prop
 | _,.leaf l w=>okL l∧okW w
 | 0,.node _ _ _=>False
 | d+1,.node l w ks=>okL l∧okW w∧Oks d ks
def Oks:Nat→Notes→Prop
 | _,.nil=>True
 | d,.cons n r=>Ok d n∧Oks d r
end
theorem Ug {d:Nat}:∀ {ks:Notes} {n:Note},Oks d ks→Ok d n→Oks d (ks.snoc n)
 | .nil,n,_,h=>⟨h,trivial⟩
 | .cons m r,n,h,h'=>⟨h.1,Ug h.2 h'⟩
theorem WS {c:Nat} (h:YB c=true):isWS c=true:=by simp [isWS,isLF,h]
def stepD (d:Int) (c:Nat):Int:=if c=40 then d+1 else if c=41 then d - 1 else d
def endD (d:Int) (t:List Nat):Int:=t.foldl stepD d
def okD (d:Int):List Nat→Prop
 | []=>True
 | c::r=>stepD d c≤6∧okD (stepD d c) r
theorem endD_append (d:Int) (a b:List Nat):endD d (a++b)=endD (endD d a) b:=by simp [endD]
theorem XE:∀ (a b:List Nat) (d:Int),okD d a→okD (endD d a) b→okD d (a++b)
 | [],b,d,_,h=>h
 | c::a,b,d,h,h'=>⟨h.1,XE a b _ h.2 h'⟩
theorem Wh {c:Nat} (h:isWS c=true):c≠40∧c≠41∧c≠44∧c≠58:=by
 simp [isWS,isLF,YB,Wg,isFig] at h
 omega
theorem Vo:∀ (t:List Nat) (d:Int),(∀ c∈t,c≠40∧c≠41)→d≤6→endD d t=d∧okD d t
 | [],d,_,_=>⟨rfl,trivial⟩
 | c::t,d,h,hd=>by
  obtain ⟨h1,h2⟩:=h c (by simp)
  have e:stepD d c=d:=by simp [stepD,h1,h2]
  obtain ⟨a,b⟩:=Vo t d (fun x hx=>h x (by simp [hx])) hd
  refine ⟨?_,?_⟩
  ·show endD (stepD d c) t=d
   rw [e];exact a
  ·show stepD d c≤6∧okD (stepD d c) t
   rw [e];exact ⟨hd,b⟩
theorem Va {l w:List Nat} (hl:okL l) (hw:okW w):∀ c∈head l w,c≠40∧c≠41:=by
 intro c hc
 unfold head at hc
 split at hc
 ·obtain ⟨a,b,_⟩:=Wh (hw.2.2 c hc);exact ⟨a,b⟩
 ·simp at hc
  rcases hc with h | h | h
  ·obtain ⟨a,b,_⟩:=Wh (WS (hl.2 c h));exact ⟨a,b⟩
  ·subst h;decide
  ·obtain ⟨a,b,_⟩:=Wh (hw.2.2 c h);exact ⟨a,b⟩
mutual
theorem txt_d:∀ (k:Nat) (n:Note) (d:Int),Ok k n→d+k≤6→endD d (txt n)=d∧okD d (txt n)
 | k,.leaf l w,d,h,hd=>Vo _ d (Va h.1 h.2) (by omega)
 | 0,.node l w ks,d,h,hd=>h.elim
 | k+1,.node l w ks,d,h,hd=>by
  obtain ⟨hl,hw,hk⟩:=h
  obtain ⟨a,b⟩:=Vo (head l w) d (Va hl hw) (by omega)
  obtain ⟨a',b'⟩:=Yaf k ks (d+1) hk (by omega)
  have e40:stepD d 40=d+1:=by simp [stepD]
  have e41:stepD (d+1) 41=d:=by simp [stepD]
  refine ⟨?_,?_⟩
  ·show endD d (head l w++40::(txts ks++[41]))=d
   rw [endD_append,a]
   show endD (stepD d 40) (txts ks++[41])=d
   rw [e40,endD_append,a']
   exact e41
  ·show okD d (head l w++40::(txts ks++[41]))
   refine XE _ _ _ b ?_
   rw [a]
   refine ⟨by rw [e40];omega,?_⟩
   rw [e40]
   refine XE _ _ _ b' ?_
   rw [a']
   exact ⟨by rw [e41];omega,trivial⟩
theorem Yaf:∀ (k:Nat) (ks:Notes) (d:Int),Oks k ks→d+k≤6→endD d (txts ks)=d∧okD d (txts ks)
 | k,.nil,d,_,_=>⟨rfl,trivial⟩
 | k,.cons n .nil,d,h,hd=>txt_d k n d h.1 hd
 | k,.cons n (.cons m r),d,h,hd=>by
  obtain ⟨a,b⟩:=txt_d k n d h.1 hd
  obtain ⟨a',b'⟩:=Yaf k (.cons m r) d h.2 hd
  have e44:stepD d 44=d:=by simp [stepD]
  refine ⟨?_,?_⟩
  ·show endD d (txt n++44::txts (.cons m r))=d
   rw [endD_append,a]
   show endD (stepD d 44) _=d
   rw [e44];exact a'
  ·show okD d (txt n++44::txts (.cons m r))
   refine XE _ _ _ b ?_
   rw [a]
   refine ⟨by rw [e44];omega,?_⟩
   rw [e44];exact b'
end
end Rd
namespace Rd
abbrev sFig:Stmt:=Z1T
abbrev Yag:Stmt:=Z0M
abbrev sLF:Stmt:=Z0d
abbrev sWS:Stmt:=Z1c
abbrev Yah:Stmt:=Z29
abbrev Yba:Stmt:=Z0e
abbrev Ybb:Stmt:=ZX
abbrev Yai:Stmt:=Z0F
abbrev Ybc:Stmt:=ZT
abbrev sEnd:Stmt:=Z0r
def spSign (f:Nat→Bool):Sp:=fun vs H Q _=>∃ l:List Nat,vs=[.str (S l)]∧l.length≤1∧Q (.bl (l.any f)) H
theorem Vb {l:List Nat} (h:l.length≤1):l=[]∨∃ c,l=[c]:=by
 match l,h with
 | [],_=>exact .inl rfl
 | [c],_=>exact .inr ⟨c,rfl⟩
theorem Yaj (a b:Nat):decide (([a]:List Nat)<[b])=decide (a<b):=by
 by_cases h:a<b
 ·rw [decide_eq_true h,decide_eq_true]
  exact List.Lex.rel h
 ·rw [decide_eq_false h,decide_eq_false]
  intro z
  cases z with
  | rel z=>exact h z
  | cons z=>cases z
theorem YcC (b:Nat):decide (([]:List Nat)<[b])=true:=decide_eq_true List.Lex.nil
theorem scFig:FnScope ["sign"] ["sign"] (Yg sFig):=⟨rfl,rfl,rfl,by decide +kernel,rfl,by decide +kernel,by decide +kernel⟩
theorem Wi (a b:Nat) (sa sb:Str) (ea:sa=S [a]) (eb:sb=S [b]) (l:List Nat) (hl:l.length≤1) :
  (if (!decide ((S l).cps.toList<sa.cps.toList))=true then !decide (sb.cps.toList<(S l).cps.toList) else false)=l.any fun c=>decide (a≤c)&&decide (c≤b):=by
 subst ea eb
 rw [YN,YN,YN]
 rcases Vb hl with rfl | ⟨c,rfl⟩
 ·rw [YcC];rfl
 ·rw [Yaj,Yaj]
  simp only [List.any_cons,List.any_nil,Bool.or_false]
  by_cases h1:a≤c<;>by_cases h2:c≤b<;>simp [h1,h2,Nat.not_lt]<;>omega
theorem ok_fig (R:g.Raw "is_figure" "is_figure" sFig ["sign"]):g.Fn 1 "is_figure" ["sign"] (spSign isFig):=by
 refine R.fn scFig (fun vs H Q E h=>by obtain ⟨l,rfl,_⟩:=h;rfl) fun f cdv A outer s H vs Q E hr h=>?_
 obtain ⟨l,rfl,hl,q⟩:=h
 refine ⟨_,Ye (Yj (X9 Xn Xn Yb (pv 0) Yb)),?_⟩
 have e:=Wi 48 57 _ _ (show ("0":Str)=S [48] by decide +kernel) (show ("9":Str)=S [57] by decide +kernel) l hl
 refine ⟨_,rfl,_,_,rfl,rfl,_,rfl,?_⟩
 refine Yw (fun c=>?_) (fun c=>?_)
 ·rw [if_pos c] at e
  exact ⟨_,_,rfl,rfl,by rw [e];exact q⟩
 ·rw [if_neg c] at e
  show Q (.bl false) H
  rw [e];exact q
theorem YbX:FnScope ["sign"] ["sign"] (Yg Yag):=⟨rfl,rfl,rfl,by decide +kernel,rfl,by decide +kernel,by decide +kernel⟩
theorem ok_small (R:g.Raw "is_small_letter" "is_small_letter" Yag ["sign"]):g.Fn 1 "is_small_letter" ["sign"] (spSign YB):=by
 refine R.fn YbX (fun vs H Q E h=>by obtain ⟨l,rfl,_⟩:=h;rfl) fun f cdv A outer s H vs Q E hr h=>?_
 obtain ⟨l,rfl,hl,q⟩:=h
 refine ⟨_,Ye (Yj (X9 Xn Xn Yb (pv 0) Yb)),?_⟩
 have e:=Wi 97 122 _ _ (show ("a":Str)=S [97] by decide +kernel) (show ("z":Str)=S [122] by decide +kernel) l hl
 refine ⟨_,rfl,_,_,rfl,rfl,_,rfl,?_⟩
 refine Yw (fun c=>?_) (fun c=>?_)
 ·rw [if_pos c] at e
  exact ⟨_,_,rfl,rfl,by rw [e];exact q⟩
 ·rw [if_neg c] at e
  show Q (.bl false) H
  rw [e];exact q
theorem Uh (l:List Nat) (p r:Nat→Bool):(l.any fun c=>p c||r c)=(l.any p||l.any r):=by
 induction l with
 | nil=>rfl
 | cons a l ih=>simp only [List.any_cons,ih];cases p a<;>cases r a<;>simp
theorem scLF:FnScope ["sign"] ["sign"] (Yg sLF):=⟨rfl,rfl,rfl,by decide +kernel,rfl,by decide +kernel,by decide +kernel⟩
theorem ok_lf (R:g.Raw "is_letter_or_figure" "is_letter_or_figure" sLF ["sign"]) (F1:g.Fn 1 "is_small_letter" ["sign"] (spSign YB)) (F2:g.Fn 1 "is_figure" ["sign"] (spSign isFig)) :
  g.Fn 2 "is_letter_or_figure" ["sign"] (spSign isLF):=by
 refine R.fn scLF (fun vs H Q E h=>by obtain ⟨l,rfl,_⟩:=h;rfl) fun f cdv A outer s H vs Q E hr h=>?_
 obtain ⟨l,rfl,hl,q⟩:=h
 refine ⟨_,Ye (Yj (U6 (YR F1 hr (Ya (pv 0) Yc)) (U6 (X9 Xn Xn Yb (pv 0) Yb) (Wl (YR F2 hr (Ya (pv 0) Yc)))))),?_⟩
 have e:=Wi 65 90 _ _ (show ("A":Str)=S [65] by decide +kernel) (show ("Z":Str)=S [90] by decide +kernel) l hl
 have ea:l.any isLF=(l.any YB||(l.any Wg||l.any isFig)):=by
  have:isLF=fun c=>YB c||(Wg c||isFig c):=by funext c;simp [isLF,Bool.or_assoc]
  rw [this,Uh,Uh]
 refine ⟨_,rfl,l,rfl,hl,_,rfl,?_⟩
 refine Yw (fun c=>?_) (fun c=>?_)
 ·rw [ea,c] at q;exact q
 ·refine ⟨_,rfl,_,_,rfl,rfl,_,rfl,?_⟩
  have c0:l.any YB=false:=Bool.eq_false_iff.mpr c
  refine Yw (fun c1=>?_) (fun c1=>?_)
  ·rw [if_pos c1] at e
   refine ⟨_,_,rfl,rfl,_,rfl,?_⟩
   refine Yw (fun c2=>?_) (fun c2=>?_)
   ·have eb:l.any Wg=true:=e.symm.trans c2
    rw [ea,eb] at q;simpa using q
   ·have eb:l.any Wg=false:=e.symm.trans (Bool.eq_false_iff.mpr c2)
    refine ⟨_,rfl,l,rfl,hl,?_⟩
    rw [ea,eb,c0] at q;simpa using q
  ·rw [if_neg c1] at e
   have eb:l.any Wg=false:=e.symm
   refine ⟨_,rfl,WO ?_⟩
   refine ⟨_,rfl,l,rfl,hl,?_⟩
   rw [ea,eb,c0] at q;simpa using q
theorem scWS:FnScope ["sign"] ["sign"] (Yg sWS):=⟨rfl,rfl,rfl,by decide +kernel,rfl,by decide +kernel,by decide +kernel⟩
theorem ok_ws (R:g.Raw "is_word_sign" "is_word_sign" sWS ["sign"]) (F1:g.Fn 2 "is_letter_or_figure" ["sign"] (spSign isLF)):g.Fn 3 "is_word_sign" ["sign"] (spSign isWS):=by
 refine R.fn scWS (fun vs H Q E h=>by obtain ⟨l,rfl,_⟩:=h;rfl) fun f cdv A outer s H vs Q E hr h=>?_
 obtain ⟨l,rfl,hl,q⟩:=h
 refine ⟨_,Ye (Yj (U6 (YR F1 hr (Ya (pv 0) Yc)) (Wl (Xm YQ (pv 0) Yb (Yr _))))),?_⟩
 have ea:l.any isWS=(l.any isLF||l.any (·==45)):=by
  have:isWS=fun c=>isLF c||(c==45):=by funext c;rfl
  rw [this,Uh]
 refine ⟨_,rfl,l,rfl,hl,_,rfl,?_⟩
 refine Yw (fun c=>?_) (fun c=>?_)
 ·rw [ea,c] at q;exact q
 ·have c0:l.any isLF=false:=Bool.eq_false_iff.mpr c
  refine ⟨_,rfl,rfl,?_⟩
  have ed:(("-":Str))=S [45]:=by decide +kernel
  have e2:decide (V.str (S l)=V.str "-")=l.any (·==45):=by
   rw [ed]
   rcases Vb hl with rfl | ⟨b,rfl⟩
   ·rw [decide_eq_false (by intro z;injection z with z;have:=Xf z;cases this)];rfl
   ·by_cases hc:b=45
    ·subst hc;simp
    ·rw [decide_eq_false (by intro z;injection z with z;have:=Xf z;injection this with this;exact hc this)]
     simp [hc]
  rw [ea,c0] at q
  show Q (.bl (decide (V.str (S l)=V.str "-"))) H
  rw [e2];simpa using q
def spLabel:Sp:=fun vs H Q _=>∃ l:List Nat,vs=[.str (S l)]∧l.length≤100000∧∀ H',Same H H'→Q (.bl (decide (1≤l.length)&&decide (l.length≤8)&&l.all YB)) H'
theorem Ybd {n:Nat} (h:n≤1000000):n≤sizeLine:=Nat.le_trans h (by decide)
theorem YbY:FnScope ["text"] ["text"] (Yg Yah):=⟨rfl,rfl,rfl,by decide +kernel,rfl,by decide +kernel,by decide +kernel⟩
theorem ok_label (R:g.Raw "is_label" "is_label" Yah ["text"]) (F1:g.Fn 1 "is_small_letter" ["sign"] (spSign YB)) (c1:g.Con "LONGEST_LABEL" (.int 8)) (bl:g.mg "len"=none) (ba:g.mg "all"=none) :
  g.Fn 2 "is_label" ["text"] spLabel:=by
 refine R.fn YbY (fun vs H Q E h=>by obtain ⟨l,rfl,_⟩:=h;rfl) fun f cdv A outer s H vs Q E hr h=>?_
 obtain ⟨l,rfl,hl,q⟩:=h
 refine ⟨_,Ye (Yj (VU (X9 XV XV Yh (Xe bl Xb (Ya (pv 0) Yc)) (WF c1))
  (Wl (Xe ba (X6 rfl) (Ya (Ya4 (src:=[none]) (N':=["sign"]) (.own .nil) rfl (V5 (pv 0))
   (fun cl C s₀ H₀ fp pn=>Xt (i:=0) (show List.Nodup (["sign"]:List Str) by decide +kernel) rfl (.inl rfl)) (fun cl C s₀ H₀ fp pn=>WE) (fun cl C s₀ H₀ fp pn=>YR F1 hr (Ya (pv 0) Yc)) (by intro x hx;simp at hx)) Yc))))),?_⟩
 have hlen:(S l).length=l.length:=Yx l
 refine ⟨_,rfl,_,rfl,by rw [hlen];exact Ybd (by omega),_,_,rfl,rfl,_,rfl,?_⟩
 rw [hlen]
 refine Yw (fun c=>?_) (fun c=>?_)
 ·have c':(1:Int)≤l.length:=of_decide_eq_true c
  refine ⟨_,_,rfl,rfl,_,rfl,?_⟩
  refine Yw (fun d=>?_) (fun d=>?_)
  ·have d':(l.length:Int)≤8:=of_decide_eq_true d
   refine ⟨_,rfl,S l,rfl,fun D hD=>?_⟩
   refine Qj (src:=[none]) (VG (S l) (fun _=>True)) (fun i ys σ' H'=>ys=(l.take i).map (fun c=>V.bl (YB c))∧σ'.length=1∧Same H H'∧H' D=some (.lst ys)) ⟨by simp,rfl,.upd_new hD _,Yf⟩ (fun i ys σ' H' p=>⟨trivial,p.2.2.2⟩) (Wd 0) ?_ ?_
   ·rintro i ys σ' H' x hx ⟨rfl,hσ,sm,hd⟩
    rw [YN,List.getElem?_map] at hx
    cases e:l[i]? with
    | none=>rw [e] at hx;simp at hx
    | some c =>
     rw [e] at hx
     have hx':V.str ⟨#[c]⟩=x:=by simpa using hx
     subst hx'
     match σ',hσ with
     | [o],_ =>
      refine ⟨_,rfl,[c],rfl,by simp,hd,?_,?_⟩
      ·simp
       have:=(List.getElem?_eq_some_iff.mp e).1
       have h6:1000<sizeLine:=by decide
       omega
      ·refine ⟨?_,rfl,.upd_over hD sm _,Yf⟩
       obtain ⟨hi,hc⟩:=List.getElem?_eq_some_iff.mp e
       rw [List.take_succ_eq_append_getElem hi,hc]
       simp
   ·rintro ys σ' H' ⟨rfl,hσ,sm,hd⟩
    refine ⟨D,l.map YB,rfl,SqL.of ?_,?_⟩
    ·rw [hd,YN]
     simp [List.map_map]
    ·have e:((l.map YB).all id)=l.all YB:=by simp [List.all_map]
     rw [e]
     have:=q H' sm
     rw [decide_eq_true (show 1≤l.length by omega),decide_eq_true (show l.length≤8 by omega)] at this
     simpa using this
  ·have d':¬ (l.length:Int)≤8:=of_decide_eq_false (Bool.eq_false_iff.mpr d)
   have:=q H (.refl H)
   rw [decide_eq_false (show ¬ l.length≤8 by omega)] at this
   simpa using this
 ·have c':¬ (1:Int)≤l.length:=of_decide_eq_false (Bool.eq_false_iff.mpr c)
  refine ⟨_,rfl,WO ?_⟩
  have:=q H (.refl H)
  rw [decide_eq_false (show ¬ 1≤l.length by omega)] at this
  simpa using this
end Rd
namespace Rd
def fl (t:List Nat) (i:Nat):List (Str×V):=[("text",.str (S t)),("place",.int i)]
theorem ntp:¬ (("text":Str)="place"):=by decide +kernel
theorem Vp (t:List Nat) (i:Nat):(fl t i).lookup ("text":Str)=some (.str (S t)):=rfl
theorem Xk (t:List Nat) (i:Nat):(fl t i).lookup ("place":Str)=some (.int i):=by
 show List.lookup ("place":Str) [(("text":Str),V.str (S t)),(("place":Str),V.int i)]=_
 have h:(("place":Str)==("text":Str))=false:=by decide +kernel
 rw [List.lookup_cons,h,List.lookup_cons]
 simp
theorem Qp (t:List Nat) (i:Nat) {m:Str} (h1:(m==("text":Str))=false) (h2:(m==("place":Str))=false):(fl t i).lookup m=none:=by
 show List.lookup m [(("text":Str),V.str (S t)),(("place":Str),V.int i)]=_
 rw [List.lookup_cons,h1,List.lookup_cons,h2]
 rfl
theorem Yak (t:List Nat) (i j:Nat):YS "place" (.int j) (fl t i)=fl t j:=by
 show (if ("text":Str)="place" then _ else (("text":Str),V.str (S t))::(if ("place":Str)="place" then [(("place":Str),V.int j)] else _))=_
 rw [if_neg ntp,if_pos rfl]
 rfl
theorem YcD (t:List Nat):YS "place" (.int 0) (YS "text" (.str (S t)) [])=fl t 0:=by
 show (if ("text":Str)="place" then _ else (("text":Str),V.str (S t))::YS "place" (V.int 0) [])=_
 rw [if_neg ntp]
 rfl
structure Txt (g:Gx) (C:Addr):Prop where
 cl:Cls g.K C
 nT:YF g.K C "text"
 nP:YF g.K C "place"
def At (C:Addr) (H:Hp) (p dx:Addr) (t:List Nat) (i:Nat):Prop:=H p=some (.ins C dx (fl t i))
abbrev mv (C:Addr) (H:Hp) (p dx:Addr) (t:List Nat) (i:Nat):Hp:=upd H p (.ins C dx (fl t i))
def spInit (C:Addr):Sp:=fun vs H Q _=>∃ (p dx:Addr) (t:List Nat),vs=[.ref p,.str (S t)]∧H p=some (.ins C dx [])∧Q .non (mv C H p dx t 0)
def Ui (C:Addr):Sp:=fun vs H Q _=>∃ (p dx:Addr) (t:List Nat) (i:Nat),vs=[.ref p]∧At C H p dx t i∧t.length≤2000∧Q (.str (S ((t.drop i).take 1))) H
def spTakes (C:Addr):Sp:=fun vs H Q _=>∃ (p dx:Addr) (t:List Nat) (i c:Nat),vs=[.ref p,.str (S [c])]∧At C H p dx t i∧t.length≤2000∧((t.drop i).head?=some c→Q (.bl true) (mv C H p dx t (i+1)))∧((t.drop i).head?≠some c→Q (.bl false) H)
def spWord (C:Addr):Sp:=fun vs H Q _=>∃ (p dx:Addr) (t:List Nat) (i:Nat) (w r:List Nat),vs=[.ref p]∧At C H p dx t i∧t.length≤2000∧t.drop i=w++r∧(∀ c∈w,isWS c=true)∧(∀ c,r.head?=some c→isWS c=false)∧Q (.str (S w)) (mv C H p dx t (i+w.length))
def spEnd (C:Addr):Sp:=fun vs H Q _=>∃ (p dx:Addr) (t:List Nat) (i:Nat),vs=[.ref p]∧At C H p dx t i∧t.length≤2000∧Q (.bl (decide (i=t.length))) H
variable {C:Addr}
theorem Uj {n:Nat} (h:n≤2000):n≤sizeLine:=Ybd (by omega)
theorem YcE:FnScope ["self","text"] ["self","text"] (Yg Yba):=⟨rfl,rfl,rfl,by decide +kernel,rfl,by decide +kernel,by decide +kernel⟩
theorem ok_init (T:Txt g C) (R:g.RawI "NoteReader" C "NoteReader.__init__" Yba ["self","text"]):g.Ma 1 "NoteReader" C ["self","text"] (spInit C):=by
 refine R.ma YcE (fun vs H Q E h=>by obtain ⟨p,dx,t,rfl,_⟩:=h;rfl) fun f cdv A outer s H vs Q E hr h=>?_
 obtain ⟨p,dx,t,rfl,hp,q⟩:=h
 refine ⟨_,Yd (QS (pv 0) (pv 1) rfl) (Ye (QS (pv 0) Yh rfl)),?_⟩
 refine ⟨_,rfl,_,rfl,p,C,dx,[],rfl,hp,T.cl,T.nT,(by show 0<1000;decide),_,rfl,p,C,dx,_,rfl,Yf,T.cl,T.nP,(by show 1<1000;decide),?_⟩
 show Q .non (upd (upd H p _) p _)
 rw [UJ,YcD]
 exact q
theorem YcF:FnScope ["self"] ["self"] (Yg Ybb):=⟨rfl,rfl,rfl,by decide +kernel,rfl,by decide +kernel,by decide +kernel⟩
theorem ok_here (T:Txt g C) (R:g.RawM C "sign_here" "NoteReader.sign_here" Ybb ["self"]):g.Me 1 C "sign_here" ["self"] (Ui C):=by
 refine R.me YcF (fun vs H Q E h=>by obtain ⟨p,dx,t,i,rfl,_⟩:=h;rfl) fun f cdv A outer s H vs Q E hr h=>?_
 obtain ⟨p,dx,t,i,rfl,hp,ht,q⟩:=h
 refine ⟨_,Ye (Yj (WM V4 (Xz (pv 0) rfl) (X4 (Xz (pv 0) rfl)) (X4 (Yn QN (Xz (pv 0) rfl) Yh)))),?_⟩
 refine ⟨_,rfl,p,C,dx,_,_,rfl,hp,T.cl,T.nT,Vp t i,_,rfl,p,C,dx,_,_,rfl,hp,T.cl,T.nP,Xk t i,_,rfl,_,rfl,p,C,dx,_,_,rfl,hp,T.cl,T.nP,Xk t i,_,_,rfl,rfl,_,rfl,_,rfl,by rw [Yx];exact Uj ht,?_⟩
 have e:=V7 t i (i+1)
 rw [Nat.add_sub_cancel_left] at e
 show Q (.str (XS (S t) (some (i:Int)) (some ((i:Int)+1)))) H
 rw [show ((i:Int)+1)=((i+1:Nat):Int) by omega,e]
 exact q
theorem VI (l:List Nat) (c:Nat):(l.take 1=[c])↔l.head?=some c:=by
 cases l with
 | nil=>simp
 | cons a l=>simp
theorem YbZ:FnScope ["self","sign"] ["self","sign"] (Yg Yai):=⟨rfl,rfl,rfl,by decide +kernel,rfl,by decide +kernel,by decide +kernel⟩
theorem ok_takes (T:Txt g C) (R:g.RawM C "takes" "NoteReader.takes" Yai ["self","sign"]) (F1:g.Me 1 C "sign_here" ["self"] (Ui C)):g.Me 2 C "takes" ["self","sign"] (spTakes C):=by
 refine R.me YbZ (fun vs H Q E h=>by obtain ⟨p,dx,t,i,c,rfl,_⟩:=h;rfl) fun f cdv A outer s H vs Q E hr h=>?_
 obtain ⟨p,dx,t,i,c,rfl,hp,ht,q1,q2⟩:=h
 refine ⟨_,Yd (Yt (Yp WB (Wq F1 T.cl hr (pv 0)) (pv 1) (Yr _)) (Ye (Yj WW)) Yk) (Yd (Vz (pv 0) Yh QT) (Ye (Yj WW))),?_⟩
 refine ⟨_,rfl,p,dx,_,rfl,hp,Qp t i (by decide +kernel) (by decide +kernel),p,dx,t,i,rfl,hp,ht,_,rfl,rfl,_,rfl,?_⟩
 by_cases hc:(t.drop i).head?=some c
 ·have e:(t.drop i).take 1=[c]:=(VI _ _).mpr hc
  rw [e]
  refine iteNS rfl ?_
  refine ⟨_,rfl,p,C,dx,_,_,rfl,hp,T.cl,T.nP,Xk t i,_,_,rfl,rfl,dx,_,hp,(by show 2<1000;decide),?_⟩
  show Q (.bl true) (upd H p (.ins C dx (YS "place" (.int ((i:Int)+1)) (fl t i))))
  rw [show ((i:Int)+1)=((i+1:Nat):Int) by omega,Yak]
  exact q1 hc
 ·have e:¬ V.str (S ((t.drop i).take 1))=V.str (S [c]):=fun z=>by
   injection z with z
   exact hc ((VI _ _).mp (Xf z))
  rw [decide_eq_false e]
  exact q2 hc
theorem drop_more {t w r:List Nat} {i:Nat} (h:t.drop i=w++r):t.drop (i+w.length)=r:=by
 rw [← List.drop_drop,h]
 simp
theorem Yal:FnScope ["self","begin"] ["self"] (Yg Ybc):=⟨rfl,rfl,rfl,by decide +kernel,rfl,by decide +kernel,by decide +kernel⟩
theorem ok_word (T:Txt g C) (R:g.RawM C "word_signs" "NoteReader.word_signs" Ybc ["self"]) (F1:g.Me 1 C "sign_here" ["self"] (Ui C)) (F2:g.Fn 3 "is_word_sign" ["sign"] (spSign isWS)):g.Me 4 C "word_signs" ["self"] (spWord C):=by
 refine R.me Yal (fun vs H Q E h=>by obtain ⟨p,dx,t,i,w,r,rfl,_⟩:=h;rfl) fun f cdv A outer s H vs Q E hr h=>?_
 obtain ⟨p,dx,t,i,w,r,rfl,hp,ht,hd,hw,hr',q⟩:=h
 refine ⟨_,Yd (Ym (i:=1) Yal.nd rfl (.inl rfl) (Xz (pv 0) rfl)) (Yd (VV PassesOwn.never (Y1 (YR F2 hr (Ya (Wq F1 T.cl hr (pv 0)) Yc))) (Ye (Vz (pv 0) Yh QT)))
  (Ye (Yj (WM V4 (Xz (pv 0) rfl) (X4 (pv 1)) (X4 (Xz (pv 0) rfl)))))),?_⟩
 refine ⟨_,rfl,p,C,dx,_,_,rfl,hp,T.cl,T.nP,Xk t i,?_⟩
 -- the loop: k signs of w are Vh
 refine ⟨fun m σ H'=>∃ k,k+m=w.length∧σ=[some (.ref p),some (.int i)]∧H'=mv C H p dx t (i+k),⟨w.length,0,by omega,rfl,?_⟩,?_⟩
 ·exact (Ycy hp).symm
 rintro m σ H' ⟨k,hk,rfl,rfl⟩
 have hdk:t.drop (i+k)=w.drop k++r:=by
  rw [← List.drop_drop,hd,List.drop_append_of_le_length (by omega)]
 refine ⟨_,rfl,p,dx,_,rfl,Yf,Qp t (i+k) (by decide +kernel) (by decide +kernel),p,dx,t,i+k,rfl,Yf,ht,_,rfl,by rw [List.length_take];omega,_,rfl,?_⟩
 by_cases hm:m=0
 ·-- the end
  have hkw:w.drop k=[]:=List.drop_eq_nil_of_le (by omega)
  have e:((t.drop (i+k)).take 1).any isWS=false:=by
   rw [hdk,hkw,List.nil_append]
   cases r with
   | nil=>rfl
   | cons a r=>simp [hr' a rfl]
  rw [e]
  refine WO ?_
  have hk':k=w.length:=by omega
  subst hk'
  refine ⟨_,rfl,p,C,dx,_,_,rfl,Yf,T.cl,T.nT,Vp t _,_,rfl,_,rfl,_,rfl,p,C,dx,_,_,rfl,Yf,T.cl,T.nP,Xk t _,_,rfl,_,rfl,by rw [Yx];exact Uj ht,?_⟩
  have e2:=V7 t i (i+w.length)
  rw [Nat.add_sub_cancel_left,hd,List.take_left] at e2
  rw [e2]
  exact q
 ·have hlt:k<w.length:=by omega
  have e0:w.drop k=w[k]::w.drop (k+1):=List.drop_eq_getElem_cons hlt
  have e:((t.drop (i+k)).take 1).any isWS=true:=by
   rw [hdk,e0]
   show (isWS w[k]||false)=true
   rw [hw w[k] (List.getElem_mem hlt)]
   rfl
  rw [e]
  refine Qh ?_
  refine ⟨fun σ' H'=>σ'=[some (.ref p),some (.int i)]∧H'=mv C H p dx t (i+(k+1)),fun σ' H' ⟨e1,e2⟩=>⟨m - 1,by omega,k+1,by omega,e1,e2⟩,?_⟩
  refine ⟨_,rfl,p,C,dx,_,_,rfl,Yf,T.cl,T.nP,Xk t _,_,_,rfl,rfl,dx,_,Yf,(by show 2<1000;decide),rfl,?_⟩
  show upd (upd H p _) p (.ins C dx (YS "place" (.int (((i+k:Nat):Int)+1)) (fl t (i+k))))=_
  rw [UJ,show (((i+k:Nat):Int)+1)=((i+(k+1):Nat):Int) by omega,Yak]
theorem scEnd:FnScope ["self"] ["self"] (Yg sEnd):=⟨rfl,rfl,rfl,by decide +kernel,rfl,by decide +kernel,by decide +kernel⟩
theorem ok_end (T:Txt g C) (R:g.RawM C "at_end" "NoteReader.at_end" sEnd ["self"]) (bl:g.mg "len"=none):g.Me 1 C "at_end" ["self"] (spEnd C):=by
 refine R.me scEnd (fun vs H Q E h=>by obtain ⟨p,dx,t,i,rfl,_⟩:=h;rfl) fun f cdv A outer s H vs Q E hr h=>?_
 obtain ⟨p,dx,t,i,rfl,hp,ht,q⟩:=h
 refine ⟨_,Ye (Yj (Xm YQ (Xz (pv 0) rfl) (Xe bl Xb (Ya (Xz (pv 0) rfl) Yc)) (Yr _))),?_⟩
 refine ⟨_,rfl,p,C,dx,_,_,rfl,hp,T.cl,T.nP,Xk t i,_,rfl,p,C,dx,_,_,rfl,hp,T.cl,T.nT,Vp t i,_,rfl,by rw [Yx];exact Uj ht,rfl,?_⟩
 have e:decide (V.int (i:Int)=V.int ((S t).length:Nat))=decide (i=t.length):=by
  rw [Yx]
  by_cases h:i=t.length
  ·subst h;simp
  ·rw [decide_eq_false h,decide_eq_false]
   intro z;injection z with z;omega
 show Q (.bl (decide (V.int (i:Int)=V.int ((S t).length:Nat)))) H
 rw [e]
 exact q
end Rd
namespace Rd
mutual
def NoteAt (H:Hp):Note→V→Prop
 | .leaf l w,v=>∃ a,v = .ref a∧H a=some (.tup [.str (S l),.str (S w),.non])
 | .node l w ks,v=>∃ a b vs,v = .ref a∧H a=some (.tup [.str (S l),.str (S w),.ref b])∧H b=some (.tup vs)∧NotesAt H ks vs
def NotesAt (H:Hp):Notes→List V→Prop
 | .nil,vs=>vs=[]
 | .cons n r,vs=>∃ v us,vs=v::us∧NoteAt H n v∧NotesAt H r us
end
def Tups (H H':Hp):Prop:=∀ b xs,H b=some (.tup xs)→H' b=some (.tup xs)
theorem Same.tups {H H':Hp} (h:Same H H'):Tups H H':=fun b xs e=>h b _ e
mutual
theorem NoteAt.keep {H H':Hp} (h:Tups H H'):∀ {n:Note} {v:V},NoteAt H n v→NoteAt H' n v
 | .leaf l w,v,⟨a,e,q⟩=>⟨a,e,h a _ q⟩
 | .node l w ks,v,⟨a,b,vs,e,q,q',r⟩=>⟨a,b,vs,e,h a _ q,h b _ q',NotesAt.keep h r⟩
theorem NotesAt.keep {H H':Hp} (h:Tups H H'):∀ {ns:Notes} {vs:List V},NotesAt H ns vs→NotesAt H' ns vs
 | .nil,vs,e=>e
 | .cons n r,vs,⟨v,us,e,q,q'⟩=>⟨v,us,e,NoteAt.keep h q,NotesAt.keep h q'⟩
end
theorem NotesAt.snoc {H:Hp}:∀ {ns:Notes} {vs:List V} {n:Note} {v:V},NotesAt H ns vs→NoteAt H n v→NotesAt H (ns.snoc n) (vs++[v])
 | .nil,vs,n,v,e,h=>by subst e;exact ⟨v,[],rfl,h,rfl⟩
 | .cons m r,vs,n,v,⟨u,us,e,q,q'⟩,h=>by subst e;exact ⟨u,us++[v],rfl,q,q'.snoc h⟩
theorem NotesAt.length {H:Hp}:∀ {ns:Notes} {vs:List V},NotesAt H ns vs→vs.length=ns.len
 | .nil,vs,e=>by subst e;rfl
 | .cons m r,vs,⟨u,us,e,q,q'⟩=>by subst e;exact congrArg (·+1) q'.length
theorem mvk {C:Addr} {H:Hp} {p dx:Addr} {t:List Nat} {i:Nat} {b:Addr} {o:HO} (h:b≠p) (e:H b=some o):mv C H p dx t i b=some o:=by
 show upd H p _ b=some o
 rw [Yl h];exact e
def But (p:Addr) (H H':Hp):Prop:=∀ b o,b≠p→H b=some o→H' b=some o
theorem But.refl (p:Addr) (H:Hp):But p H H:=fun _ _ _ e=>e
theorem But.trans {p:Addr} {H H1 H2:Hp} (a:But p H H1) (b:But p H1 H2):But p H H2:=fun c o n e=>b c o n (a c o n e)
theorem But.mv {p:Addr} {H H1:Hp} (a:But p H H1) (o:HO):But p H (upd H1 p o):=fun c u n e=>by rw [Yl n];exact a c u n e
theorem But.new {p q:Addr} {H H1:Hp} (a:But p H H1) (o:HO) (h:H1 q=none):But p H (upd H1 q o):=fun c u n e=>by
 have e1:=a c u n e
 rw [Yl (Yq e1 h)]
 exact e1
theorem But.tups {C dx:Addr} {p:Addr} {H H':Hp} {t:List Nat} {i:Nat} (a:But p H H') (hp:At C H p dx t i):Tups H H':=fun b xs e=>a b _ (WA e hp (by intro z;cases z)) e
theorem But.free {p:Addr} {H H':Hp} {q:Addr} (a:But p H H') (n:q≠p) (h:H' q=none):H q=none:=by
 cases e:H q with
 | none=>rfl
 | some o=>rw [a q o n e] at h;cases h
end Rd
namespace Rd
def wordOk (w:List Nat):Bool:=decide (1≤w.length)&&decide (w.length≤62)
def labOk (l:List Nat):Bool:=decide (1≤l.length)&&decide (l.length≤8)&&l.all YB
def mkN (l w:List Nat):Option Notes→Note
 | none => .leaf l w
 | some ks => .node l w ks
abbrev PL:=List Nat→Option (Note×List Nat)
abbrev PB:=List Nat→Option (Option Notes×List Nat)
def pMore (pl:PL):Nat→Notes→List Nat→Option (Notes×List Nat)
 | 0,_,_=>none
 | f+1,acc,r=>if r.head?=some 44 then (match pl (r.drop 1) with
   | some (n,r')=>pMore pl f (acc.snoc n) r'
   | none=>none) else some (acc,r)
def pClose:Option (Notes×List Nat)→Option (Option Notes×List Nat)
 | none=>none
 | some (ks,r)=>if r.head?=some 41 then some (some ks,r.drop 1) else none
def pIn (pl:PL) (r:List Nat):Option (Option Notes×List Nat):=match pl r with
 | none=>none
 | some (n,r1)=>pClose (pMore pl (r1.length+1) (.cons n .nil) r1)
def pB (pl:PL):PB:=fun r=>if r.head?=some 40 then (if (r.drop 1).head?=some 41 then some (some .nil,r.drop 2) else pIn pl (r.drop 1)) else some (none,r)
def pPut (l w:List Nat):Option (Option Notes×List Nat)→Option (Note×List Nat)
 | none=>none
 | some (b,r)=>some (mkN l w b,r)
def pW (pb:PB) (l w r:List Nat):Option (Note×List Nat):=if wordOk w=true then pPut l w (pb r) else none
def pL (pb:PB):PL:=fun r=>if (r.dropWhile isWS).head?=some 58 then (if labOk (r.takeWhile isWS)=true then pW pb (r.takeWhile isWS) (((r.dropWhile isWS).drop 1).takeWhile isWS) (((r.dropWhile isWS).drop 1).dropWhile isWS) else none) else pW pb [] (r.takeWhile isWS) (r.dropWhile isWS)
def pbn:Nat→PB
 | 0=>pB (fun _=>none)
 | d+1=>pB (pL (pbn d))
def pln (d:Nat):PL:=pL (pbn d)
def Bal (c:List Nat):Prop:=∀ D,endD D c=D
theorem Bal.nil:Bal []:=fun _=>rfl
theorem Bal.app {a b:List Nat} (h:Bal a) (h':Bal b):Bal (a++b):=fun D=>by rw [endD_append,h,h']
theorem Bal.one {c:Nat} (h1:c≠40) (h2:c≠41):Bal [c]:=fun D=>by
 show stepD D c=D
 simp [stepD,h1,h2]
theorem Bal.ws:∀ {w:List Nat},(∀ c∈w,isWS c=true)→Bal w
 | [],_=>Bal.nil
 | c::w,h=>by
  obtain ⟨a,b,_⟩:=Wh (h c (by simp))
  exact Bal.app (a:=[c]) (Bal.one a b) (Bal.ws fun x hx=>h x (by simp [hx]))
theorem Bal.br {c:List Nat} (h:Bal c):Bal (40::(c++[41])):=fun D=>by
 show endD (stepD D 40) (c++[41])=D
 rw [endD_append,h]
 show stepD (stepD D 40) 41=D
 simp [stepD]
def Sx (r0 r:List Nat):Prop:=∃ c,r0=c++r∧Bal c
theorem Sx.refl (r:List Nat):Sx r r:=⟨[],rfl,Bal.nil⟩
theorem Sx.trans {a b c:List Nat} (h:Sx a b) (h':Sx b c):Sx a c:=by
 obtain ⟨x,rfl,hx⟩:=h
 obtain ⟨y,rfl,hy⟩:=h'
 exact ⟨x++y,by simp,hx.app hy⟩
theorem Sx.len {a b:List Nat} (h:Sx a b):b.length≤a.length:=by
 obtain ⟨x,rfl,_⟩:=h
 simp
theorem okD_right:∀ {a b:List Nat} {d:Int},okD d (a++b)→okD (endD d a) b
 | [],b,d,h=>h
 | c::a,b,d,h=>okD_right (a:=a) h.2
theorem Sx.ok {a b:List Nat} {d:Int} (h:Sx a b) (o:okD d a):okD d b:=by
 obtain ⟨x,rfl,hx⟩:=h
 have:=okD_right o
 rwa [hx] at this
theorem hd_eq {r:List Nat} {c:Nat} (h:r.head?=some c):r=c::r.drop 1:=by
 cases r with
 | nil=>cases h
 | cons a r=>cases h;rfl
theorem Sx.drop {r:List Nat} {c:Nat} (h:r.head?=some c) (h1:c≠40) (h2:c≠41):Sx r (r.drop 1):=⟨[c],hd_eq h,Bal.one h1 h2⟩
theorem Sx.ws (r:List Nat):Sx r (r.dropWhile isWS):=⟨r.takeWhile isWS,by simp,Bal.ws fun c hc=>by
 have:=List.all_takeWhile (l:=r) (p:=isWS)
 exact List.all_eq_true.mp this c hc⟩
def Qq (pl:PL):Prop:=∀ r n r',pl r=some (n,r')→Sx r r'
theorem Uk {pl:PL} (g:Qq pl):∀ {f:Nat} {acc ks:Notes} {r r':List Nat},pMore pl f acc r=some (ks,r')→Sx r r'
 | 0,_,_,_,_,h=>by cases h
 | f+1,acc,ks,r,r',h=>by
  rw [pMore] at h
  by_cases c:r.head?=some 44
  ·rw [if_pos c] at h
   cases e:pl (r.drop 1) with
   | none=>rw [e] at h;cases h
   | some z =>
    obtain ⟨n,r1⟩:=z
    rw [e] at h
    exact ((Sx.drop c (by decide) (by decide)).trans (g _ _ _ e)).trans (Uk g h)
  ·rw [if_neg c] at h
   cases h
   exact Sx.refl _
theorem Ybe {pl:PL} (g:Qq pl) {r r':List Nat} {b:Option Notes} (h:pB pl r=some (b,r')):Sx r r':=by
 unfold pB at h
 by_cases c:r.head?=some 40
 ·rw [if_pos c] at h
  have e:=hd_eq c
  by_cases c1:(r.drop 1).head?=some 41
  ·rw [if_pos c1] at h
   cases h
   have e1:=hd_eq c1
   rw [List.drop_drop] at e1
   exact ⟨40::([]++[41]),by rw [e,e1];rfl,Bal.br Bal.nil⟩
  ·rw [if_neg c1] at h
   unfold pIn at h
   cases e2:pl (r.drop 1) with
   | none=>rw [e2] at h;cases h
   | some z =>
    obtain ⟨n,r1⟩:=z
    rw [e2] at h
    dsimp only at h
    cases e3:pMore pl (r1.length+1) (.cons n .nil) r1 with
    | none=>rw [e3] at h;cases h
    | some y =>
     obtain ⟨ks,r2⟩:=y
     rw [e3] at h
     unfold pClose at h
     dsimp only at h
     by_cases c3:r2.head?=some 41
     ·rw [if_pos c3] at h
      cases h
      obtain ⟨x,e4,hx⟩:=(g _ _ _ e2).trans (Uk g e3)
      refine ⟨40::(x++[41]),?_,hx.br⟩
      rw [e,e4,hd_eq c3]
      simp
     ·rw [if_neg c3] at h;cases h
 ·rw [if_neg c] at h
  cases h
  exact Sx.refl _
theorem Ybf {pb:PB} (g:∀ r b r',pb r=some (b,r')→Sx r r'):Qq (pL pb):=by
 intro r n r' h
 have w:∀ {l w x:List Nat},pW pb l w x=some (n,r')→Sx x r':=fun {l w x} h=>by
  unfold pW at h
  by_cases c:wordOk w=true
  ·rw [if_pos c] at h
   cases e:pb x with
   | none=>rw [e] at h;cases h
   | some z =>
    obtain ⟨b,r1⟩:=z
    rw [e] at h
    cases h
    exact g _ _ _ e
  ·rw [if_neg c] at h;cases h
 unfold pL at h
 by_cases c:(r.dropWhile isWS).head?=some 58
 ·rw [if_pos c] at h
  by_cases c1:labOk (r.takeWhile isWS)=true
  ·rw [if_pos c1] at h
   exact (((Sx.ws r).trans (Sx.drop c (by decide) (by decide))).trans (Sx.ws _)).trans (w h)
  ·rw [if_neg c1] at h;cases h
 ·rw [if_neg c] at h
  exact (Sx.ws r).trans (w h)
theorem Yam:∀ (d:Nat) r b r',pbn d r=some (b,r')→Sx r r'
 | 0,r,b,r',h=>Ybe (pl:=fun _=>none) (fun _ _ _ h=>by cases h) h
 | d+1,r,b,r',h=>Ybe (Ybf (Yam d)) h
theorem pln_sx (d:Nat):Qq (pln d):=Ybf (Yam d)
def pAll:Option (Note×List Nat)→Option Note
 | some (n,[])=>some n
 | _=>none
def parse (t:List Nat):Option Note:=pAll (pln 6 t)
def spLNx (C CN:Addr) (m:Nat):Sp:=fun vs H Q E=>∃ (p dx:Addr) (t:List Nat) (i d:Nat),vs=[.ref p]∧m=d+1∧d≤6∧At C H p dx t i∧i≤t.length∧t.length≤2000∧okD (6 - (d:Int)) (t.drop i) ∧
 (∀ n r v H',pln d (t.drop i)=some (n,r)→NoteAt H' n v→At C H' p dx t (t.length - r.length)→But p H H'→Q v H')∧(pln d (t.drop i)=none→∀ H',But p H H'→E (.ref CN) none H')
def spBNx (C CN:Addr) (m:Nat):Sp:=fun vs H Q E=>∃ (p dx:Addr) (t:List Nat) (i:Nat),vs=[.ref p]∧m≤6∧At C H p dx t i∧i≤t.length∧t.length≤2000∧okD (6 - (m:Int)) (t.drop i) ∧
 (∀ r H',pbn m (t.drop i)=some (none,r)→At C H' p dx t (t.length - r.length)→But p H H'→Q .non H') ∧
 (∀ ks r b vs H',pbn m (t.drop i)=some (some ks,r)→H' b=some (.tup vs)→NotesAt H' ks vs→At C H' p dx t (t.length - r.length)→But p H H'→Q (.ref b) H')∧(pbn m (t.drop i)=none→∀ H',But p H H'→E (.ref CN) none H')
theorem no_ln {C CN:Addr} {vs:List V} {H:Hp} {Q:VK} {E:XK} (h:spLNx C CN 0 vs H Q E):False:=by
 obtain ⟨p,dx,t,i,d,_,h,_⟩:=h
 omega
theorem noat (m:Str) (t:List Nat) (i:Nat) (h1:(m==("text":Str))=false:=by decide +kernel) (h2:(m==("place":Str))=false:=by decide +kernel):(fl t i).lookup m=none:=Qp t i h1 h2
theorem ws_parts:∀ r:List Nat,r=r.takeWhile isWS++r.dropWhile isWS∧(∀ c∈r.takeWhile isWS,isWS c=true)∧∀ c,(r.dropWhile isWS).head?=some c→isWS c=false:=fun r=>by
 refine ⟨List.takeWhile_append_dropWhile.symm,fun c hc=>List.all_eq_true.mp (List.all_takeWhile (l:=r) (p:=isWS)) c hc,?_⟩
 induction r with
 | nil=>intro c h;cases h
 | cons x r ih =>
  intro c h
  by_cases hx:isWS x=true
  ·rw [List.dropWhile_cons_of_pos hx] at h
   exact ih c h
  ·rw [List.dropWhile_cons_of_neg hx] at h
   cases h
   simpa using hx
theorem drop_at {t r:List Nat} {i:Nat} (hi:i≤t.length) (s:Sx (t.drop i) r):t.drop (t.length - r.length)=r:=by
 obtain ⟨c,e,_⟩:=s
 have h1:=congrArg List.length e
 rw [List.length_drop,List.length_append] at h1
 have h2:t.drop (i+c.length)=r:=by
  rw [← List.drop_drop,e,List.drop_left]
 rw [← h2]
 congr 1
 rw [h2]
 omega
end Rd
theorem Zc {k:Nat} {Z1 Z2 Z3 Z0:Addr} (R:g.RawM Z0 "labelled_note" "NoteReader.labelled_note" ZC ["self"]) (F_is_label:g.Fn k "is_label" ["text"] (Rd.spLabel)) (Zv:g.Me k Z0 "takes" ["self","sign"] (Rd.spTakes Z0)) (ZU:g.Me k Z0 "word_signs" ["self"] (Rd.spWord Z0)) (Z0w:g.MeX k Z0 "bracketed_notes" ["self"] (Rd.spBNx Z0 Z2 m)) (b_len:g.mg "len"=none) (Zw:g.Con "LONGEST_WORD" (.int 62)) (Z5:Cls g.K Z0) (Z7:YF g.K Z0 "text") (Z6:YF g.K Z0 "place") (x_NoNote:g.mg "NoNote"=some (.ref Z2)) (r_NoNote:PySem.W.excIn g.K Z2 Y2 "ValueError.__new__"=true):g.MeX (k+1) Z0 "labelled_note" ["self"] (Rd.spLNx Z0 Z2 (m+1)):=by
 refine R.meX Zi (fun vs H Q E h=>by obtain ⟨p,dx,t,i,d,rfl,hm,hd,hat,hi,hl,hok,q,qe⟩:=h;rfl) fun f_ cdv A outer s H vs Q E hr h=>?_
 obtain ⟨p,dx,t,i,d,rfl,hm,hd,hat,hi,hl,hok,q,qe⟩:=h
 refine ⟨_,(@Yd _ _ _ _ _ (PS.nox (@Ym _ _ (1) _ _ _ _ Zi.nd rfl (.inl rfl) Yb (by rfl) (by first | exact .inl rfl | exact .inr rfl | assumption))) (@Yd _ _ _ _ _ (PS.nox (@Ym _ _ (2) _ _ _ _ Zi.nd rfl (.inl rfl) (@Wq _ _ _ _ _ _ _ _ _ _ _ _ _ ZU Z5 hr (pv 0) (by omega) (by rfl) (by rfl)) (by rfl) (by first | exact .inl rfl | exact .inr rfl | assumption))) (@Yd _ _ _ _ _ (@Yt _ _ _ _ _ _ _ _ (@Y1 _ _ _ (@W4 _ _ _ _ _ _ _ _ _ _ _ _ _ _ _ _ Zv Z5 hr (pv 0) (@Ya _ _ _ _ _ Yb Yc (by rfl)) (by omega) (by rfl) (by rfl) (by rfl) (by rfl)) (by intro _;rfl)) (@Yd _ _ _ _ _ (PS.nox (@Ym _ _ (1) _ _ _ _ Zi.nd rfl (.inl rfl) (pv 2) (by rfl) (by first | exact .inl rfl | exact .inr rfl | assumption))) (@Yd _ _ _ _ _ (@Yt _ _ _ _ _ _ _ _ (@Xh _ _ _ _ (@Y1 _ _ _ (@YR _ _ _ _ _ _ _ _ _ _ _ _ F_is_label hr (@Ya _ _ _ _ _ (pv 1) Yc (by rfl)) (by omega) (by rfl) (by rfl) (by decide) (by rfl) (by rfl)) (by intro _;rfl))) (@Ye _ _ _ (@YE _ _ _ _ _ _ _ _ _ _ _ ⟨x_NoNote,r_NoNote⟩ YZ (@Ya _ _ _ _ _ Yb Yc (by rfl)) (by rfl) (by rfl) (by rfl) (by decide) (by rfl) (by rfl))) Yk) (@Ye _ _ _ (PS.nox (@Ym _ _ (2) _ _ _ _ Zi.nd rfl (.inl rfl) (@Wq _ _ _ _ _ _ _ _ _ _ _ _ _ ZU Z5 hr (pv 0) (by omega) (by rfl) (by rfl)) (by rfl) (by first | exact .inl rfl | exact .inr rfl | assumption)))))) Yk) (@Yd _ _ _ _ _ (@Yt _ _ _ _ _ _ _ _ (@Xh _ _ _ _ (@WL _ _ _ _ _ _ _ _ _ _ _ _ XV XV Yh (@Xe _ _ _ _ _ _ _ _ _ _ b_len Xb (@Ya _ _ _ _ _ (pv 2) Yc (by rfl)) (by decide +kernel) (by rfl) (by rfl) (by decide) (by decide) (by rfl) (by rfl)) (@WF _ _ _ _ _ Zw (by rfl) (by rfl) (by decide)) (by with_unfolding_all rfl))) (@Ye _ _ _ (@YE _ _ _ _ _ _ _ _ _ _ _ ⟨x_NoNote,r_NoNote⟩ YZ (@Ya _ _ _ _ _ Yb Yc (by rfl)) (by rfl) (by rfl) (by rfl) (by decide) (by rfl) (by rfl))) Yk) (@Ye _ _ _ (@Yj _ _ _ _ (@Y9 _ _ _ _ _ (@Ya _ _ _ _ _ (pv 1) (@Ya _ _ _ _ _ (pv 2) (@Ya _ _ _ _ _ (@WG _ _ _ _ _ _ _ _ _ _ _ _ _ _ Z0w Z5 hr YM (pv 0) (by omega) (by rfl) (by rfl)) Yc (by rfl)) (by rfl)) (by rfl))))))))),?_⟩
 obtain rfl:d=m:=by omega
 have s58:Str.ofString ":"=S [58]:=by decide +kernel
 have e0:Str.ofString ""=S []:=by decide +kernel
 refine cut3 (fun σ H1=>∃ (l w:List Nat) (i1:Nat),σ=[some (.ref p),some (.str (S l)),some (.str (S w))]∧Rd.At Z0 H1 p dx t i1∧Rd.But p H H1∧i1≤t.length∧w.length≤2000∧Rd.pln d (t.drop i)=Rd.pW (Rd.pbn d) l w (t.drop i1)∧Rd.Sx (t.drop i) (t.drop i1)) ?_ ?_
 rotate_left
 ·intro N hN
  obtain ⟨x1,x2,x3⟩:=Rd.ws_parts (t.drop i)
  have hp:Rd.pln d (t.drop i)=Rd.pL (Rd.pbn d) (t.drop i):=rfl
  unfold Rd.pL at hp
  have sx:=Rd.Sx.ws (t.drop i)
  generalize hw:(t.drop i).takeWhile Rd.isWS=w at *
  generalize hr1:(t.drop i).dropWhile Rd.isWS=r1 at *
  have hdr:t.drop (i+w.length)=r1:=Rd.drop_more x1
  have hlen:=congrArg List.length x1
  rw [List.length_drop,List.length_append] at hlen
  walk_at "rd"
  refine ⟨dx,_,hat,Rd.noat _ _ _,p,dx,t,i,w,r1,rfl,hat,hl,x1,x2,x3,?_⟩
  have hat1:Rd.At Z0 (Rd.mv Z0 H p dx t (i+w.length)) p dx t (i+w.length):=Yf
  have hb1:Rd.But p H (Rd.mv Z0 H p dx t (i+w.length)):=(Rd.But.refl p H).mv _
  refine ⟨dx,_,hat1,Rd.noat _ _ _,p,dx,t,_,58,by rw [s58],hat1,hl,fun c=>?_,fun c=>?_⟩
  ·rw [hdr] at c
   rw [if_pos c] at hp
   refine ⟨_,rfl,Qh ⟨w,rfl,by omega,fun H2 s2=>⟨_,rfl,?_⟩⟩⟩
   have hat2:=s2 _ _ (show Rd.At Z0 (Rd.mv Z0 (Rd.mv Z0 H p dx t (i+w.length)) p dx t (i+w.length+1)) p dx t (i+w.length+1) from Yf)
   have hb2:Rd.But p H H2:=(hb1.mv _).trans fun b o _ e=>s2 b o e
   refine Yw (fun cf=>⟨few (by decide),qe ?_ _ hb2⟩) fun cf=>?_
   ·rw [hp,if_neg]
    intro z
    have z':Rd.labOk w=false:=cf
    rw [z'] at z
    cases z
   ·have hlab:Rd.labOk w=true:=by
     cases z:Rd.labOk w with
     | true=>rfl
     | false=>exact (cf z).elim
    rw [if_pos hlab] at hp
    have hr2:t.drop (i+w.length+1)=r1.drop 1:=by rw [← List.drop_drop,hdr]
    obtain ⟨y1,y2,y3⟩:=Rd.ws_parts (r1.drop 1)
    have sx2:=(sx.trans (Rd.Sx.drop c (by decide) (by decide))).trans (Rd.Sx.ws (r1.drop 1))
    generalize hw2:(r1.drop 1).takeWhile Rd.isWS=w2 at *
    generalize hr3:(r1.drop 1).dropWhile Rd.isWS=r3 at *
    have y1':t.drop (i+w.length+1)=w2++r3:=by rw [hr2,y1]
    have hdr3:t.drop (i+w.length+1+w2.length)=r3:=Rd.drop_more y1'
    have hlen2:=congrArg List.length y1
    have h58:=congrArg List.length (Rd.hd_eq c)
    rw [List.length_cons] at h58
    rw [List.length_append] at hlen2
    refine ⟨dx,_,hat2,Rd.noat _ _ _,p,dx,t,_,w2,r3,rfl,hat2,hl,y1',y2,y3,hN _ _ ⟨w,w2,i+w.length+1+w2.length,rfl,Yf,hb2.mv _,by omega,by omega,?_,?_⟩⟩
    ·rw [hp,hdr3]
    ·rw [hdr3];exact sx2
  ·rw [hdr] at c
   rw [if_neg c] at hp
   refine ⟨_,rfl,WO (hN _ _ ⟨[],w,i+w.length,by rw [e0],hat1,hb1,by omega,by omega,?_,?_⟩)⟩
   ·rw [hp,hdr]
   ·rw [hdr];exact sx
 rintro σ H1 ⟨l,w,i1,rfl,hat1,hb1,hi1,hwl,hpl,sx⟩
 have hw1:(S w).length=w.length:=Yx w
 walk_at "rd"
 have bad:¬ (1≤w.length∧w.length≤62)→Rd.pln d (t.drop i)=none:=fun c=>by
  rw [hpl]
  unfold Rd.pW
  rw [if_neg]
  intro z
  exact c (by simpa [Rd.wordOk] using z)
 refine ⟨few (by omega),Yw (fun c1=>Yw (fun c2=>⟨few (by decide),qe (bad (by omega)) _ hb1⟩) fun c2=>?_) fun c1=>⟨few (by decide),qe (bad (by omega)) _ hb1⟩⟩
 have hpl2:Rd.pln d (t.drop i)=Rd.pPut l w (Rd.pbn d (t.drop i1)):=by
  rw [hpl]
  unfold Rd.pW
  rw [if_pos]
  have:1≤w.length∧w.length≤62:=by omega
  simpa [Rd.wordOk] using this
 refine ⟨dx,_,hat1,Rd.noat _ _ _,p,dx,t,i1,rfl,hd,hat1,hi1,hl,sx.ok hok,fun r H2 e ha hb=>⟨few (by decide),fun p1 hp1=>?_⟩,fun ks r b vs H2 e hbb hns ha hb=>⟨few (by decide),fun p1 hp1=>?_⟩,fun e H2 hb=>qe ?_ _ (hb1.trans hb)⟩
 ·exact q (.leaf l w) r _ _ (by rw [hpl2,e];rfl) ⟨p1,rfl,Yf⟩ ((Same.upd_new hp1 _) _ _ ha) ((hb1.trans hb).new _ hp1)
 ·exact q (.node l w ks) r _ _ (by rw [hpl2,e];rfl) ⟨p1,b,vs,rfl,Yf,(Same.upd_new hp1 _) _ _ hbb,hns.keep (Rd.Same.tups (.upd_new hp1 _))⟩ ((Same.upd_new hp1 _) _ _ ha) ((hb1.trans hb).new _ hp1)
 ·rw [hpl2,e];rfl
theorem Zb {k:Nat} {Z1 Z2 Z3 Z0:Addr} (R:g.RawM Z0 "bracketed_notes" "NoteReader.bracketed_notes" ZA ["self"]) (Zv:g.Me k Z0 "takes" ["self","sign"] (Rd.spTakes Z0)) (Zt:g.MeX k Z0 "labelled_note" ["self"] (Rd.spLNx Z0 Z2 m)) (Zj:g.mg "tuple"=none) (Z5:Cls g.K Z0) (Z7:YF g.K Z0 "text") (Z6:YF g.K Z0 "place") (x_NoNote:g.mg "NoNote"=some (.ref Z2)) (r_NoNote:PySem.W.excIn g.K Z2 Y2 "ValueError.__new__"=true):g.MeX (k+1) Z0 "bracketed_notes" ["self"] (Rd.spBNx Z0 Z2 m):=by
 refine R.meX ZI (fun vs H Q E h=>by obtain ⟨p,dx,t,i,rfl,hm,hat,hi,hl,hok,q1,q2,qe⟩:=h;rfl) fun f_ cdv A outer s H vs Q E hr h=>?_
 obtain ⟨p,dx,t,i,rfl,hm,hat,hi,hl,hok,q1,q2,qe⟩:=h
 refine ⟨_,(@Yd _ _ _ _ _ (PS.nox (@Yt _ _ _ _ _ _ _ _ (@Xh _ _ _ _ (@Y1 _ _ _ (@W4 _ _ _ _ _ _ _ _ _ _ _ _ _ _ _ _ Zv Z5 hr (pv 0) (@Ya _ _ _ _ _ Yb Yc (by rfl)) (by omega) (by rfl) (by rfl) (by rfl) (by rfl)) (by intro _;rfl))) (@Ye _ _ _ (@Yj _ _ _ _ XM)) Yk)) (@Yd _ _ _ _ _ (PS.nox (@Yt _ _ _ _ _ _ _ _ (@Y1 _ _ _ (@W4 _ _ _ _ _ _ _ _ _ _ _ _ _ _ _ _ Zv Z5 hr (pv 0) (@Ya _ _ _ _ _ Yb Yc (by rfl)) (by omega) (by rfl) (by rfl) (by rfl) (by rfl)) (by intro _;rfl)) (@Ye _ _ _ (@Yj _ _ _ _ (@Y9 _ _ _ _ _ Yc))) Yk)) (@Yd _ _ _ _ _ (@Ym _ _ (1) _ _ _ _ ZI.nd rfl (.inl rfl) (@YJ _ _ _ _ (@Ya _ _ _ _ _ (@WG _ _ _ _ _ _ _ _ _ _ _ _ _ _ Zt Z5 hr YM (pv 0) (by omega) (by rfl) (by rfl)) Yc (by rfl))) (by rfl) (by first | exact .inl rfl | exact .inr rfl | assumption)) (@Yd _ _ _ _ _ (@VV _ _ _ _ _ _ PassesOwn.leaving (@Y1 _ _ _ (@W4 _ _ _ _ _ _ _ _ _ _ _ _ _ _ _ _ Zv Z5 hr (pv 0) (@Ya _ _ _ _ _ Yb Yc (by rfl)) (by omega) (by rfl) (by rfl) (by rfl) (by rfl)) (by intro _;rfl)) (@Ye _ _ _ (@XG _ _ _ _ (@VP _ _ _ _ _ _ _ _ _ _ _ _ PySem.F.plainAttrs_list PySem.F.slot_list_append PySem.F.type_list_append XA (pv 1) (@Ya _ _ _ _ _ (@WG _ _ _ _ _ _ _ _ _ _ _ _ _ _ Zt Z5 hr YM (pv 0) (by omega) (by rfl) (by rfl)) Yc (by rfl)) (by rfl) (by rfl) (by rfl) (by rfl) (by rfl)) (by rfl)))) (@Yd _ _ _ _ _ (@Yt _ _ _ _ _ _ _ _ (@Xh _ _ _ _ (@Y1 _ _ _ (@W4 _ _ _ _ _ _ _ _ _ _ _ _ _ _ _ _ Zv Z5 hr (pv 0) (@Ya _ _ _ _ _ Yb Yc (by rfl)) (by omega) (by rfl) (by rfl) (by rfl) (by rfl)) (by intro _;rfl))) (@Ye _ _ _ (@YE _ _ _ _ _ _ _ _ _ _ _ ⟨x_NoNote,r_NoNote⟩ YZ (@Ya _ _ _ _ _ Yb Yc (by rfl)) (by rfl) (by rfl) (by rfl) (by decide) (by rfl) (by rfl))) Yk) (@Ye _ _ _ (PS.nox (@Yj _ _ _ _ (@XD _ _ _ _ _ _ _ _ _ _ Zj Wj (@Ya _ _ _ _ _ (pv 1) Yc (by rfl)) (by decide +kernel) (by rfl) (by rfl) (by decide) (by decide) (by rfl) (by rfl)))))))))),?_⟩
 have s40:Str.ofString "("=S [40]:=by decide +kernel
 have s41:Str.ofString ")"=S [41]:=by decide +kernel
 have s44:Str.ofString ","=S [44]:=by decide +kernel
 have eB:∃ pl,Rd.pbn m=Rd.pB pl:=by cases m<;>exact ⟨_,rfl⟩
 have tl:t.length - (t.drop i).length=i:=by rw [List.length_drop];omega
 walk_at "rd"
 refine ⟨dx,_,hat,Rd.noat _ _ _,p,dx,t,i,40,by rw [s40],hat,hl,fun c=>?_,fun c=>?_⟩
 rotate_left
 ·refine ⟨_,rfl,Ws rfl (q1 (t.drop i) H ?_ (by rw [tl];exact hat) (Rd.But.refl p H))⟩
  obtain ⟨pl,e⟩:=eB
  rw [e]
  unfold Rd.pB
  rw [if_neg c]
 have ecx:=Rd.hd_eq c
 rw [ecx] at hok
 have hm1:1≤m:=by
  have h1:=hok.1
  rw [show Rd.stepD (6 - (m:Int)) 40=6 - (m:Int)+1 by simp [Rd.stepD]] at h1
  omega
 obtain ⟨d,rfl⟩:∃ d,m=d+1:=⟨m - 1,by omega⟩
 have hok1:Rd.okD (6 - (d:Int)) (t.drop (i+1)):=by
  have h2:=hok.2
  rw [show Rd.stepD (6 - ((d+1:Nat):Int)) 40=6 - (d:Int) by simp [Rd.stepD];omega,List.drop_drop] at h2
  exact h2
 have hi1:i+1≤t.length:=by
  have:=congrArg List.length ecx
  rw [List.length_cons,List.length_drop] at this
  omega
 have hp:Rd.pbn (d+1) (t.drop i)=if (t.drop (i+1)).head?=some 41 then some (some .nil,(t.drop (i+1)).drop 1) else Rd.pIn (Rd.pln d) (t.drop (i+1)):=by
  show Rd.pB (Rd.pln d) (t.drop i)=_
  unfold Rd.pB
  rw [if_pos c]
  simp only [List.drop_drop]
 have hat1:Rd.At Z0 (Rd.mv Z0 H p dx t (i+1)) p dx t (i+1):=Yf
 have hb1:Rd.But p H (Rd.mv Z0 H p dx t (i+1)):=(Rd.But.refl p H).mv _
 refine ⟨_,rfl,XC (by decide) ⟨dx,_,hat1,Rd.noat _ _ _,p,dx,t,i+1,41,by rw [s41],hat1,hl,fun c1=>⟨_,rfl,Qh ⟨few (by decide),fun b hb=>?_⟩⟩,fun c1=>⟨_,rfl,WO ?_⟩⟩⟩
 ·rw [if_pos c1] at hp
  have hc1:=congrArg List.length (Rd.hd_eq c1)
  rw [List.length_cons,List.length_drop] at hc1
  refine q2 .nil _ b [] _ hp Yf rfl ((Same.upd_new hb _) _ _ ?_) ((hb1.mv _).new _ hb)
  rw [show t.length - ((t.drop (i+1)).drop 1).length=i+1+1 by simp only [List.length_drop] at hc1 ⊢;omega]
  exact Yf
 rw [if_neg c1] at hp
 refine ⟨dx,_,hat1,Rd.noat _ _ _,p,dx,t,i+1,d,rfl,rfl,by omega,hat1,hi1,hl,hok1,fun n r1 v1 H2 e1 hv1 hat2 hb2=>⟨few (by decide),fun L hL=>?_⟩,fun e1 H2 hb2=>qe ?_ _ (hb1.trans hb2)⟩
 rotate_left
 ·rw [hp]
  unfold Rd.pIn
  rw [e1]
 have sx1:Rd.Sx (t.drop (i+1)) r1:=Rd.pln_sx d _ _ _ e1
 have hr1:t.drop (t.length - r1.length)=r1:=Rd.drop_at hi1 sx1
 have hl1:r1.length≤t.length - (i+1):=by have:=sx1.len;rw [List.length_drop] at this;omega
 have nLp:L≠p:=(Yq hat2 hL).symm
 have hp2:Rd.pbn (d+1) (t.drop i)=Rd.pClose (Rd.pMore (Rd.pln d) (r1.length+1) (.cons n .nil) r1):=by
  rw [hp]
  unfold Rd.pIn
  rw [e1]
 generalize hT:Rd.pMore (Rd.pln d) (r1.length+1) (.cons n .nil) r1=TOT at hp2
 have hbA:Rd.But p H H2:=hb1.trans hb2
 have nL0:H L=none:=hbA.free nLp hL
 refine ⟨fun fm σ H'=>∃ (acc:Rd.Notes) (us:List V) (r:List Nat) (f:Nat),fm=r.length∧σ=[some (.ref p),some (.ref L)]∧H' L=some (.lst us)∧Rd.NotesAt H' acc us∧Rd.At Z0 H' p dx t (t.length - r.length)∧t.drop (t.length - r.length)=r∧Rd.But p H H'∧r.length<f∧Rd.pMore (Rd.pln d) f acc r=TOT∧Rd.Sx (t.drop (i+1)) r∧us.length+r.length≤t.length,⟨r1.length,.cons n .nil,[v1],r1,r1.length+1,rfl,rfl,Yf,⟨v1,[],rfl,hv1.keep (Rd.Same.tups (.upd_new hL _)),rfl⟩,(Same.upd_new hL _) _ _ hat2,hr1,hbA.new _ hL,by omega,hT,sx1,by simp;omega⟩,?_⟩
 rintro fm σ H' ⟨acc,us,r,f,rfl,rfl,hL',hacc,hat',hdr,hb',hf,hM,sx,hus⟩
 have hcnt:us.length≤2000:=by omega
 obtain ⟨f,rfl⟩:∃ f',f=f'+1:=⟨f - 1,by omega⟩
 rw [Rd.pMore] at hM
 walk_at "rd"
 refine ⟨dx,_,hat',Rd.noat _ _ _,p,dx,t,_,44,by rw [s44],hat',hl,fun c=>⟨_,rfl,Qh ?_⟩,fun c=>⟨_,rfl,WO ?_⟩⟩
 ·rw [hdr] at c
  rw [if_pos c] at hM
  have hcl:=congrArg List.length (Rd.hd_eq c)
  rw [List.length_cons] at hcl
  have hdr1:t.drop (t.length - r.length+1)=r.drop 1:=by rw [← List.drop_drop,hdr]
  have sxd:=sx.trans (Rd.Sx.drop c (by decide) (by decide))
  refine ⟨_,fun σ' H3 h=>h,.inl ⟨rfl,_,SqL.of (Rd.mvk nLp hL')⟩,dx,_,Yf,Rd.noat _ _ _,p,dx,t,t.length - r.length+1,d,rfl,rfl,by omega,Yf,by omega,hl,by rw [hdr1];exact sxd.ok hok1,fun n2 r2 v2 H3 e2 hv2 hat3 hb3=>?_,fun e2 H3 hb3=>qe ?_ _ ((hb'.mv _).trans hb3)⟩
  ·rw [hdr1] at e2
   rw [e2] at hM
   dsimp only at hM
   have hL3:H3 L=some (.lst us):=hb3 L _ nLp (Rd.mvk nLp hL')
   have sx2:=sxd.trans (Rd.pln_sx d _ _ _ e2)
   have hl2:r2.length<r.length:=by have:=(Rd.pln_sx d _ _ _ e2).len;omega
   have tp3:Rd.Tups H3 (upd H3 L (.lst (us++[v2]))):=fun c xs e=>by rw [Yl (WA e hL3 (by intro z;cases z))];exact e
   have tp4:Rd.Tups H' H3:=fun c xs e=>hb3 c _ (WA e hat' (by intro z;cases z)) (Rd.mvk (WA e hat' (by intro z;cases z)) e)
   refine ⟨us,hL3,Nat.lt_of_le_of_lt hcnt (by decide),r2.length,hl2,acc.snoc n2,us++[v2],r2,rfl,rfl,Yf,((hacc.keep tp4).keep tp3).snoc (hv2.keep tp3),?_,Rd.drop_at hi1 sx2,fun b o hb e=>?_,f,by omega,hM,sx2,by rw [List.length_append,List.length_singleton];omega⟩
   ·show upd H3 L _ p=_
    rw [Yl nLp.symm];exact hat3
   ·rw [Yl (Yq e nL0)]
    exact hb3 b o hb (Rd.mvk hb (hb' b o hb e))
  ·rw [hdr1] at e2
   rw [e2] at hM
   rw [hp2,← hM]
   rfl
 ·rw [hdr] at c
  rw [if_neg c] at hM
  refine ⟨dx,_,hat',Rd.noat _ _ _,p,dx,t,_,41,by rw [s41],hat',hl,fun c1=>⟨_,rfl,XC (by decide) ⟨us,.inl ⟨SqL.of (Rd.mvk nLp hL'),fun b hb=>?_⟩⟩⟩,fun c1=>⟨_,rfl,Ws rfl ⟨few (by decide),qe ?_ _ hb'⟩⟩⟩
  ·rw [hdr] at c1
   have hcl:=congrArg List.length (Rd.hd_eq c1)
   rw [List.length_cons] at hcl
   have tp2:Rd.Tups H' (upd (Rd.mv Z0 H' p dx t (t.length - r.length+1)) b (.tup us)):=fun c xs e=>(Same.upd_new hb _) _ _ (Rd.mvk (WA e hat' (by intro z;cases z)) e)
   refine q2 acc (r.drop 1) b us _ ?_ Yf (hacc.keep tp2) ((Same.upd_new hb _) _ _ ?_) ((hb'.mv _).new _ hb)
   ·rw [hp2,← hM]
    unfold Rd.pClose
    dsimp only
    rw [if_pos c1]
   ·rw [show t.length - (r.drop 1).length=t.length - r.length+1 by omega]
    exact Yf
  ·rw [hdr] at c1
   rw [hp2,← hM]
   unfold Rd.pClose
   dsimp only
   rw [if_neg c1]
theorem str1 (c d:Nat) (s:Str) (e:s=S [d]):decide (V.str ⟨#[c]⟩=V.str s)=decide (c=d):=by
 subst e
 by_cases h:c=d
 ·subst h;rw [decide_eq_true rfl];exact decide_eq_true rfl
 ·rw [decide_eq_false h,decide_eq_false]
  intro z;injection z with z
  have:=Xf (a:=[c]) (b:=[d]) z
  injection this with this
  exact h this
def Z0P (CC:Addr):Sp:=fun vs H Q E=>∃ t:List Nat,vs=[.str (S t)]∧t.length≤100000∧(t.length≤2000→Rd.okD 0 t→Q .non H)∧(¬ (t.length≤2000∧Rd.okD 0 t)→E (.ref CC) none H)
theorem Z1I {Z1 Z2 Z3 Z0:Addr} (R:g.Raw "refuse_crowded" "refuse_crowded" ZZ ["text"]) (b_len:g.mg "len"=none) (Z11:g.Con "MOST_BRACKETS" (.int 6)) (Z1G:g.Con "MOST_SIGNS" (.int 2000)) (x_Crowded:g.mg "Crowded"=some (.ref Z3)) (r_Crowded:PySem.W.excIn g.K Z3 Y2 "ValueError.__new__"=true):g.FnX (1) "refuse_crowded" ["text"] (Z0P Z3):=by
 refine R.fnX ZD (fun vs H Q E h=>by obtain ⟨t,rfl,hl,q,qe⟩:=h;rfl) fun f_ cdv A outer s H vs Q E hr h=>?_
 obtain ⟨t,rfl,hl,q,qe⟩:=h
 refine ⟨_,(@Yd _ _ _ _ _ (@Yt _ _ _ _ _ _ _ _ (@Yp _ _ _ _ _ _ _ _ Qb (@Xe _ _ _ _ _ _ _ _ _ _ b_len Xb (@Ya _ _ _ _ _ (pv 0) Yc (by rfl)) (by decide +kernel) (by rfl) (by rfl) (by decide) (by decide) (by rfl) (by rfl)) (@WF _ _ _ _ _ Z1G (by rfl) (by rfl) (by decide)) (Yr _)) (@Ye _ _ _ (@YE _ _ _ _ _ _ _ _ _ _ _ ⟨x_Crowded,r_Crowded⟩ YZ (@Ya _ _ _ _ _ Yb Yc (by rfl)) (by rfl) (by rfl) (by rfl) (by decide) (by rfl) (by rfl))) Yk) (@Yd _ _ _ _ _ (PS.nox (@Ym _ _ (1) _ _ _ _ ZD.nd rfl (.inl rfl) Yh (by rfl) (by first | exact .inl rfl | exact .inr rfl | assumption))) (@Ye _ _ _ (@QL _ _ _ _ _ _ _ _ PassesOwn.leaving rfl (@V5 _ _ _ _ (pv 0)) (@Xt _ _ (2) _ ZD.nd rfl (.inl rfl) (by first | exact .inl rfl | exact .inr rfl | assumption)) (@Yd _ _ _ _ _ (PS.nox (@Yt _ _ _ _ _ _ _ _ (@Yp _ _ _ _ _ _ _ _ YQ (pv 2) Yb (Yr _)) (@Ye _ _ _ (@QH _ _ (1) _ _ _ _ _ _ ZD.nd rfl (.inl rfl) Yh Ycr (by first | exact .inl rfl | exact .inr rfl | assumption))) (@Ye _ _ _ (@Yt _ _ _ _ _ _ _ _ (@Yp _ _ _ _ _ _ _ _ YQ (pv 2) Yb (Yr _)) (@Ye _ _ _ (@QH _ _ (1) _ _ _ _ _ _ ZD.nd rfl (.inl rfl) Yh Ycs (by first | exact .inl rfl | exact .inr rfl | assumption))) Yk)))) (@Ye _ _ _ (@Yt _ _ _ _ _ _ _ _ (@Yp _ _ _ _ _ _ _ _ Qb (pv 1) (@WF _ _ _ _ _ Z11 (by rfl) (by rfl) (by decide)) (Yr _)) (@Ye _ _ _ (@YE _ _ _ _ _ _ _ _ _ _ _ ⟨x_Crowded,r_Crowded⟩ YZ (@Ya _ _ _ _ _ Yb Yc (by rfl)) (by rfl) (by rfl) (by rfl) (by decide) (by rfl) (by rfl))) Yk))) (by intro _;rfl))))),?_⟩
 have hsl:=Yx t
 walk_at "rd"
 refine ⟨few (by omega),Yw (fun c=>⟨few (by decide),qe (by omega)⟩) fun c=>?_⟩
 refine ⟨_,rfl,S t,rfl,YbI (fun i σ H'=>H'=H∧∃ o,σ=[some (.str (S t)),some (.int (Rd.endD 0 (t.take i))),o]∧(Rd.okD 0 t↔Rd.okD (Rd.endD 0 (t.take i)) (t.drop i))) ⟨rfl,none,rfl,Iff.rfl⟩ ?_ ?_⟩
 ·rintro i c σ H' hc ⟨rfl,o,rfl,hk⟩
  rw [YN] at hc
  obtain ⟨hi,hc⟩:=List.getElem?_eq_some_iff.mp hc
  have e1:t.drop i=c::t.drop (i+1):=by rw [List.drop_eq_getElem_cons hi,hc]
  rw [e1] at hk
  have e2:Rd.endD 0 (t.take (i+1))=Rd.stepD (Rd.endD 0 (t.take i)) c:=by
   rw [List.take_succ_eq_append_getElem hi,hc,Rd.endD_append];rfl
  have d1:(({ cps:=#[c] }:Str)=Str.ofString "(")↔c=40:=by
   have:=str1 c 40 "(" (by decide +kernel)
   rw [decide_eq_decide] at this
   exact ⟨fun z=>this.mp (by rw [z]),fun z=>by have:=this.mpr z;injection this⟩
  have d2:(({ cps:=#[c] }:Str)=Str.ofString ")")↔c=41:=by
   have:=str1 c 41 ")" (by decide +kernel)
   rw [decide_eq_decide] at this
   exact ⟨fun z=>this.mp (by rw [z]),fun z=>by have:=this.mpr z;injection this⟩
  have key:∀ e:Int,e=Rd.stepD (Rd.endD 0 (t.take i)) c→(if 6<e then 1≤sizeLine∧E (Value.ref Z3) none H' else e=Rd.endD 0 (List.take (i+1) t)∧(Rd.okD 0 t↔Rd.okD (Rd.endD 0 (List.take (i+1) t)) (List.drop (i+1) t))):=by
   intro e he
   refine Yw (fun c6=>⟨few (by decide),qe fun z=>?_⟩) fun c6=>⟨by rw [e2,he],hk.trans ⟨fun z=>by rw [e2];exact z.2,fun z=>⟨by rw [he] at c6;omega,by rw [e2] at z;exact z⟩⟩⟩
   have:=(hk.mp z.2).1
   rw [he] at c6
   omega
  walk_at "rd"
  refine Yw (fun c1=>key _ ?_) fun c1=>Yw (fun c2=>key _ ?_) fun c2=>key _ ?_
  ·unfold Rd.stepD
   rw [if_pos (d1.mp c1)]
  ·unfold Rd.stepD
   rw [if_neg (fun z=>c1 (d1.mpr z)),if_pos (d2.mp c2)]
  ·unfold Rd.stepD
   rw [if_neg (fun z=>c1 (d1.mpr z)),if_neg (fun z=>c2 (d2.mpr z))]
 ·rintro σ H' ⟨rfl,o,rfl,hk⟩
  rw [List.drop_of_length_le (by rw [YN];exact Nat.le_refl _)] at hk
  exact q (by omega) (hk.mpr trivial)
def Vc (K:PySem.W.Frag) (H:Hp) (x:V):Prop:=∃ ty,TyOf K H x ty∧W.kitOne K ty (.type "str")=some false
def Z1C (K:PySem.W.Frag) (CN CC:Addr):Sp:=fun vs H Q E=>∃ x:V,vs=[x]∧((Vc K H x∧E (.ref CN) none H)∨∃ t:List Nat,x = .str (S t)∧t.length≤100000∧(¬ (t.length≤2000∧Rd.okD 0 t)→E (.ref CC) none H)∧(t.length≤2000→Rd.okD 0 t→Rd.parse t=none→∀ H',Same H H'→E (.ref CN) none H')∧(∀ n v H',t.length≤2000→Rd.okD 0 t→Rd.parse t=some n→Rd.NoteAt H' n v→Same H H'→Q v H'))
theorem Ul {k:Nat} {Z1 Z2 Z3 Z0:Addr} (R:g.Raw "read_note" "read_note" Z12 ["text"]) (Z1W:g.FnX k "refuse_crowded" ["text"] (Z0P Z3)) {j_NoteReader___init__:Nat} (Z1e:g.Ma j_NoteReader___init__ "NoteReader" Z0 ["self","text"] (Rd.spInit Z0)) (h_NoteReader___init__:j_NoteReader___init__+1≤k) (Zt:g.MeX k Z0 "labelled_note" ["self"] (Rd.spLNx Z0 Z2 7)) (Z1z:g.Me k Z0 "at_end" ["self"] (Rd.spEnd Z0)) (Zs:g.mg "isinstance"=none) (b_str:g.mg "str"=none) (Z5:Cls g.K Z0) (Z7:YF g.K Z0 "text") (Z6:YF g.K Z0 "place") (x_NoNote:g.mg "NoNote"=some (.ref Z2)) (r_NoNote:PySem.W.excIn g.K Z2 Y2 "ValueError.__new__"=true):g.FnX (k+1) "read_note" ["text"] (Z1C g.K Z2 Z3):=by
 refine R.fnX Z0S (fun vs H Q E h=>by obtain ⟨x,rfl,hx⟩:=h;rfl) fun f_ cdv A outer s H vs Q E hr h=>?_
 obtain ⟨x,rfl,hx⟩:=h
 refine ⟨_,(@Yd _ _ _ _ _ (@Yt _ _ _ _ _ _ _ _ (@Xh _ _ _ _ (@Y1 _ _ _ (@Xe _ _ _ _ _ _ _ _ _ _ Zs UE (@Ya _ _ _ _ _ (pv 0) (@Ya _ _ _ _ _ (@Ya6 _ _ _ _ ("str") b_str (by decide +kernel) (by rfl) (by rfl) (by decide) (by decide)) Yc (by rfl)) (by rfl)) (by decide +kernel) (by rfl) (by rfl) (by decide) (by decide) (by rfl) (by rfl)) (by intro _;rfl))) (@Ye _ _ _ (@YE _ _ _ _ _ _ _ _ _ _ _ ⟨x_NoNote,r_NoNote⟩ YZ (@Ya _ _ _ _ _ Yb Yc (by rfl)) (by rfl) (by rfl) (by rfl) (by decide) (by rfl) (by rfl))) Yk) (@Yd _ _ _ _ _ (@XG _ _ _ _ (@YK _ _ _ _ _ _ _ _ _ _ _ _ _ Z1W hr YM (@Ya _ _ _ _ _ (pv 0) Yc (by rfl)) (by omega) (by rfl) (by rfl) (by decide) (by rfl) (by rfl)) (by rfl)) (@Yd _ _ _ _ _ (PS.nox (@Ym _ _ (1) _ _ _ _ Z0S.nd rfl (.inl rfl) (@pe_ma _ _ _ _ _ _ _ _ _ _ _ _ _ Z1e hr (@Ya _ _ _ _ _ (pv 0) Yc (by rfl)) (by omega) (by rfl) (by rfl) (by decide) (by rfl) (by rfl)) (by rfl) (by first | exact .inl rfl | exact .inr rfl | assumption))) (@Yd _ _ _ _ _ (@Ym _ _ (2) _ _ _ _ Z0S.nd rfl (.inl rfl) (@WG _ _ _ _ _ _ _ _ _ _ _ _ _ _ Zt Z5 hr YM (pv 1) (by omega) (by rfl) (by rfl)) (by rfl) (by first | exact .inl rfl | exact .inr rfl | assumption)) (@Yd _ _ _ _ _ (@Yt _ _ _ _ _ _ _ _ (@Xh _ _ _ _ (@Y1 _ _ _ (@Wq _ _ _ _ _ _ _ _ _ _ _ _ _ Z1z Z5 hr (pv 1) (by omega) (by rfl) (by rfl)) (by intro _;rfl))) (@Ye _ _ _ (@YE _ _ _ _ _ _ _ _ _ _ _ ⟨x_NoNote,r_NoNote⟩ YZ (@Ya _ _ _ _ _ Yb Yc (by rfl)) (by rfl) (by rfl) (by rfl) (by decide) (by rfl) (by rfl))) Yk) (@Ye _ _ _ (PS.nox (@Yj _ _ _ _ (pv 2))))))))),?_⟩
 walk_at "rd"
 rcases hx with ⟨⟨ty,h1,h2⟩,qe⟩ | ⟨t,rfl,hl,qc,qn,q⟩
 ·exact ⟨_,rfl,_,h1,false,h2,Ws rfl ⟨few (by decide),qe⟩⟩
 refine ⟨_,rfl,_,.str _,true,rfl,XC (by decide) ⟨t,rfl,hl,fun h1 h2=>?_,fun h=>qc h⟩⟩
 intro x dx hx hdx hne
 have back:∀ H2,Rd.But x (Rd.mv Z0 (upd (upd H dx (HO.own x)) x (HO.ins Z0 dx [])) x dx t 0) H2→Same H H2:=fun H2 hb b o e=>by
  refine hb b o (Yq e hx) ?_
  show upd (upd (upd H dx _) x _) x _ b=_
  rw [Yl (Yq e hx),Yl (Yq e hx),Yl (Yq e hdx)]
  exact e
 refine ⟨x,dx,t,rfl,Yf,rfl,dx,_,Yf,Rd.noat _ _ _,x,dx,t,0,6,rfl,rfl,by omega,Yf,Nat.zero_le _,h1,by simpa using h2,fun n r v H2 e hv ha hb=>⟨dx,_,ha,Rd.noat _ _ _,x,dx,t,_,rfl,ha,h1,_,rfl,?_⟩,fun e H2 hb=>qn h1 h2 ?_ H2 (back H2 hb)⟩
 ·rw [List.drop_zero] at e
  have hrl:=(Rd.pln_sx 6 _ _ _ e).len
  refine Yw (fun c=>⟨few (by decide),qn h1 h2 ?_ H2 (back H2 hb)⟩) fun c=>q n v H2 h1 h2 ?_ hv (back H2 hb)
  ·unfold Rd.parse
   rw [e]
   cases r with
   | nil=>exact absurd c (by simp)
   | cons a r=>rfl
  ·unfold Rd.parse
   rw [e]
   cases r with
   | nil=>rfl
   | cons a r =>
    refine (c (decide_eq_false ?_)).elim
    rw [List.length_cons] at hrl ⊢
    omega
 ·rw [List.drop_zero] at e
  unfold Rd.parse
  rw [e]
  rfl
namespace Rd
theorem Um {pl:PL} {d:Nat} (g:∀ r n r',pl r=some (n,r')→Ok d n):∀ {f:Nat} {acc ks:Notes} {r r':List Nat},Oks d acc→pMore pl f acc r=some (ks,r')→Oks d ks
 | 0,_,_,_,_,_,h=>by cases h
 | f+1,acc,ks,r,r',ha,h=>by
  rw [pMore] at h
  by_cases c:r.head?=some 44
  ·rw [if_pos c] at h
   cases e:pl (r.drop 1) with
   | none=>rw [e] at h;cases h
   | some z =>
    obtain ⟨n,r1⟩:=z
    rw [e] at h
    exact Um g (Ug ha (g _ _ _ e)) h
  ·rw [if_neg c] at h
   cases h
   exact ha
theorem Ybg {pl:PL} {d:Nat} (g:∀ r n r',pl r=some (n,r')→Ok d n) {r r':List Nat} {ks:Notes} (h:pB pl r=some (some ks,r')):Oks d ks:=by
 unfold pB at h
 by_cases c:r.head?=some 40
 ·rw [if_pos c] at h
  by_cases c1:(r.drop 1).head?=some 41
  ·rw [if_pos c1] at h
   cases h
   cases d<;>exact trivial
  ·rw [if_neg c1] at h
   unfold pIn at h
   cases e2:pl (r.drop 1) with
   | none=>rw [e2] at h;cases h
   | some z =>
    obtain ⟨n,r1⟩:=z
    rw [e2] at h
    dsimp only at h
    cases e3:pMore pl (r1.length+1) (.cons n .nil) r1 with
    | none=>rw [e3] at h;cases h
    | some y =>
     obtain ⟨ks',r2⟩:=y
     rw [e3] at h
     unfold pClose at h
     dsimp only at h
     by_cases c3:r2.head?=some 41
     ·rw [if_pos c3] at h
      cases h
      refine Um g ?_ e3
      have:=g _ _ _ e2
      cases d<;>exact ⟨this,trivial⟩
     ·rw [if_neg c3] at h;cases h
 ·rw [if_neg c] at h
  cases h
theorem Ybh {pb:PB} {d:Nat} (g:∀ r ks r',pb r=some (some ks,r')→Oks d ks):∀ r n r',pL pb r=some (n,r')→Ok (d+1) n:=by
 intro r n r' h
 have w:∀ {l w x:List Nat},okL l→(∀ c∈w,isWS c=true)→pW pb l w x=some (n,r')→Ok (d+1) n:=fun {l w x} hl hw h=>by
  unfold pW at h
  by_cases c:wordOk w=true
  ·rw [if_pos c] at h
   have hW:okW w:=by
    unfold wordOk at c
    rw [Bool.and_eq_true] at c
    exact ⟨of_decide_eq_true c.1,of_decide_eq_true c.2,hw⟩
   cases e:pb x with
   | none=>rw [e] at h;cases h
   | some z =>
    obtain ⟨b,r1⟩:=z
    rw [e] at h
    cases h
    cases b with
    | none=>exact ⟨hl,hW⟩
    | some ks=>exact ⟨hl,hW,g _ _ _ e⟩
  ·rw [if_neg c] at h;cases h
 have tw:∀ (x:List Nat),∀ c∈x.takeWhile isWS,isWS c=true:=fun x c hc=>List.all_eq_true.mp (List.all_takeWhile (l:=x) (p:=isWS)) c hc
 unfold pL at h
 by_cases c:(r.dropWhile isWS).head?=some 58
 ·rw [if_pos c] at h
  by_cases c1:labOk (r.takeWhile isWS)=true
  ·rw [if_pos c1] at h
   unfold labOk at c1
   rw [Bool.and_eq_true,Bool.and_eq_true] at c1
   exact w ⟨of_decide_eq_true c1.1.2,List.all_eq_true.mp c1.2⟩ (tw _) h
  ·rw [if_neg c1] at h;cases h
 ·rw [if_neg c] at h
  exact w ⟨Nat.zero_le _,by simp⟩ (tw _) h
theorem Yan:∀ (d:Nat) r ks r',pbn d r=some (some ks,r')→Oks d ks
 | 0,r,ks,r',h=>Ybg (pl:=fun _=>none) (fun _ _ _ h=>by cases h) h
 | d+1,r,ks,r',h=>Ybg (Ybh (Yan d)) h
theorem parse_ok {t:List Nat} {n:Note} (h:parse t=some n):Ok 7 n:=by
 unfold parse at h
 cases e:pln 6 t with
 | none=>rw [e] at h;cases h
 | some z =>
  obtain ⟨m,r⟩:=z
  rw [e] at h
  cases r with
  | nil=>cases h;exact Ybh (Yan 6) _ _ _ e
  | cons a r=>cases h
end Rd
namespace Rd
def Stp (r:List Nat):Prop:=r=[]∨∃ c r',r=c::r'∧(c=41∨c=44)
theorem Stp.ws {r:List Nat} (h:Stp r):(∀ c,r.head?=some c→isWS c=false)∧r.head?≠some 58∧r.head?≠some 40:=by
 rcases h with rfl | ⟨c,r',rfl,rfl | rfl⟩
 ·exact ⟨(fun c h=>by cases h),by simp,by simp⟩
 ·exact ⟨(fun c h=>by cases h;decide),by simp,by simp⟩
 ·exact ⟨(fun c h=>by cases h;decide),by simp,by simp⟩
theorem Yao {a r:List Nat} (h:∀ c∈a,isWS c=true) (hr:∀ c,r.head?=some c→isWS c=false):(a++r).takeWhile isWS=a∧(a++r).dropWhile isWS=r:=by
 have e:r.takeWhile isWS=[]∧r.dropWhile isWS=r:=by
  cases r with
  | nil=>exact ⟨rfl,rfl⟩
  | cons c r =>
   have:=hr c rfl
   exact ⟨List.takeWhile_cons_of_neg (by simp [this]),List.dropWhile_cons_of_neg (by simp [this])⟩
 rw [List.takeWhile_append_of_pos h,List.dropWhile_append_of_pos h,e.1,e.2]
 simp
theorem VJ {w:List Nat} (h:okW w):wordOk w=true:=by
 unfold wordOk
 rw [decide_eq_true h.1,decide_eq_true h.2.1]
 rfl
theorem Vq {pb:PB} {l w r:List Nat} (hl:okL l) (hw:okW w) (hr:∀ c,r.head?=some c→isWS c=false) (h58:r.head?≠some 58):pL pb (head l w++r)=pPut l w (pb r):=by
 obtain ⟨e1,e2⟩:=Yao hw.2.2 hr
 unfold pL head
 by_cases c:l=[]
 ·rw [if_pos c,e1,e2,if_neg h58]
  unfold pW
  rw [if_pos (VJ hw),c]
 ·rw [if_neg c]
  have h1:∀ c,(58::(w++r)).head?=some c→isWS c=false:=fun c h=>by cases h;decide
  obtain ⟨e3,e4⟩:=Yao (fun x hx=>WS (hl.2 x hx)) h1
  rw [List.append_assoc,List.cons_append,e3,e4,if_pos (show (58::(w++r)).head?=some 58 from rfl),if_pos,List.drop_succ_cons,List.drop_zero,e1,e2]
  ·unfold pW
   rw [if_pos (VJ hw)]
  ·have h2:1≤l.length:=by
    cases l with
    | nil=>exact (c rfl).elim
    | cons x l=>simp
   unfold labOk
   rw [decide_eq_true h2,decide_eq_true hl.1,List.all_eq_true.mpr hl.2]
   rfl
def Notes.app:Notes→Notes→Notes
 | .nil,b=>b
 | .cons n r,b => .cons n (r.app b)
theorem Uo:∀ (a b:Notes) (n:Note),(a.snoc n).app b=a.app (.cons n b)
 | .nil,_,_=>rfl
 | .cons m r,b,n=>congrArg (Notes.cons m) (Uo r b n)
theorem UW:∀ a:Notes,a.app .nil=a
 | .nil=>rfl
 | .cons m r=>congrArg (Notes.cons m) (UW r)
theorem YcG {d:Nat} {n:Note} (h:Ok d n):∃ c r,txt n=c::r∧isWS c=true:=by
 have key:∀ {l w:List Nat},okL l→okW w→∃ c r,head l w=c::r∧isWS c=true:=fun {l w} hl hw=>by
  unfold head
  by_cases c:l=[]
  ·rw [if_pos c]
   match w,hw with
   | x::w,hw=>exact ⟨x,w,rfl,hw.2.2 x (by simp)⟩
  ·rw [if_neg c]
   match l,c,hl with
   | x::l,_,hl=>exact ⟨x,_,rfl,WS (hl.2 x (by simp))⟩
 cases n with
 | leaf l w =>
  have h':okL l∧okW w:=by cases d<;>exact h
  exact key h'.1 h'.2
 | node l w ks =>
  match d,h with
  | d+1,h =>
   obtain ⟨c,r,e,hc⟩:=key h.1 h.2.1
   exact ⟨c,r++40::(txts ks++[41]),by show head l w++_=_;rw [e];rfl,hc⟩
def tl:Notes→List Nat
 | .nil=>[]
 | .cons n r=>44::(txt n++tl r)
theorem UX:∀ (n:Note) (ks:Notes),txts (.cons n ks)=txt n++tl ks
 | n,.nil=>by simp [txts,tl]
 | n,.cons m ks=>by
  show txt n++44::txts (.cons m ks)=txt n++44::(txt m++tl ks)
  rw [UX m ks]
theorem Yap {r:List Nat} (h:∃ r',r=41::r'):∀ ks:Notes,Stp (tl ks++r)
 | .nil=>by obtain ⟨r',rfl⟩:=h;exact .inr ⟨41,r',rfl,.inl rfl⟩
 | .cons n ks => .inr ⟨44,_,rfl,.inr rfl⟩
mutual
theorem Vr:∀ (d:Nat) (n:Note) (r:List Nat),Ok d n→Stp r→pln d (txt n++r)=some (n,r)
 | d,.leaf l w,r,h,hs=>by
  have h':okL l∧okW w:=by cases d<;>exact h
  obtain ⟨s1,s2,s3⟩:=hs.ws
  show pL (pbn d) (head l w++r)=_
  rw [Vq h'.1 h'.2 s1 s2]
  have:pbn d r=some (none,r):=by
   cases d<;>(show pB _ r=_;unfold pB;rw [if_neg s3])
  rw [this]
  rfl
 | 0,.node l w ks,r,h,hs=>h.elim
 | d+1,.node l w .nil,r,h,hs=>by
  obtain ⟨hl,hw,hk⟩:=h
  show pL (pbn (d+1)) ((head l w++40::(txts .nil++[41]))++r)=_
  rw [List.append_assoc,Vq hl hw (fun c h=>by cases h;decide) (by simp)]
  rfl
 | d+1,.node l w (.cons n ks),r,h,hs=>by
  obtain ⟨hl,hw,hk⟩:=h
  show pL (pbn (d+1)) ((head l w++40::(txts (.cons n ks)++[41]))++r)=_
  rw [List.append_assoc,Vq hl hw (fun c h=>by cases h;decide) (by simp),UX]
  have e0:(40::(txt n++tl ks++[41]))++r=40::(txt n++(tl ks++41::r)):=by simp
  obtain ⟨c,x,ec,hc⟩:=YcG hk.1
  have e1:=Vr d n (tl ks++41::r) hk.1 (Yap ⟨r,rfl⟩ ks)
  have e2:=Up d ks (41::r) hk.2 ⟨r,rfl⟩ (.cons n .nil) ((tl ks++41::r).length+1) (by omega)
  have e:pbn (d+1) (40::(txt n++(tl ks++41::r)))=some (some (.cons n ks),r):=by
   show pB (pln d) _=_
   unfold pB
   rw [if_pos (show (40::(txt n++(tl ks++41::r))).head?=some 40 from rfl),if_neg]
   ·show pIn (pln d) (txt n++(tl ks++41::r))=_
    unfold pIn
    rw [e1]
    dsimp only
    rw [e2]
    rfl
   ·show ¬ (txt n++(tl ks++41::r)).head?=some 41
    rw [ec]
    intro z
    have:c=41:=by simpa using z
    rw [this] at hc
    exact absurd hc (by decide)
  rw [e0,e]
  rfl
theorem Up:∀ (d:Nat) (ks:Notes) (r:List Nat),Oks d ks→(∃ r',r=41::r')→∀ (acc:Notes) (f:Nat),(tl ks++r).length<f→pMore (pln d) f acc (tl ks++r)=some (acc.app ks,r)
 | d,.nil,r,_,⟨r',hr⟩,acc,f,hf=>by
  match f,hf with
  | f+1,_ =>
   subst hr
   show pMore (pln d) (f+1) acc (41::r')=_
   rw [pMore,if_neg (by simp),UW]
 | d,.cons n ks,r,h,hr,acc,f,hf=>by
  match f,hf with
  | f+1,hf =>
   have e0:tl (.cons n ks)++r=44::(txt n++(tl ks++r)):=by simp [tl]
   have e1:=Vr d n (tl ks++r) h.1 (Yap hr ks)
   rw [e0] at hf ⊢
   rw [pMore,if_pos (show (44::(txt n++(tl ks++r))).head?=some 44 from rfl)]
   show (match pln d (txt n++(tl ks++r)) with
    | some (n,r')=>pMore (pln d) f (acc.snoc n) r'
    | none=>none)=_
   rw [e1]
   dsimp only
   rw [Up d ks r h.2 hr (acc.snoc n) f (by simp only [List.length_cons,List.length_append] at hf ⊢;omega),Uo]
end
theorem parse_txt {n:Note} (h:Ok 6 n):parse (txt n)=some n:=by
 have:=Vr 6 n [] h (.inl rfl)
 rw [List.append_nil] at this
 unfold parse
 rw [this]
 rfl
end Rd
theorem Ybi (z a:Str):Txt.join z [a]=a:=by simp [Txt.join,Builtin.Str.glued]
theorem Qr (z a b:Str):Txt.join z [a,b]=a++(z++b):=by simp [Txt.join,Builtin.Str.glued];rfl
theorem Ybj (z a b c:Str):Txt.join z [a,b,c]=a++(z++(b++(z++c))):=by simp [Txt.join,Builtin.Str.glued];rfl
inductive Mk
 | num | here | count | sum | not | turned | plus | times | less | same | both | each | joined | part | when
 deriving DecidableEq
def Mk.s:Mk→String
 | .num=>"num" | .here=>"here" | .count=>"count" | .sum=>"sum" | .not=>"not" | .turned=>"turned" | .plus=>"plus" | .times=>"times" | .less=>"less" | .same=>"same" | .both=>"both" | .each=>"each" | .joined=>"joined" | .part=>"part" | .when=>"when"
def ms (m:Mk):Str:=Str.ofString m.s
theorem Uq (m m':Mk):(ms m=ms m')=(m=m'):=by
 cases m<;>cases m'<;>simp only [eq_iff_iff,reduceCtorEq,iff_false,iff_true]<;>decide +kernel
theorem l_num:Str.ofString "num"=ms .num:=rfl
theorem YcH:Str.ofString "here"=ms .here:=rfl
theorem Yb0:Str.ofString "count"=ms .count:=rfl
theorem l_sum:Str.ofString "sum"=ms .sum:=rfl
theorem l_not:Str.ofString "not"=ms .not:=rfl
theorem YaO:Str.ofString "turned"=ms .turned:=rfl
theorem YcI:Str.ofString "plus"=ms .plus:=rfl
theorem Yb1:Str.ofString "times"=ms .times:=rfl
theorem YcJ:Str.ofString "less"=ms .less:=rfl
theorem YcK:Str.ofString "same"=ms .same:=rfl
theorem YcL:Str.ofString "both"=ms .both:=rfl
theorem YcM:Str.ofString "each"=ms .each:=rfl
theorem YaP:Str.ofString "joined"=ms .joined:=rfl
theorem YcN:Str.ofString "part"=ms .part:=rfl
theorem YcO:Str.ofString "when"=ms .when:=rfl
theorem YcP (x:V):inV x []=false:=rfl
theorem Yb2 (a b:Mk) (l:List V):inV (.str (ms a)) (.str (ms b)::l)=(decide (b=a)||inV (.str (ms a)) l):=by
 have:eqV (.str (ms b)) (.str (ms a))=decide (b=a):=by
  have h:=Uq b a
  simp only [eqV]
  by_cases e:b=a
  ·subst e;simp
  ·have e':ms b≠ms a:=fun z=>e (h▸z)
   simp [e,e']
 rw [inV,List.any_cons,this]
 rfl
theorem YcQ (m:Mk):(ms m).length≤6:=by cases m<;>decide +kernel
def kv:Option Bool→V
 | none => .non
 | some false => .str (Str.ofString "number")
 | some true => .str (Str.ofString "truth")
def kb:Mk→List (Option Bool)→Option Bool
 | .num,_=>some false
 | .here,_=>some false
 | .plus,ks=>if ks=[some false,some false] then some false else none
 | .times,ks=>if ks=[some false,some false] then some false else none
 | .less,ks=>if ks=[some false,some false] then some true else none
 | .same,ks=>if ks=[some false,some false] then some true else none
 | .not,ks=>if ks=[some true] then some true else none
 | .both,ks=>if ks=[some true,some true] then some true else none
 | .when,[a,b,c]=>if a=some true∧b=c then b else none
 | _,_=>none
def tx:Mk→List Str→Str→Str
 | .num,_,ex=>ex
 | .here,_,_=>ms .here
 | .part,xs,ex=>ms .part++Str.ofString "("++Txt.join (Str.ofString ",") (xs++[ex])++Str.ofString ")"
 | m,xs,_=>ms m++Str.ofString "("++Txt.join (Str.ofString ",") xs++Str.ofString ")"
def Arg (H:Hp):Mk→V→List V→Str→Prop
 | .num,r,vs,ex=>∃ i:Int,r = .int i∧i.natAbs<10^60∧vs=[]∧ex=Str.ofString (toString i)
 | .here,_,vs,_=>vs=[]
 | .part,r,vs,ex=>∃ (p:Addr) (v:V) (i:Nat),r = .ref p∧H p=some (.tup [v,.int (i:Nat)])∧i<10^15∧vs=[v]∧ex=Str.ofString (toString (i:Int))
 | .count,r,vs,_=>vs=[r]
 | .sum,r,vs,_=>vs=[r]
 | .not,r,vs,_=>vs=[r]
 | .turned,r,vs,_=>vs=[r]
 | .when,r,vs,_=>∃ (p:Addr) (a b c:V),r = .ref p∧H p=some (.tup [a,b,c])∧vs=[a,b,c]
 | _,r,vs,_=>∃ (p:Addr) (a b:V),r = .ref p∧H p=some (.tup [a,b])∧vs=[a,b]
def Y5 (H:Hp):Nat→V→Option Bool→Str→Prop
 | 0,_,_,_=>False
 | n+1,v,k,x=>∃ (m:Mk) (a:Addr) (r:V) (vs:List V) (ks:List (Option Bool)) (xs:List Str) (ex:Str),v = .ref a∧H a=some (.tup [.str (ms m),r])∧Arg H m r vs ex∧ks.length=vs.length∧xs.length=vs.length∧(∀ (i:Nat) v k x,vs[i]?=some v→ks[i]?=some k→xs[i]?=some x→Y5 H n v k x)∧k=kb m ks∧x=tx m xs ex
def Tk (H H':Hp):Prop:=∀ (a:Addr) (ys:List V),H a=some (.tup ys)→H' a=some (.tup ys)
theorem Tk.trans {H H' H'':Hp} (a:Tk H H') (b:Tk H' H''):Tk H H'':=fun _ _ h=>b _ _ (a _ _ h)
theorem Tk.of {H H':Hp} (s:Same H H'):Tk H H':=fun _ _ h=>s _ _ h
theorem Arg.keep {H H':Hp} (t:Tk H H'):∀ {m:Mk} {r:V} {vs:List V} {ex:Str},Arg H m r vs ex→Arg H' m r vs ex:=by
 intro m r vs ex h
 cases m<;>simp only [Arg] at h ⊢<;>first
  | exact h
  | (obtain ⟨p,v,i,h1,h2,h3⟩:=h;exact ⟨p,v,i,h1,t _ _ h2,h3⟩)
  | (obtain ⟨p,a,b,c,h1,h2,h3⟩:=h;exact ⟨p,a,b,c,h1,t _ _ h2,h3⟩)
theorem Y5.keep {H H':Hp} (t:Tk H H'):∀ {n:Nat} {v:V} {k:Option Bool} {x:Str},Y5 H n v k x→Y5 H' n v k x
 | 0,_,_,_,h=>h
 | n+1,v,k,x,h=>by
  obtain ⟨m,a,r,vs,ks,xs,ex,h1,h2,h3,h4,h5,h6,h7⟩:=h
  exact ⟨m,a,r,vs,ks,xs,ex,h1,t _ _ h2,h3.keep t,h4,h5,fun i v k x a b c=>(h6 i v k x a b c).keep t,h7⟩
theorem Arg.few {H:Hp} {m:Mk} {r:V} {vs:List V} {ex:Str} (h:Arg H m r vs ex):vs.length≤3:=by
 cases m<;>simp only [Arg] at h<;>first
  | (obtain ⟨_,_,_,rfl,_⟩:=h;exact Nat.zero_le _)
  | (subst h;simp)
  | (obtain ⟨_,_,_,_,_,_,rfl,_⟩:=h;simp)
  | (obtain ⟨_,_,_,_,_,_,rfl⟩:=h;simp)
  | (obtain ⟨_,_,_,_,_,rfl⟩:=h;simp)
def Z1f (K:PySem.W.Frag):Sp:=fun vs H Q _=>∃ (a:Addr) (m:Mk) (r:V) (us:List V) (ex:Str),vs=[.ref a]∧H a=some (.tup [.str (ms m),r])∧Arg H m r us ex∧∀ (L:Addr) H',Same H H'→H' L=some (.lst us)→Q (.ref L) H'
local macro_rules | `(tactic| walk_at "sd")=>`(tactic| simp (config:={ failIfUnchanged:=false,maxSteps:=10000000 }) only [l_num,YcH,Yb0,l_sum,l_not,YaO,YcI,Yb1,YcJ,YcK,YcL,YcM,YaP,YcN,YcO,Uq,Yb2,YcP,Bool.or_false,Bool.false_or,Bool.or_self,Bool.true_or,Bool.or_true,reduceCtorEq,V.str.injEq,List.mem_cons,List.not_mem_nil,or_false,false_or,or_true,true_or,or_self,not_true_eq_false,not_false_eq_true,if_true,if_false,ite_true,ite_false,decide_true,decide_false,Bool.false_eq_true,and_true,true_and,and_false,false_and,false_implies,true_implies])
theorem Z2g {Z1 Z2 Z3 Z0:Addr} (R:g.Raw "inner_terms" "inner_terms" Z0H ["term"]) (b_list:g.mg "list"=none) (Zo:g.ConT "OF_ONE_TERM" ([.str "count",.str "sum",.str "not",.str "turned"])) (Zl:g.ConT "OF_TWO_TERMS" ([.str "plus",.str "times",.str "less",.str "same",.str "both",.str "each",.str "joined"])):g.Fn (1) "inner_terms" ["term"] (Z1f g.K):=by
 refine R.fn Z1d (fun vs H Q E h=>by obtain ⟨a,m,r,us,ex,rfl,ha,hg,q⟩:=h;rfl) fun f_ cdv A outer s H vs Q E hr h=>?_
 obtain ⟨a,m,r,us,ex,rfl,ha,hg,q⟩:=h
 refine ⟨_,(@Yd _ _ _ _ _ (@Ym _ _ (1) _ _ _ _ Z1d.nd rfl (.inl rfl) (@Yz _ _ _ _ _ _ _ YG (pv 0) Yh (fun _ _=>rfl)) (by rfl) (by first | exact .inl rfl | exact .inr rfl | assumption)) (@Yd _ _ _ _ _ (@Yt _ _ _ _ _ _ _ _ (@Yp _ _ _ _ _ _ _ _ XY (pv 1) (@VR _ _ _ _ _ Zo (by rfl) (by rfl) (by decide)) rfl) (@Ye _ _ _ (@Yj _ _ _ _ (@YJ _ _ _ _ (@Ya _ _ _ _ _ (@Yz _ _ _ _ _ _ _ YG (pv 0) Yh (fun _ _=>rfl)) Yc (by rfl))))) Yk) (@Yd _ _ _ _ _ (@Yt _ _ _ _ _ _ _ _ (@Yp _ _ _ _ _ _ _ _ YQ (pv 1) Yb (Yr _)) (@Ye _ _ _ (@Yj _ _ _ _ (@YJ _ _ _ _ (@Ya _ _ _ _ _ (@Yz _ _ _ _ _ _ _ YG (@Yz _ _ _ _ _ _ _ YG (pv 0) Yh (fun _ _=>rfl)) Yh (fun _ _=>rfl)) Yc (by rfl))))) Yk) (@Yd _ _ _ _ _ (@Yt _ _ _ _ _ _ _ _ (@U5 _ _ _ _ _ _ _ (@Yp _ _ _ _ _ _ _ _ YQ (pv 1) Yb (Yr _)) (@VT _ _ _ _ (@Yp _ _ _ _ _ _ _ _ XY (pv 1) (@VR _ _ _ _ _ Zl (by rfl) (by rfl) (by decide)) rfl))).pt (@Ye _ _ _ (@Yj _ _ _ _ (@XD _ _ _ _ _ _ _ _ _ _ b_list V2 (@Ya _ _ _ _ _ (@Yz _ _ _ _ _ _ _ YG (pv 0) Yh (fun _ _=>rfl)) Yc (by rfl)) (by decide +kernel) (by rfl) (by rfl) (by decide) (by decide) (by rfl) (by rfl)))) Yk) (@Ye _ _ _ (@Yj _ _ _ _ (@YJ _ _ _ _ Yc))))))),?_⟩
 walk_at "rd"
 refine ⟨_,SqT.of ha,_,rfl,?_⟩
 walk_at "rd"
 cases m<;>simp only [Arg] at hg<;>walk_at "sd"
 all_goals try (intro c1 hc1;refine ⟨_,.inr hc1,rfl,rfl,?_⟩;walk_at "sd")
 all_goals try (intro c2 hc2;refine ⟨_,.inr hc2,rfl,rfl,?_⟩;walk_at "sd")
 case num=>obtain ⟨i,rfl,_,rfl,_⟩:=hg;exact ⟨few (by decide),fun p hp=>q p _ (.upd_new hp _) Yf⟩
 case here=>subst hg;exact ⟨few (by decide),fun p hp=>q p _ (.upd_new hp _) Yf⟩
 case part =>
  obtain ⟨b,v,i,rfl,hb,_,rfl,_⟩:=hg
  exact ⟨_,SqT.of ha,_,rfl,b,rfl,_,SqT.of hb,_,rfl,few (by decide),fun p hp=>q p _ (.upd_new hp _) Yf⟩
 case when =>
  obtain ⟨b,v1,v2,v3,rfl,hb,rfl⟩:=hg
  exact ⟨_,SqT.of ha,_,rfl,b,rfl,_,.inr (SqT.of hb),fun p hp=>q p _ (.upd_new hp _) Yf⟩
 all_goals first
  | (subst hg;exact ⟨_,SqT.of ha,_,rfl,few (by decide),fun p hp=>q p _ (.upd_new hp _) Yf⟩)
  | (obtain ⟨b,v1,v2,rfl,hb,rfl⟩:=hg;exact ⟨_,SqT.of ha,_,rfl,b,rfl,_,.inr (SqT.of hb),fun p hp=>q p _ (.upd_new hp _) Yf⟩)
theorem Ur {z:Str}:∀ {ys:List Str},ys≠[]→ys.length≤3→(Txt.join z ys).length+z.length=(ys.map (·.length)).sum+ys.length*z.length
 | [],h,_=>(h rfl).elim
 | [a],_,_=>by rw [Ybi];simp
 | [a,b],_,_=>by rw [Qr];simp [Str.length_append];omega
 | [a,b,c],_,_=>by rw [Ybj];simp [Str.length_append];omega
 | _::_::_::_::_,_,h=>by simp at h
theorem UY:∀ {ys:List Str} {y:Str},y∈ys→y.length≤(ys.map (·.length)).sum
 | a::ys,y,h=>by
  rw [List.map_cons,List.sum_cons]
  rcases List.mem_cons.mp h with rfl | h
  ·omega
  ·have:=UY h;omega
def shn:Mk→List Str→Str→List Str
 | .part,xs,ex=>xs++[ex]
 | _,xs,_=>xs
theorem Ybk {m:Mk} {xs:List Str} {ex:Str} (h1:m ≠ .num) (h2:m ≠ .here):tx m xs ex=ms m++Str.ofString "("++Txt.join (Str.ofString ",") (shn m xs ex)++Str.ofString ")":=by
 cases m<;>first | exact (h1 rfl).elim | exact (h2 rfl).elim | rfl
theorem Arg.shn {H:Hp} {m:Mk} {r:V} {vs:List V} {ex:Str} {xs:List Str} (h:Arg H m r vs ex) (h1:m ≠ .num) (h2:m ≠ .here) (hx:xs.length=vs.length):shn m xs ex≠[]∧(shn m xs ex).length≤3:=by
 cases m<;>simp only [Arg] at h<;>first | exact (h1 rfl).elim | exact (h2 rfl).elim | skip
 case part =>
  obtain ⟨_,_,_,_,_,_,rfl,_⟩:=h
  simp only [KW.shn]
  refine ⟨by simp,by rw [List.length_append,hx];simp⟩
 all_goals (simp only [KW.shn];first
  | (subst h;exact ⟨fun e=>by rw [e] at hx;simp at hx,by rw [hx];simp⟩)
  | (obtain ⟨_,_,_,_,_,_,rfl⟩:=h;exact ⟨fun e=>by rw [e] at hx;simp at hx,by rw [hx];simp⟩)
  | (obtain ⟨_,_,_,_,_,rfl⟩:=h;exact ⟨fun e=>by rw [e] at hx;simp at hx,by rw [hx];simp⟩))
theorem YcR {m:Mk} {xs:List Str} {ex:Str} (h1:m ≠ .num) (h2:m ≠ .here) (h3:shn m xs ex≠[]) (h4:(shn m xs ex).length≤3):(tx m xs ex).length=(ms m).length+1+((shn m xs ex).map (·.length)).sum+(shn m xs ex).length:=by
 have e1:(Str.ofString "(").length=1:=by decide +kernel
 have e2:(Str.ofString ")").length=1:=by decide +kernel
 have e3:(Str.ofString ",").length=1:=by decide +kernel
 have:=Ur (z:=Str.ofString ",") h3 h4
 rw [Ybk h1 h2,Str.length_append,Str.length_append,Str.length_append,e1,e2]
 rw [e3] at this
 omega
theorem Yb3 {m:Mk} {xs:List Str} {ex x:Str} (h:x∈xs):x∈shn m xs ex:=by
 cases m<;>simp only [shn]<;>first | exact h | exact List.mem_append_left _ h
def Z0i (K:PySem.W.Frag) (m:Nat):Sp:=fun vs H Q _=>∃ (v:V) (k:Option Bool) (x:Str),vs=[v]∧Y5 H m v k x∧x.length≤1000000∧∀ H',Same H H'→Q (.str x) H'
theorem Yb4 {K:PySem.W.Frag} {vs:List V} {H:Hp} {Q:VK} {E:XK} (h:Z0i K 0 vs H Q E):False:=by
 obtain ⟨v,k,x,_,h,_⟩:=h
 exact h
theorem Vs {i:Int} (h:i.natAbs<10^60):i.natAbs.log2<1920:=by
 rcases Nat.eq_zero_or_pos i.natAbs with h0 | h0
 ·rw [h0];decide
 ·rw [Nat.log2_lt (by omega)]
  exact Nat.lt_trans h (by decide +kernel)
theorem Yaq {i:Nat} (h:i<10^15):(i:Int).natAbs.log2<1920:=by
 rw [Int.natAbs_natCast]
 rcases Nat.eq_zero_or_pos i with rfl | h0
 ·decide
 ·rw [Nat.log2_lt (by omega)]
  exact Nat.lt_of_lt_of_le h (Nat.le_trans (by decide:10^15≤2^50) (Nat.pow_le_pow_right (by decide) (by decide)))
theorem Zy {k:Nat} {Z1 Z2 Z3 Z0:Addr} (R:g.Raw "show_term" "show_term" Z15 ["term"]) (F_inner_terms:g.Fn k "inner_terms" ["term"] (Z1f g.K)) (Z17:g.Fn k "show_term" ["term"] (Z0i g.K m)) (b_str:g.mg "str"=none):g.Fn (k+1) "show_term" ["term"] (Z0i g.K (m+1)):=by
 refine R.fn Z0U (fun vs H Q E h=>by obtain ⟨v,k,x,rfl,hT,hxl,q⟩:=h;rfl) fun f_ cdv A outer s H vs Q E hr h=>?_
 obtain ⟨v,k,x,rfl,hT,hxl,q⟩:=h
 refine ⟨_,(@Yd _ _ _ _ _ (@Ym _ _ (1) _ _ _ _ Z0U.nd rfl (.inl rfl) (@Yz _ _ _ _ _ _ _ YG (pv 0) Yh (fun _ _=>rfl)) (by rfl) (by first | exact .inl rfl | exact .inr rfl | assumption)) (@Yd _ _ _ _ _ (@Yt _ _ _ _ _ _ _ _ (@Yp _ _ _ _ _ _ _ _ YQ (pv 1) Yb (Yr _)) (@Ye _ _ _ (@Yj _ _ _ _ (@XD _ _ _ _ _ _ _ _ _ _ b_str Xp (@Ya _ _ _ _ _ (@Yz _ _ _ _ _ _ _ YG (pv 0) Yh (fun _ _=>rfl)) Yc (by rfl)) (by decide +kernel) (by rfl) (by rfl) (by decide) (by decide) (by rfl) (by rfl)))) Yk) (@Yd _ _ _ _ _ (@Yt _ _ _ _ _ _ _ _ (@Yp _ _ _ _ _ _ _ _ YQ (pv 1) Yb (Yr _)) (@Ye _ _ _ (@Yj _ _ _ _ (pv 1))) Yk) (@Yd _ _ _ _ _ (@YbO _ (2) _ _ _ _ _ _ _ _ _ ([none]) ((["inner"]:List Str)) _ (Y4 0) _ _ Z0U.nd rfl (.inl rfl) (.own .nil) rfl (@Ybu _ _ _ _ (@YR _ _ _ _ _ _ _ _ _ _ _ _ F_inner_terms hr (@Ya _ _ _ _ _ (pv 0) Yc (by rfl)) (by omega) (by rfl) (by rfl) (by decide) (by rfl) (by rfl))) (fun cl C s₀ H₀ fp pn=>(@Xt _ _ (0) _ (show List.Nodup (["inner"]:List Str) by decide +kernel) rfl (.inl rfl) (.inr rfl))) (fun cl C s₀ H₀ fp pn=>WE) (fun cl C s₀ H₀ fp pn=>(@YR _ _ _ _ _ _ _ _ _ _ _ _ Z17 hr (@Ya _ _ _ _ _ (pv 0) Yc (by rfl)) (by omega) (by rfl) (by rfl) (by decide) (by rfl) (by rfl))) (by intro x hx;simp at hx) (by rfl) (by decide) (by decide +kernel) (by intro _;rfl) (by rfl) (by first | exact .inl rfl | exact .inr rfl | assumption)) (@Yd _ _ _ _ _ (@Yt _ _ _ _ _ _ _ _ (@Yp _ _ _ _ _ _ _ _ YQ (pv 1) Yb (Yr _)) (@Ye _ _ _ (@XG _ _ _ _ (@VP _ _ _ _ _ _ _ _ _ _ _ _ PySem.F.plainAttrs_list PySem.F.slot_list_append PySem.F.type_list_append XA (pv 2) (@Ya _ _ _ _ _ (@XD _ _ _ _ _ _ _ _ _ _ b_str Xp (@Ya _ _ _ _ _ (@Yz _ _ _ _ _ _ _ YG (@Yz _ _ _ _ _ _ _ YG (pv 0) Yh (fun _ _=>rfl)) Yh (fun _ _=>rfl)) Yc (by rfl)) (by decide +kernel) (by rfl) (by rfl) (by decide) (by decide) (by rfl) (by rfl)) Yc (by rfl)) (by rfl) (by rfl) (by rfl) (by rfl) (by rfl)) (by rfl))) Yk) (@Ye _ _ _ (@Yj _ _ _ _ (@Yn _ _ _ _ _ _ _ _ Yu (@Yn _ _ _ _ _ _ _ _ Yu (@Yn _ _ _ _ _ _ _ _ Yu (pv 1) Yb) (@VP _ _ _ _ _ _ _ _ _ _ _ _ PySem.F.plainAttrs_str PySem.F.slot_str_join PySem.F.type_str_join YbG Yb (@Ya _ _ _ _ _ (pv 2) Yc (by rfl)) (by rfl) (by rfl) (by rfl) (by rfl) (by rfl))) Yb)))))))),?_⟩
 obtain ⟨mk,a,r,us,ks,xs,ex,rfl,ha,hg,hk,hx,hin,rfl,rfl⟩:=hT
 have h3:=hg.few
 walk_at "rd"
 refine ⟨_,SqT.of ha,_,rfl,?_⟩
 walk_at "rd"
 walk_at "sd"
 refine Yw (fun c=>⟨_,SqT.of ha,_,rfl,?_⟩) fun h1=>Yw (fun c=>?_) fun h2=>?_
 ·subst c
  obtain ⟨i,rfl,hi,rfl,rfl⟩:=hg
  exact ⟨_,rfl,Vs hi,q H (.refl H)⟩
 ·subst c
  exact q H (.refl H)
 ·obtain ⟨n1,n2⟩:=hg.shn h1 h2 hx
  have htl:=YcR h1 h2 n1 n2
  refine Q5 (K:=g.K) (xs:=us) (xs.map V.str) (fun R rr=>by walk_at "rd";exact ⟨a,mk,r,us,ex,rfl,ha,hg,fun L H' s' hL=>rr L H' s' (SqL.of hL)⟩) (by rw [List.length_map,hx]) (by omega) ?_ ?_
  ·intro i v y H' hv hy sm' R rr
   rw [List.getElem?_map] at hy
   obtain ⟨x,hxi,rfl⟩:=Option.map_eq_some_iff.mp hy
   have hil:=(List.getElem?_eq_some_iff.mp hxi).1
   have hki:ks[i]?=some (ks[i]'(by omega)):=List.getElem?_eq_getElem _
   have:=UY (Yb3 (m:=mk) (ex:=ex) (List.mem_of_getElem? hxi))
   walk_at "rd"
   exact ⟨v,_,x,rfl,(hin i v _ x hv hki hxi).keep (.of sm'),by omega,fun H'' s''=>rr H'' s''⟩
  ·intro D H1 hD s1 hd
   have e1:(Str.ofString "(").length=1:=by decide +kernel
   have e2:(Str.ofString ")").length=1:=by decide +kernel
   have e3:(Str.ofString ",").length=1:=by decide +kernel
   have big:2000000≤sizeLine:=by decide
   have hml:=YcQ mk
   have hjl:=Ur (z:=Str.ofString ",") n1 n2
   rw [e3] at hjl
   have tail:∀ H2,Same H H2→H2 D=some (.lst ((shn mk xs ex).map V.str))→(ms mk).length+(Str.ofString "(").length≤sizeLine∧tyV g.K "str" (V.str (Str.ofString ",")) H2∧Ya5 g.K (V.str (Str.ofString ",")) [V.ref D] H2 fun y H2=>∃ x,y=V.str x∧(ms mk++Str.ofString "(").length+x.length≤sizeLine∧(ms mk++Str.ofString "("++x).length+(Str.ofString ")").length≤sizeLine∧Q (V.str (ms mk++Str.ofString "("++x++Str.ofString ")")) H2:=by
    intro H2 s2 h2'
    refine ⟨by rw [e1];omega,rfl,_,D,shn mk xs ex,rfl,rfl,SqL.of h2',by rw [e3];omega,_,rfl,?_,?_,?_⟩
    ·rw [Str.length_append,e1];omega
    ·rw [Str.length_append,Str.length_append,e1,e2];omega
    ·rw [← Ybk h1 h2]
     exact q H2 s2
   refine Yw (fun c=>?_) fun c=>?_
   ·subst c
    obtain ⟨p,v,i,rfl,hp,hi,rfl,rfl⟩:=hg
    refine ⟨.inl ⟨rfl,_,SqL.of hd⟩,_,SqT.of (s1 _ _ ha),_,rfl,p,rfl,_,SqT.of (s1 _ _ hp),_,rfl,_,rfl,Yaq hi,D,rfl,_,hd,by rw [List.length_map,hx];show 1<sizeLine;decide,?_⟩
    refine tail _ (.upd_over hD s1 _) (Yf.trans ?_)
    simp only [shn,List.map_append,List.map_cons,List.map_nil]
   ·refine tail H1 s1 (hd.trans ?_)
    rw [show shn mk xs ex=xs by cases mk<;>first | rfl | exact (c rfl).elim]
theorem YcS {H:Hp} {a:Addr} {i:Int} {n:Nat} (h:H a=some (.tup [.str (ms .num),.int i])) (hi:i.natAbs<10^60):Y5 H (n+1) (.ref a) (some false) (Str.ofString (toString i)) :=
 ⟨.num,a,_,[],[],[],Str.ofString (toString (i:Int)),rfl,h,⟨i,rfl,hi,rfl,rfl⟩,rfl,rfl,fun i v k x hv=>by simp at hv,rfl,rfl⟩
theorem Yb5 {H:Hp} {a:Addr} {r:V} {n:Nat} (h:H a=some (.tup [.str (ms .here),r])):Y5 H (n+1) (.ref a) (some false) (ms .here) :=
 ⟨.here,a,_,[],[],[],ms .here,rfl,h,rfl,rfl,rfl,fun i v k x hv=>by simp at hv,rfl,rfl⟩
theorem YcT {H:Hp} {m:Mk} {a:Addr} {v:V} {k:Option Bool} {x:Str} {n:Nat} (h4:m = .count∨m = .sum∨m = .not∨m = .turned) (h:H a=some (.tup [.str (ms m),v])) (ht:Y5 H n v k x):Y5 H (n+1) (.ref a) (kb m [k]) (tx m [x] x) :=
 ⟨m,a,v,[v],[k],[x],x,rfl,h,by rcases h4 with rfl | rfl | rfl | rfl<;>rfl,rfl,rfl,fun i v' k' x' h1 h2 h3=>by
  match i with
  | 0 =>
   cases h1;cases h2;cases h3
   exact ht
  | i+1=>simp at h1,rfl,rfl⟩
theorem Yb6 {H:Hp} {a p:Addr} {v:V} {k:Option Bool} {x:Str} {n i:Nat} (h:H a=some (.tup [.str (ms .part),.ref p])) (hp:H p=some (.tup [v,.int (i:Nat)])) (hi:i<10^15) (ht:Y5 H n v k x):Y5 H (n+1) (.ref a) none (tx .part [x] (Str.ofString (toString (i:Int)))) :=
 ⟨.part,a,_,[v],[k],[x],_,rfl,h,⟨p,v,i,rfl,hp,hi,rfl,rfl⟩,rfl,rfl,fun i v' k' x' h1 h2 h3=>by
  match i with
  | 0 =>
   cases h1;cases h2;cases h3
   exact ht
  | i+1=>simp at h1,rfl,rfl⟩
theorem YcU {H:Hp} {m:Mk} {a p:Addr} {v1 v2:V} {k1 k2:Option Bool} {x1 x2:Str} {n:Nat} (hm:m = .plus∨m = .times∨m = .less∨m = .same∨m = .both∨m = .each∨m = .joined) (h:H a=some (.tup [.str (ms m),.ref p])) (hp:H p=some (.tup [v1,v2])) (t1:Y5 H n v1 k1 x1) (t2:Y5 H n v2 k2 x2):Y5 H (n+1) (.ref a) (kb m [k1,k2]) (tx m [x1,x2] x1) :=
 ⟨m,a,_,[v1,v2],[k1,k2],[x1,x2],x1,rfl,h,by rcases hm with rfl | rfl | rfl | rfl | rfl | rfl | rfl<;>exact ⟨p,v1,v2,rfl,hp,rfl⟩,rfl,rfl,fun i v' k' x' h1 h2 h3=>by
  match i with
  | 0 =>
   cases h1;cases h2;cases h3
   exact t1
  | 1 =>
   cases h1;cases h2;cases h3
   exact t2
  | i+2=>simp at h1,rfl,rfl⟩
theorem Yb7 {H:Hp} {a p:Addr} {v1 v2 v3:V} {k1 k2 k3:Option Bool} {x1 x2 x3:Str} {n:Nat} (h:H a=some (.tup [.str (ms .when),.ref p])) (hp:H p=some (.tup [v1,v2,v3])) (t1:Y5 H n v1 k1 x1) (t2:Y5 H n v2 k2 x2) (t3:Y5 H n v3 k3 x3):Y5 H (n+1) (.ref a) (kb .when [k1,k2,k3]) (tx .when [x1,x2,x3] x1) :=
 ⟨.when,a,_,[v1,v2,v3],[k1,k2,k3],[x1,x2,x3],x1,rfl,h,⟨p,v1,v2,v3,rfl,hp,rfl⟩,rfl,rfl,fun i v' k' x' h1 h2 h3=>by
  match i with
  | 0 =>
   cases h1;cases h2;cases h3
   exact t1
  | 1 =>
   cases h1;cases h2;cases h3
   exact t2
  | 2 =>
   cases h1;cases h2;cases h3
   exact t3
  | i+3=>simp at h1,rfl,rfl⟩
inductive Tm
 | num (i:Int)
 | here
 | part (t:Tm) (p:Nat)
 | one (m:Mk) (t:Tm)
 | two (m:Mk) (a b:Tm)
 | when (a b c:Tm)
def mc (m:Mk):List Nat:=(ms m).cps.toList
theorem YT (m:Mk):ms m=S (mc m):=by unfold mc S;simp
def nt:Tm→Rd.Note
 | .num i => .leaf [] (dg i)
 | .here => .leaf [] (mc .here)
 | .part t p => .node [] (mc .part) (.cons (nt t) (.cons (.leaf [] (dg (p:Int))) .nil))
 | .one m t => .node [] (mc m) (.cons (nt t) .nil)
 | .two m a b => .node [] (mc m) (.cons (nt a) (.cons (nt b) .nil))
 | .when a b c => .node [] (mc .when) (.cons (nt a) (.cons (nt b) (.cons (nt c) .nil)))
def is1 (m:Mk):Prop:=m = .count∨m = .sum∨m = .not∨m = .turned
def is2 (m:Mk):Prop:=m = .plus∨m = .times∨m = .less∨m = .same∨m = .both∨m = .each∨m = .joined
def Gd:Tm→Prop
 | .num i=>i.natAbs<10^60
 | .here=>True
 | .part t p=>Gd t∧p≤20
 | .one m t=>is1 m∧Gd t
 | .two m a b=>is2 m∧Gd a∧Gd b
 | .when a b c=>Gd a∧Gd b∧Gd c
def dp:Tm→Nat
 | .num _=>0
 | .here=>0
 | .part t _=>dp t+1
 | .one _ t=>dp t+1
 | .two _ a b=>max (dp a) (dp b)+1
 | .when a b c=>max (dp a) (max (dp b) (dp c))+1
def TA (H:Hp):Tm→V→Prop
 | .num i,v=>∃ a,v = .ref a∧H a=some (.tup [.str (ms .num),.int i])
 | .here,v=>∃ a b,v = .ref a∧H a=some (.tup [.str (ms .here),.ref b])∧H b=some (.tup [])
 | .part t p,v=>∃ a b w,v = .ref a∧H a=some (.tup [.str (ms .part),.ref b])∧H b=some (.tup [w,.int (p:Nat)])∧TA H t w
 | .one m t,v=>∃ a w,v = .ref a∧H a=some (.tup [.str (ms m),w])∧TA H t w
 | .two m x y,v=>∃ a b w u,v = .ref a∧H a=some (.tup [.str (ms m),.ref b])∧H b=some (.tup [w,u])∧TA H x w∧TA H y u
 | .when x y z,v=>∃ a b w u r,v = .ref a∧H a=some (.tup [.str (ms .when),.ref b])∧H b=some (.tup [w,u,r])∧TA H x w∧TA H y u∧TA H z r
theorem TA.keep {H H':Hp} (s:Tk H H'):∀ {t:Tm} {v:V},TA H t v→TA H' t v
 | .num _,_,⟨a,e,h⟩=>⟨a,e,s _ _ h⟩
 | .here,_,⟨a,b,e,h1,h2⟩=>⟨a,b,e,s _ _ h1,s _ _ h2⟩
 | .part _ _,_,⟨a,b,w,e,h1,h2,h3⟩=>⟨a,b,w,e,s _ _ h1,s _ _ h2,h3.keep s⟩
 | .one _ _,_,⟨a,w,e,h1,h3⟩=>⟨a,w,e,s _ _ h1,h3.keep s⟩
 | .two _ _ _,_,⟨a,b,w,u,e,h1,h2,h3,h4⟩=>⟨a,b,w,u,e,s _ _ h1,s _ _ h2,h3.keep s,h4.keep s⟩
 | .when _ _ _,_,⟨a,b,w,u,r,e,h1,h2,h3,h4,h5⟩=>⟨a,b,w,u,r,e,s _ _ h1,s _ _ h2,h3.keep s,h4.keep s,h5.keep s⟩
abbrev tt (t:Tm):List Nat:=Rd.txt (nt t)
theorem Y0 (w:List Nat):Rd.head [] w=w:=by unfold Rd.head;rw [if_pos rfl]
theorem Yb8 (t:Tm) (p:Nat):tt (.part t p)=mc .part++40::(tt t++44::dg (p:Int)++[41]):=by
 simp only [tt,nt,Rd.txt,Rd.txts,Y0]
theorem YcV (m:Mk) (t:Tm):tt (.one m t)=mc m++40::(tt t++[41]):=by simp only [tt,nt,Rd.txt,Rd.txts,Y0]
theorem YcW (m:Mk) (a b:Tm):tt (.two m a b)=mc m++40::(tt a++44::tt b++[41]):=by simp only [tt,nt,Rd.txt,Rd.txts,Y0]
theorem Yb9 (a b c:Tm):tt (.when a b c)=mc .when++40::(tt a++44::(tt b++44::tt c)++[41]):=by simp only [tt,nt,Rd.txt,Rd.txts,Y0]
theorem Wu:Str.ofString "("=S [40]:=by decide +kernel
theorem Z1g:Str.ofString ")"=S [41]:=by decide +kernel
theorem Vt:Str.ofString ","=S [44]:=by decide +kernel
theorem YcX {m:Mk} (h:is1 m) (x:List Nat) (y:Str):tx m [S x] y=S (mc m++40::(x++[41])):=by
 rcases h with rfl | rfl | rfl | rfl<;>(simp only [tx,Ybi];rw [YT,Wu,Z1g,Ys,Ys,Ys];simp)
theorem Yca (x d:List Nat):tx .part [S x] (S d)=S (mc .part++40::(x++44::d++[41])):=by
 simp only [tx,List.cons_append,List.nil_append,Qr]
 rw [YT,Wu,Z1g,Vt,Ys,Ys,Ys,Ys,Ys];simp
theorem YcY {m:Mk} (h:is2 m) (x d:List Nat) (y:Str):tx m [S x,S d] y=S (mc m++40::(x++44::d++[41])):=by
 rcases h with rfl | rfl | rfl | rfl | rfl | rfl | rfl<;>(simp only [tx,Qr];rw [YT,Wu,Z1g,Vt,Ys,Ys,Ys,Ys,Ys];simp)
theorem Ycb (x d e:List Nat) (y:Str):tx .when [S x,S d,S e] y=S (mc .when++40::(x++44::(d++44::e)++[41])):=by
 simp only [tx,Ybj]
 rw [YT,Wu,Z1g,Vt,Ys,Ys,Ys,Ys,Ys,Ys,Ys];simp
theorem TA.tm {H:Hp}:∀ {t:Tm} {v:V} {n:Nat},TA H t v→Gd t→dp t≤n→∃ k,Y5 H (n+1) v k (S (tt t))
 | .num i,v,n,⟨a,e,h⟩,hg,_=>by
  subst e
  have:=YcS (n:=n) h hg
  rw [W6] at this
  exact ⟨some false,by simpa only [tt,nt,Rd.txt,Y0] using this⟩
 | .here,v,n,⟨a,b,e,h,_⟩,hg,_=>by
  subst e
  have:=Yb5 (n:=n) h
  rw [YT] at this
  exact ⟨some false,by simpa only [tt,nt,Rd.txt,Y0] using this⟩
 | .part t p,v,n,⟨a,b,w,e,h1,h2,h3⟩,hg,hn=>by
  subst e
  simp only [dp] at hn
  obtain ⟨m,rfl⟩:∃ m,n=m+1:=⟨n - 1,by omega⟩
  obtain ⟨k,hk⟩:=h3.tm (n:=m) hg.1 (by omega)
  have:=Yb6 h1 h2 (by have:=hg.2;exact Nat.lt_of_le_of_lt this (by decide)) hk
  rw [W6,Yca,← Yb8] at this
  exact ⟨_,this⟩
 | .one m t,v,n,⟨a,w,e,h1,h3⟩,hg,hn=>by
  subst e
  simp only [dp] at hn
  obtain ⟨j,rfl⟩:∃ m,n=m+1:=⟨n - 1,by omega⟩
  obtain ⟨k,hk⟩:=h3.tm (n:=j) hg.2 (by omega)
  have:=YcT hg.1 h1 hk
  rw [YcX hg.1,← YcV] at this
  exact ⟨_,this⟩
 | .two m x y,v,n,⟨a,b,w,u,e,h1,h2,h3,h4⟩,hg,hn=>by
  subst e
  simp only [dp] at hn
  obtain ⟨j,rfl⟩:∃ m,n=m+1:=⟨n - 1,by omega⟩
  obtain ⟨k,hk⟩:=h3.tm (n:=j) hg.2.1 (by omega)
  obtain ⟨k',hk'⟩:=h4.tm (n:=j) hg.2.2 (by omega)
  have:=YcU hg.1 h1 h2 hk hk'
  rw [YcY hg.1,← YcW] at this
  exact ⟨_,this⟩
 | .when x y z,v,n,⟨a,b,w,u,r,e,h1,h2,h3,h4,h5⟩,hg,hn=>by
  subst e
  simp only [dp] at hn
  obtain ⟨j,rfl⟩:∃ m,n=m+1:=⟨n - 1,by omega⟩
  obtain ⟨k,hk⟩:=h3.tm (n:=j) hg.1 (by omega)
  obtain ⟨k',hk'⟩:=h4.tm (n:=j) hg.2.1 (by omega)
  obtain ⟨k'',hk''⟩:=h5.tm (n:=j) hg.2.2 (by omega)
  have:=Yb7 h1 h2 hk hk' hk''
  rw [Ycb,← Yb9] at this
  exact ⟨_,this⟩
theorem Qs {i:Int} (h:i.natAbs<10^60):Rd.okW (dg i):=by
 have hl:=XU (k:=60) (by decide) h
 have hd:=XB i.natAbs
 have hne:=Qm i.natAbs
 have hw:∀ c:Nat,48≤c∧c≤57→Rd.isWS c=true:=fun c h=>by
  simp only [Rd.isWS,Rd.isLF,Rd.isFig,decide_eq_true h.1,decide_eq_true h.2,Bool.and_self,Bool.or_true,Bool.true_or]
 have h1:1≤(dg (i.natAbs:Int)).length:=by
  rcases hh:dg (i.natAbs:Int) with _ | _
  ·exact (hne hh).elim
  ·simp
 rcases Int.natAbs_eq i with e | e
 ·rw [e]
  exact ⟨h1,by omega,fun c hc=>hw c (hd c hc)⟩
 ·by_cases h0:i.natAbs=0
  ·have e2:dg i=dg (i.natAbs:Int):=by rw [show i=0 by omega];rfl
   rw [e2]
   exact ⟨h1,by omega,fun c hc=>hw c (hd c hc)⟩
  ·have e2:dg i=45::dg (i.natAbs:Int):=by
    have:=W7 (n:=i.natAbs) (by omega)
    rw [← e] at this
    exact this
   rw [e2]
   refine ⟨by simp,by rw [List.length_cons];omega,fun c hc=>?_⟩
   rcases List.mem_cons.mp hc with rfl | hc
   ·decide
   ·exact hw c (hd c hc)
theorem Xg (m:Mk):Rd.okW (mc m):=by
 cases m<;>exact ⟨by decide +kernel,by decide +kernel,by decide +kernel⟩
theorem Y3:Rd.okL []:=⟨by decide,fun c h=>by cases h⟩
theorem X0:∀ {t:Tm} {d:Nat},Gd t→dp t≤d→Rd.Ok d (nt t)
 | .num i,d,h,_=>by cases d<;>exact ⟨Y3,Qs h⟩
 | .here,d,h,_=>by cases d<;>exact ⟨Y3,Xg _⟩
 | .part t p,d,h,hd=>by
  simp only [dp] at hd
  obtain ⟨j,rfl⟩:∃ m,d=m+1:=⟨d - 1,by omega⟩
  have hp:((p:Nat):Int).natAbs<10^60:=by have:=h.2;rw [Int.natAbs_natCast];exact Nat.lt_of_le_of_lt this (by decide)
  refine ⟨Y3,Xg _,X0 h.1 (by omega),?_,trivial⟩
  cases j<;>exact ⟨Y3,Qs hp⟩
 | .one m t,d,h,hd=>by
  simp only [dp] at hd
  obtain ⟨j,rfl⟩:∃ m,d=m+1:=⟨d - 1,by omega⟩
  exact ⟨Y3,Xg _,X0 h.2 (by omega),trivial⟩
 | .two m a b,d,h,hd=>by
  simp only [dp] at hd
  obtain ⟨j,rfl⟩:∃ m,d=m+1:=⟨d - 1,by omega⟩
  exact ⟨Y3,Xg _,X0 h.2.1 (by omega),X0 h.2.2 (by omega),trivial⟩
 | .when a b c,d,h,hd=>by
  simp only [dp] at hd
  obtain ⟨j,rfl⟩:∃ m,d=m+1:=⟨d - 1,by omega⟩
  exact ⟨Y3,Xg _,X0 h.1 (by omega),X0 h.2.1 (by omega),X0 h.2.2 (by omega),trivial⟩
namespace Rd
end Rd
def Xc (w:List Nat):Bool:=w==[48]||(decide (1≤(if w.head?=some 45 then w.drop 1 else w).length)&&decide ((if w.head?=some 45 then w.drop 1 else w).length≤60) && !((if w.head?=some 45 then w.drop 1 else w).head?==some 48)&&(if w.head?=some 45 then w.drop 1 else w).all Rd.isFig)
theorem Wv:∀ (k:Nat) (f:List Nat),f.length=k→1≤k→(∀ c∈f,48≤c∧c≤57)→(f.head?≠some 48∨k=1)→∃ n:Nat,dg (n:Int)=f∧n<10^k
 | 0,_,_,h,_,_=>by omega
 | 1,f,hl,_,hd,_=>by
  match f,hl with
  | [c],_ =>
   obtain ⟨h1,h2⟩:=hd c (by simp)
   have key:∀ d:Nat,d<10→dg (d:Int)=[48+d]:=by
    intro d hd
    rw [Xr,Nat.toDigits_of_lt_base hd]
    have:∀ d:Nat,d<10→(Nat.digitChar d).toNat=48+d:=by decide
    rw [List.map_cons,List.map_nil,this d hd]
   refine ⟨c - 48,?_,by omega⟩
   rw [key (c - 48) (by omega)]
   congr 1
   omega
 | k+2,f,hl,_,hd,hh=>by
  have hne:f≠[]:=by intro z;rw [z] at hl;simp at hl
  obtain ⟨g,c,rfl⟩:∃ g c,f=g++[c]:=⟨f.dropLast,f.getLast hne,(List.dropLast_concat_getLast hne).symm⟩
  rw [List.length_append,List.length_singleton] at hl
  have hg:g.head?≠some 48:=by
   rcases hh with hh | hh
   ·cases g with
    | nil=>simp
    | cons x g=>exact hh
   ·omega
  obtain ⟨n,e,hn⟩:=Wv (k+1) g (by omega) (by omega) (fun x hx=>hd x (by simp [hx])) (.inl hg)
  obtain ⟨h1,h2⟩:=hd c (by simp)
  have hn0:0<n:=by
   rcases Nat.eq_zero_or_pos n with z | z
   ·subst z
    have e0:dg ((0:Nat):Int)=[48]:=by decide +kernel
    rw [e0] at e
    rw [← e] at hg
    exact (hg rfl).elim
   ·exact z
  refine ⟨10*n+(c - 48),?_,?_⟩
  ·rw [Xr,← Nat.toDigits_append_toDigits (by decide) hn0 (by omega),List.map_append,← Xr,e,Nat.toDigits_of_lt_base (by omega)]
   have:∀ d:Nat,d<10→(Nat.digitChar d).toNat=48+d:=by decide
   rw [List.map_cons,List.map_nil,this _ (by omega)]
   congr 2
   omega
  ·rw [Nat.pow_succ]
   omega
theorem figs {f:List Nat} (h:f.all Rd.isFig=true):∀ c∈f,48≤c∧c≤57:=fun c hc=>by
 have:=List.all_eq_true.mp h c hc
 simpa [Rd.isFig] using this
theorem Vu {w:List Nat} (h:Xc w=true):∃ i:Int,w=dg i∧i.natAbs<10^60:=by
 unfold Xc at h
 rcases (Bool.or_eq_true _ _).mp h with h | h
 ·have e:w=[48]:=by simpa using h
  refine ⟨0,?_,by decide⟩
  rw [e]
  decide +kernel
 ·simp only [Bool.and_eq_true,decide_eq_true_eq,Bool.not_eq_true',beq_eq_false_iff_ne] at h
  obtain ⟨⟨⟨h1,h2⟩,h3⟩,h4⟩:=h
  by_cases c:w.head?=some 45
  ·rw [if_pos c] at h1 h2 h3 h4
   obtain ⟨n,e,hn⟩:=Wv _ _ rfl h1 (figs h4) (.inl h3)
   have hn0:0<n:=by
    rcases Nat.eq_zero_or_pos n with z | z
    ·subst z
     have e0:dg ((0:Nat):Int)=[48]:=by decide +kernel
     rw [e0] at e
     rw [← e] at h3
     exact (h3 rfl).elim
    ·exact z
   refine ⟨-(n:Int),?_,?_⟩
   ·rw [W7 hn0,e]
    exact Rd.hd_eq c
   ·rw [Int.natAbs_neg,Int.natAbs_natCast]
    exact Nat.lt_of_lt_of_le hn (Nat.pow_le_pow_right (by decide) h2)
  ·rw [if_neg c] at h1 h2 h3 h4
   obtain ⟨n,e,hn⟩:=Wv _ _ rfl h1 (figs h4) (.inl h3)
   refine ⟨(n:Int),e.symm,?_⟩
   rw [Int.natAbs_natCast]
   exact Nat.lt_of_lt_of_le hn (Nat.pow_le_pow_right (by decide) h2)
def ZV (K:PySem.W.Frag):Sp:=fun vs H Q _=>∃ w:List Nat,vs=[.str (S w)]∧w.length≤1000∧∀ H',Same H H'→Q (.bl (Xc w)) H'
theorem sw45 (w:List Nat):Txt.startswith (S w) (S [45])=decide (w.head?=some 45):=by
 cases w with
 | nil=>decide +kernel
 | cons a l =>
  have:Txt.startswith (S (a::l)) (S [45])=decide (a=45):=by
   simp [Txt.startswith,Builtin.Str.subAt,S,Str.length]
   rfl
  rw [this]
  simp
theorem Z1J {k:Nat} {Z1 Z2 Z3 Z0:Addr} (R:g.Raw "is_number_word" "is_number_word" Z00 ["word"]) (F_is_figure:g.Fn k "is_figure" ["sign"] (Rd.spSign Rd.isFig)) (b_all:g.mg "all"=none) (b_len:g.mg "len"=none) (Z1k:g.Con "MOST_FIGURES" (.int 60)):g.Fn (k+1) "is_number_word" ["word"] (ZV g.K):=by
 refine R.fn Z0N (fun vs H Q E h=>by obtain ⟨w,rfl,hl,q⟩:=h;rfl) fun f_ cdv A outer s H vs Q E hr h=>?_
 obtain ⟨w,rfl,hl,q⟩:=h
 refine ⟨_,(@Yd _ _ _ _ _ (@Yt _ _ _ _ _ _ _ _ (@Yp _ _ _ _ _ _ _ _ YQ (pv 0) Yb (Yr _)) (@Ye _ _ _ (@Yj _ _ _ _ WW)) Yk) (@Yd _ _ _ _ _ (@Ym _ _ (1) _ _ _ _ Z0N.nd rfl (.inl rfl) (@Yaz _ _ _ _ _ _ _ _ (@Y1 _ _ _ (@VP _ _ _ _ _ _ _ _ _ _ _ _ PySem.F.plainAttrs_str PySem.F.slot_str_startswith PySem.F.type_str_startswith Yad (pv 0) (@Ya _ _ _ _ _ Yb Yc (by rfl)) (by rfl) (by rfl) (by rfl) (by rfl) (by rfl)) (by intro _;rfl)) (@WM _ _ _ _ _ _ _ _ _ _ V4 (pv 0) (@X4 _ _ _ Yh) YbC) (pv 0)) (by rfl) (by first | exact .inl rfl | exact .inr rfl | assumption)) (@Yd _ _ _ _ _ (@Yt _ _ _ _ _ _ _ _ (@Xh _ _ _ _ (@WL _ _ _ _ _ _ _ _ _ _ _ _ XV XV Yh (@Xe _ _ _ _ _ _ _ _ _ _ b_len Xb (@Ya _ _ _ _ _ (pv 1) Yc (by rfl)) (by decide +kernel) (by rfl) (by rfl) (by decide) (by decide) (by rfl) (by rfl)) (@WF _ _ _ _ _ Z1k (by rfl) (by rfl) (by decide)) (by with_unfolding_all rfl))) (@Ye _ _ _ (@Yj _ _ _ _ WW)) Yk) (@Ye _ _ _ (@Yj _ _ _ _ (@VU _ _ _ _ _ _ _ (@Xm _ _ _ _ _ _ _ _ WB (@Yz _ _ _ _ _ _ _ Ycv (pv 1) Yh (fun _ _=>rfl)) Yb (Yr _)) (@Wl _ _ _ _ _ (@Xe _ _ _ _ _ _ _ _ _ _ b_all (X6 rfl) (@Ya _ _ _ _ _ (@Ya4 _ _ _ _ _ _ _ ([none]) ((["sign"]:List Str)) _ (Y4 0) _ _ (.own .nil) rfl (@V5 _ _ _ _ (pv 1)) (fun cl C s₀ H₀ fp pn=>(@Xt _ _ (0) _ (show List.Nodup (["sign"]:List Str) by decide +kernel) rfl (.inl rfl) (.inr rfl))) (fun cl C s₀ H₀ fp pn=>WE) (fun cl C s₀ H₀ fp pn=>(@YR _ _ _ _ _ _ _ _ _ _ _ _ F_is_figure hr (@Ya _ _ _ _ _ (pv 0) Yc (by rfl)) (by omega) (by rfl) (by rfl) (by decide) (by rfl) (by rfl))) (by intro x hx;simp at hx) (by rfl) (by decide) (by decide +kernel) (by intro _;rfl)) Yc (by rfl)) (by decide +kernel) (by rfl) (by rfl) (by decide) (by decide) (by rfl) (by rfl))))))))),?_⟩
 have e0:Str.ofString "0"=S [48]:=by decide +kernel
 have em:Str.ofString "-"=S [45]:=by decide +kernel
 have hsw:=Yx w
 by_cases hz:w=[48]
 ·subst hz
  have hq:=q H (.refl _)
  rw [show Xc [48]=true by decide] at hq
  walk_at "rd"
  exact Ws e0.symm hq
 have hnz:Xc w=(decide (1≤(if w.head?=some 45 then w.drop 1 else w).length)&&decide ((if w.head?=some 45 then w.drop 1 else w).length≤60) && !((if w.head?=some 45 then w.drop 1 else w).head?==some 48)&&(if w.head?=some 45 then w.drop 1 else w).all Rd.isFig):=by
  unfold Xc
  rw [show (w==[48])=false by simpa using hz,Bool.false_or]
 refine V8 (fun σ H'=>σ=[some (.str (S w)),some (.str (S (if w.head?=some 45 then w.drop 1 else w)))]∧H'=H) ?_ ?_
 ·rintro σ H' ⟨rfl,rfl⟩
  have hfl:(if w.head?=some 45 then w.drop 1 else w).length≤1000:=by
   split
   ·rw [List.length_drop];omega
   ·exact hl
  generalize (if w.head?=some 45 then w.drop 1 else w)=f at hnz hfl
  have hsf:=Yx f
  walk_at "rd"
  refine ⟨few (by omega),Yw (fun c1=>Yw (fun c2=>?_) fun c2=>?_) fun c1=>?_⟩
  ·have hq:=q H' (.refl _)
   rw [hnz,show decide (f.length≤60)=false from decide_eq_false (by omega)] at hq
   simpa using hq
  ·match f,hsf,c1,c2,hnz,hfl with
   | c::r,hsf,c1,c2,hnz,hfl =>
    refine ⟨_,0,c,rfl,rfl,few (by omega),?_,rfl,Yw (fun cz=>?_) fun cz=>?_⟩
    ·rw [YN]
     exact Y6 (xs:=c::r) (j:=0) rfl
    ·have hc:c≠48:=fun z=>cz (by rw [z,e0];rfl)
     refine YbN (l:=c::r) (((c::r).map Rd.isFig).map V.bl) (fun R r=>by walk_at "rd";exact r) (by simp) (by simp at hfl ⊢;omega) ?_ ?_
     ·intro j d y H1 hd hy sm R rr
      rw [List.getElem?_map,List.getElem?_map,hd] at hy
      have:V.bl (Rd.isFig d)=y:=Option.some.inj hy
      subst this
      walk_at "rd"
      refine ⟨[d],rfl,by simp,?_⟩
      rw [show ([d]:List Nat).any Rd.isFig=Rd.isFig d by simp]
      exact rr H1 (.refl _)
     ·intro D H1 hD sm hd
      refine ⟨D,rfl,_,SqL.of hd,?_⟩
      have hq:=q H1 sm
      rw [hnz,show decide (1≤(c::r).length)=true from decide_eq_true (by omega),show decide ((c::r).length≤60)=true from decide_eq_true (by omega),show ((c::r).head?==some 48)=false by simpa using hc] at hq
      rw [show ((c::r).map Rd.isFig).all id=(c::r).all Rd.isFig by rw [List.all_map];rfl]
      simpa using hq
    ·have hc:c=48:=by
      have cz':V.str ⟨#[c]⟩=V.str (Str.ofString "0"):=Classical.not_not.mp cz
      rw [e0] at cz'
      injection cz' with cz'
      have:=Xf (a:=[c]) (b:=[48]) cz'
      simpa using this
     have hq:=q H' (.refl _)
     rw [hnz,show ((c::r).head?==some 48)=true by simpa using hc] at hq
     simpa using hq
  ·have hq:=q H' (.refl _)
   rw [hnz,show decide (1≤f.length)=false from decide_eq_false (by omega)] at hq
   simpa using hq
 ·intro N hN
  walk_at "rd"
  refine XC (fun z=>hz ?_) ⟨rfl,_,_,rfl,rfl,?_⟩
  ·rw [e0] at z
   exact Xf z
  ·rw [em,sw45]
   refine ⟨_,rfl,?_⟩
   by_cases c:w.head?=some 45
   ·rw [decide_eq_true c]
    rw [if_pos c] at hN
    refine Ws rfl ⟨_,rfl,few (by omega),?_⟩
    have:=YbJ w 1
    rw [show ((1:Nat):Int)=1 from rfl] at this
    rw [this]
    exact hN _ _ ⟨rfl,rfl⟩
   ·rw [decide_eq_false c]
    rw [if_neg c] at hN
    exact XC (by decide) (hN _ _ ⟨rfl,rfl⟩)
namespace Rd
def Notes.list:Notes→List Note
 | .nil=>[]
 | .cons n r=>n::r.list
theorem Notes.len_list:∀ ks:Notes,ks.list.length=ks.len
 | .nil=>rfl
 | .cons _ r=>congrArg (·+1) r.len_list
theorem NotesAt.iff {H:Hp}:∀ {ks:Notes} {vs:List V},NotesAt H ks vs↔vs.length=ks.len∧∀ (i:Nat) v n,vs[i]?=some v→ks.list[i]?=some n→NoteAt H n v
 | .nil,vs=>by
  simp only [NotesAt,Notes.list,Notes.len]
  constructor
  ·rintro rfl
   exact ⟨rfl,fun i v p h=>by simp at h⟩
  ·rintro ⟨h,_⟩
   exact List.length_eq_zero_iff.mp h
 | .cons n r,vs=>by
  simp only [NotesAt,Notes.list,Notes.len]
  constructor
  ·rintro ⟨v,us,rfl,h1,h2⟩
   obtain ⟨h3,h4⟩:=NotesAt.iff.mp h2
   refine ⟨by simp [h3],fun i x p hx hp=>?_⟩
   match i with
   | 0=>cases hx;cases hp;exact h1
   | i+1=>exact h4 i x p (by simpa using hx) (by simpa using hp)
  ·rintro ⟨h1,h2⟩
   match vs,h1 with
   | v::us,h1=>exact ⟨v,us,rfl,h2 0 v _ rfl rfl,NotesAt.iff.mpr ⟨by simpa using h1,fun i x p hx hp=>h2 (i+1) x p (by simpa using hx) (by simpa using hp)⟩⟩
theorem Oks.mem {d:Nat}:∀ {ks:Notes} {n:Note},Oks d ks→n∈ks.list→Ok d n
 | .cons m r,n,h,hn=>by
  rcases List.mem_cons.mp hn with rfl | hn
  ·exact h.1
  ·exact Oks.mem h.2 hn
 | .nil,n,_,hn=>by cases hn
theorem NoteAt.same {H H':Hp} (s:Same H H') {n:Note} {v:V} (h:NoteAt H n v):NoteAt H' n v:=h.keep fun b xs e=>s b _ e
theorem NotesAt.same {H H':Hp} (s:Same H H') {n:Notes} {v:List V} (h:NotesAt H n v):NotesAt H' n v:=h.keep fun b xs e=>s b _ e
def Note.un:Note→Note
 | .leaf _ w => .leaf [] w
 | .node _ w ks => .node [] w ks
theorem Ok.un {d:Nat} {n:Note} (h:Ok d n):Ok d n.un:=by
 cases n with
 | leaf l w =>
  have h':okL l∧okW w:=by cases d<;>exact h
  cases d<;>exact ⟨⟨Nat.zero_le _,fun c h=>by cases h⟩,h'.2⟩
 | node l w ks =>
  match d,h with
  | d+1,h=>exact ⟨⟨Nat.zero_le _,fun c h=>by cases h⟩,h.2⟩
theorem Ok.wd {d:Nat} {l w:List Nat} (h:Ok d (.leaf l w)):w.length≤62∧l.length≤8:=by
 have h':okL l∧okW w:=by cases d<;>exact h
 exact ⟨h'.2.2.1,h'.1.1⟩
end Rd
def Xs:Rd.Note→Option Int
 | .leaf [] w=>if Xc w=true then intText? (S w) else none
 | _=>none
theorem VM {n:Rd.Note} {i:Int} (h:Xs n=some i):∃ w,n = .leaf [] w∧w=dg i∧i.natAbs<10^60∧Xc w=true:=by
 match n,h with
 | .leaf [] w,h =>
  rw [Xs] at h
  by_cases c:Xc w=true
  ·rw [if_pos c] at h
   obtain ⟨j,e,hj⟩:=Vu c
   rw [e,W8 (Nat.lt_trans hj (by decide +kernel))] at h
   cases h
   exact ⟨w,rfl,e,hj,c⟩
  ·rw [if_neg c] at h;cases h
theorem WT {w:List Nat} {i:Int} (h:Xc w=true) (e:w=dg i) (hi:i.natAbs<10^60):Xs (.leaf [] w)=some i:=by
 rw [Xs,if_pos h,e]
 exact W8 (Nat.lt_trans hi (by decide +kernel))
def Z1D (CN:Addr):Sp:=fun vs H Q E=>∃ (n:Rd.Note) (v:V),vs=[v]∧Rd.NoteAt H n v∧(∀ w,n = .leaf [] w→Q (.str (S w)) H)∧((∀ w,n ≠ .leaf [] w)→E (.ref CN) none H)
theorem Us {Z1 Z2 Z3 Z0:Addr} (R:g.Raw "lone_word" "lone_word" Z13 ["note"]) (x_NoNote:g.mg "NoNote"=some (.ref Z2)) (r_NoNote:PySem.W.excIn g.K Z2 Y2 "ValueError.__new__"=true):g.FnX (1) "lone_word" ["note"] (Z1D Z2):=by
 refine R.fnX Ue (fun vs H Q E h=>by obtain ⟨n,v,rfl,hv,q,qe⟩:=h;rfl) fun f_ cdv A outer s H vs Q E hr h=>?_
 obtain ⟨n,v,rfl,hv,q,qe⟩:=h
 refine ⟨_,(@Yd _ _ _ _ _ (@Yt _ _ _ _ _ _ _ _ (@U5 _ _ _ _ _ _ _ (@Yp _ _ _ _ _ _ _ _ WB (@Yz _ _ _ _ _ _ _ YG (pv 0) Yh (fun _ _=>rfl)) Yb (Yr _)) (@VT _ _ _ _ (@Yp _ _ _ _ _ _ _ _ Ybv (@Yz _ _ _ _ _ _ _ YG (pv 0) Yh (fun _ _=>rfl)) XM (Yr _)))).pt (@Ye _ _ _ (@YE _ _ _ _ _ _ _ _ _ _ _ ⟨x_NoNote,r_NoNote⟩ YZ (@Ya _ _ _ _ _ Yb Yc (by rfl)) (by rfl) (by rfl) (by rfl) (by decide) (by rfl) (by rfl))) Yk) (@Ye _ _ _ (PS.nox (@Yj _ _ _ _ (@Yz _ _ _ _ _ _ _ YG (pv 0) Yh (fun _ _=>rfl)))))),?_⟩
 have e0:Str.ofString ""=S []:=by decide +kernel
 cases n with
 | leaf l w =>
  obtain ⟨a,rfl,ha⟩:=hv
  walk_at "rd"
  refine ⟨_,SqT.of ha,_,rfl,rfl,Yw (fun c=>⟨few (by decide),qe fun w' z=>?_⟩) fun c=>⟨_,SqT.of ha,_,rfl,XC (by simp) ⟨_,SqT.of ha,_,rfl,q w ?_⟩⟩⟩
  ·cases z
   exact c (by rw [e0])
  ·have:S l=S []:=by rw [← e0];exact Classical.byContradiction fun z=>c fun y=>z (V.str.inj y)
   rw [Xf this]
 | node l w ks =>
  obtain ⟨a,b,us,rfl,ha,hb,hn⟩:=hv
  walk_at "rd"
  refine ⟨_,SqT.of ha,_,rfl,rfl,Yw (fun c=>⟨few (by decide),qe fun w' z=>?_⟩) fun c=>⟨_,SqT.of ha,_,rfl,Ws (by simp) ⟨few (by decide),qe fun w' z=>?_⟩⟩⟩
  ·cases z
  ·cases z
def Z0Q (K:PySem.W.Frag) (CN:Addr):Sp:=fun vs H Q E=>∃ (n:Rd.Note) (v:V) (d:Nat),vs=[v]∧Rd.NoteAt H n v∧Rd.Ok d n∧(∀ i H',Same H H'→Xs n=some i→Q (.int i) H')∧(Xs n=none→∀ H',Same H H'→E (.ref CN) none H')
theorem Z1K {k:Nat} {Z1 Z2 Z3 Z0:Addr} (R:g.Raw "number_drafted" "number_drafted" Z01 ["note"]) (Z02:g.Fn k "is_number_word" ["word"] (ZV g.K)) (F_lone_word:g.FnX k "lone_word" ["note"] (Z1D Z2)) (b_int:g.mg "int"=none) (x_NoNote:g.mg "NoNote"=some (.ref Z2)) (r_NoNote:PySem.W.excIn g.K Z2 Y2 "ValueError.__new__"=true):g.FnX (k+1) "number_drafted" ["note"] (Z0Q g.K Z2):=by
 refine R.fnX Z0O (fun vs H Q E h=>by obtain ⟨n,v,d,rfl,hv,hok,q,qe⟩:=h;rfl) fun f_ cdv A outer s H vs Q E hr h=>?_
 obtain ⟨n,v,d,rfl,hv,hok,q,qe⟩:=h
 refine ⟨_,(@Yd _ _ _ _ _ (@Ym _ _ (1) _ _ _ _ Z0O.nd rfl (.inl rfl) (@YK _ _ _ _ _ _ _ _ _ _ _ _ _ F_lone_word hr YM (@Ya _ _ _ _ _ (pv 0) Yc (by rfl)) (by omega) (by rfl) (by rfl) (by decide) (by rfl) (by rfl)) (by rfl) (by first | exact .inl rfl | exact .inr rfl | assumption)) (@Yd _ _ _ _ _ (@Yt _ _ _ _ _ _ _ _ (@Xh _ _ _ _ (@Y1 _ _ _ (@YR _ _ _ _ _ _ _ _ _ _ _ _ Z02 hr (@Ya _ _ _ _ _ (pv 1) Yc (by rfl)) (by omega) (by rfl) (by rfl) (by decide) (by rfl) (by rfl)) (by intro _;rfl))) (@Ye _ _ _ (@YE _ _ _ _ _ _ _ _ _ _ _ ⟨x_NoNote,r_NoNote⟩ YZ (@Ya _ _ _ _ _ Yb Yc (by rfl)) (by rfl) (by rfl) (by rfl) (by decide) (by rfl) (by rfl))) Yk) (@Ye _ _ _ (PS.nox (@Yj _ _ _ _ (@XD _ _ _ _ _ _ _ _ _ _ b_int Wk (@Ya _ _ _ _ _ (pv 1) Yc (by rfl)) (by decide +kernel) (by rfl) (by rfl) (by decide) (by decide) (by rfl) (by rfl))))))),?_⟩
 walk_at "rd"
 refine ⟨n,v,rfl,hv,fun w e=>?_,fun e=>qe ?_ H (.refl _)⟩
 ·subst e
  have hwl:=hok.wd.1
  refine ⟨w,rfl,by omega,fun H1 s1=>⟨_,rfl,?_⟩⟩
  refine Yw (fun c=>⟨few (by decide),qe ?_ H1 s1⟩) fun c=>?_
  ·rw [Xs,if_neg (by rw [c];decide)]
  ·have hb:Xc w=true:=by
    cases z:Xc w with
    | true=>rfl
    | false=>exact (c z).elim
   obtain ⟨i,e,hi⟩:=Vu hb
   exact ⟨_,rfl,i,by rw [e];exact W8 (Nat.lt_trans hi (by decide +kernel)),by rw [Yx];omega,q i H1 s1 (WT hb e hi)⟩
 ·cases z:Xs n with
  | none=>rfl
  | some i =>
   obtain ⟨w,e1,_⟩:=VM z
   exact (e w e1).elim
def o1 (w:List Nat):Option Mk:=if w=mc .count then some .count else if w=mc .sum then some .sum else if w=mc .not then some .not else if w=mc .turned then some .turned else none
def o2 (w:List Nat):Option Mk:=if w=mc .plus then some .plus else if w=mc .times then some .times else if w=mc .less then some .less else if w=mc .same then some .same else if w=mc .both then some .both else if w=mc .each then some .each else if w=mc .joined then some .joined else none
theorem YcZ {m m':Mk} (h:mc m=mc m'):m=m':=by
 have:ms m=ms m':=by rw [YT,YT,h]
 rwa [Uq] at this
theorem Ycc {w:List Nat} {m:Mk} (h:o1 w=some m):w=mc m∧is1 m:=by
 unfold o1 at h
 split at h
 ·rename_i e;cases h;exact ⟨e,.inl rfl⟩
 split at h
 ·rename_i e;cases h;exact ⟨e,.inr (.inl rfl)⟩
 split at h
 ·rename_i e;cases h;exact ⟨e,.inr (.inr (.inl rfl))⟩
 split at h
 ·rename_i e;cases h;exact ⟨e,.inr (.inr (.inr rfl))⟩
 cases h
theorem Ycd {w:List Nat} {m:Mk} (h:o2 w=some m):w=mc m∧is2 m:=by
 unfold o2 at h
 split at h
 ·rename_i e;cases h;exact ⟨e,.inl rfl⟩
 split at h
 ·rename_i e;cases h;exact ⟨e,.inr (.inl rfl)⟩
 split at h
 ·rename_i e;cases h;exact ⟨e,.inr (.inr (.inl rfl))⟩
 split at h
 ·rename_i e;cases h;exact ⟨e,.inr (.inr (.inr (.inl rfl)))⟩
 split at h
 ·rename_i e;cases h;exact ⟨e,.inr (.inr (.inr (.inr (.inl rfl))))⟩
 split at h
 ·rename_i e;cases h;exact ⟨e,.inr (.inr (.inr (.inr (.inr (.inl rfl)))))⟩
 split at h
 ·rename_i e;cases h;exact ⟨e,.inr (.inr (.inr (.inr (.inr (.inr rfl)))))⟩
 cases h
theorem Qt {m:Mk} (h:is1 m):o1 (mc m)=some m:=by rcases h with rfl | rfl | rfl | rfl<;>decide +kernel
theorem Vd {m:Mk} (h:is2 m):o2 (mc m)=some m:=by rcases h with rfl | rfl | rfl | rfl | rfl | rfl | rfl<;>decide +kernel
theorem Ww {m:Mk} (h:is2 m):o1 (mc m)=none:=by rcases h with rfl | rfl | rfl | rfl | rfl | rfl | rfl<;>decide +kernel
theorem Xo {m:Mk} (h:is1 m∨is2 m):mc m≠mc .part:=fun z=>by
 have:=YcZ z
 subst this
 rcases h with h | h
 ·rcases h with h | h | h | h<;>cases h
 ·rcases h with h | h | h | h | h | h | h<;>cases h
def plc (i:Int):Option Nat:=if 0≤i∧i≤20 then some i.toNat else none
def Xx (n:Rd.Note):Option Nat:=(Xs n).bind plc
def pl2:Rd.Notes→Option Nat
 | .cons _ (.cons n .nil)=>Xx n
 | _=>none
def tw (w:List Nat):Option Tm:=if w=mc .here then some .here else (Xs (.leaf [] w)).map .num
def two (m:Mk):Option (List Tm)→Option Tm
 | some [a,b]=>some (.two m a b)
 | _=>none
def whn:Option (List Tm)→Option Tm
 | some [a,b,c]=>some (.when a b c)
 | _=>none
def prt:Option Tm→Option Nat→Option Tm
 | some t,some p=>some (.part t p)
 | _,_=>none
def tbk (w:List Nat) (n:Nat) (hd:Option Tm) (ts:Option (List Tm)) (p:Option Nat):Option Tm :=
 if w=mc .part then (if n=2 then prt hd p else none) else match o1 w with
  | some m=>if n=1 then hd.map (.one m) else none
  | none=>match o2 w with
   | some m=>two m ts
   | none=>if w=mc .when then whn ts else none
mutual
def tn:Rd.Note→Option Tm
 | .leaf l w=>if l=[] then tw w else none
 | .node l w ks=>if l=[] then tbk w ks.len (thd ks) (tns ks) (pl2 ks) else none
def thd:Rd.Notes→Option Tm
 | .nil=>none
 | .cons n _=>tn n
def tns:Rd.Notes→Option (List Tm)
 | .nil=>some []
 | .cons n r=>match tn n,tns r with
  | some t,some ts=>some (t::ts)
  | _,_=>none
end
theorem Ut {n:Rd.Note}:∀ {ks:Rd.Notes},n∈ks.list→tn n=none→tns ks=none
 | .cons x r,h,e=>by
  rw [tns]
  rcases List.mem_cons.mp h with rfl | h
  ·rw [e]
  ·rw [Ut h e]
   cases tn x<;>rfl
theorem Uu {H:Hp}:∀ {ks:Rd.Notes} {ys:List V},ys.length=ks.len→(∀ (i:Nat) y n,ys[i]?=some y→ks.list[i]?=some n→∃ t,tn n=some t∧TA H t y)→∃ ts,tns ks=some ts∧ts.length=ks.len∧∀ (i:Nat) y t,ys[i]?=some y→ts[i]?=some t→TA H t y
 | .nil,ys,hl,_=>⟨[],rfl,rfl,fun i y t _ h=>by simp at h⟩
 | .cons n r,[],hl,_=>by simp [Rd.Notes.len] at hl
 | .cons n r,y::ys,hl,h=>by
  obtain ⟨ts,e,h1,h2⟩:=Uu (ks:=r) (ys:=ys) (by simpa [Rd.Notes.len] using hl) fun i y n a b=>h (i+1) y n (by simpa using a) (by simpa [Rd.Notes.list] using b)
  obtain ⟨t,e1,h3⟩:=h 0 y n rfl rfl
  refine ⟨t::ts,by rw [tns,e1,e],by simp [Rd.Notes.len,h1],fun i z u a b=>?_⟩
  cases i with
  | zero=>cases a;cases b;exact h3
  | succ i=>exact h2 i z u (by simpa using a) (by simpa using b)
theorem Vv:∀ {ks:Rd.Notes} {ts:List Tm},tns ks=some ts→ts.length=ks.len
 | .nil,ts,h=>by cases h;rfl
 | .cons n r,ts,h=>by
  rw [tns] at h
  cases e1:tn n with
  | none=>rw [e1] at h;cases h
  | some t =>
   cases e2:tns r with
   | none=>rw [e1,e2] at h;cases h
   | some us =>
    rw [e1,e2] at h
    cases h
    simp [Rd.Notes.len,Vv e2]
theorem WU {m:Mk} {ks:Rd.Notes} (h:ks.len≠2):two m (tns ks)=none:=by
 cases e:tns ks with
 | none=>rfl
 | some ts =>
  have:=Vv e
  match ts,this with
  | [],_=>rfl
  | [_],_=>rfl
  | [_,_],this=>exact (h this.symm).elim
  | _::_::_::_,_=>rfl
theorem YaQ {ks:Rd.Notes} (h:ks.len≠3):whn (tns ks)=none:=by
 cases e:tns ks with
 | none=>rfl
 | some ts =>
  have:=Vv e
  match ts,this with
  | [],_=>rfl
  | [_],_=>rfl
  | [_,_],_=>rfl
  | [_,_,_],this=>exact (h this.symm).elim
  | _::_::_::_::_,_=>rfl
def ZF (CN:Addr):Sp:=fun vs H Q E=>∃ (b:Addr) (us:List V) (n:Nat),vs=[.ref b,.int (n:Nat)]∧H b=some (.tup us)∧(us.length=n→Q .non H)∧(us.length≠n→E (.ref CN) none H)
theorem Z1n {Z1 Z2 Z3 Z0:Addr} (R:g.Raw "refuse_other_many" "refuse_other_many" ZN ["notes","many"]) (b_len:g.mg "len"=none) (x_NoNote:g.mg "NoNote"=some (.ref Z2)) (r_NoNote:PySem.W.excIn g.K Z2 Y2 "ValueError.__new__"=true):g.FnX (1) "refuse_other_many" ["notes","many"] (ZF Z2):=by
 refine R.fnX Z1l (fun vs H Q E h=>by obtain ⟨b,us,n,rfl,hb,q,qe⟩:=h;rfl) fun f_ cdv A outer s H vs Q E hr h=>?_
 obtain ⟨b,us,n,rfl,hb,q,qe⟩:=h
 refine ⟨_,(@Ye _ _ _ (@Yt _ _ _ _ _ _ _ _ (@Yp _ _ _ _ _ _ _ _ WB (@Xe _ _ _ _ _ _ _ _ _ _ b_len Wo (@Ya _ _ _ _ _ (pv 0) Yc (by rfl)) (by decide +kernel) (by rfl) (by rfl) (by decide) (by decide) (by rfl) (by rfl)) (pv 1) (Yr _)) (@Ye _ _ _ (@YE _ _ _ _ _ _ _ _ _ _ _ ⟨x_NoNote,r_NoNote⟩ YZ (@Ya _ _ _ _ _ Yb Yc (by rfl)) (by rfl) (by rfl) (by rfl) (by decide) (by rfl) (by rfl))) Yk)),?_⟩
 walk_at "rd"
 exact ⟨_,.inr (SqT.of hb),Yw (fun c=>⟨few (by decide),qe fun z=>c (by rw [z])⟩) fun c=>q (by omega)⟩
def Z0V (K:PySem.W.Frag) (CN:Addr):Sp:=fun vs H Q E=>∃ (n:Rd.Note) (v:V) (d:Nat),vs=[v]∧Rd.NoteAt H n v∧Rd.Ok d n∧(∀ (p:Nat) H',Same H H'→Xx n=some p→Q (.int (p:Nat)) H')∧(Xx n=none→∀ H',Same H H'→E (.ref CN) none H')
theorem Z1X {k:Nat} {Z1 Z2 Z3 Z0:Addr} (R:g.Raw "place_of_note" "place_of_note" Z0f ["note"]) (Z1Y:g.FnX k "number_drafted" ["note"] (Z0Q g.K Z2)) (Z1H:g.Con "LAST_PLACE" (.int 20)) (x_NoNote:g.mg "NoNote"=some (.ref Z2)) (r_NoNote:PySem.W.excIn g.K Z2 Y2 "ValueError.__new__"=true):g.FnX (k+1) "place_of_note" ["note"] (Z0V g.K Z2):=by
 refine R.fnX Z0T (fun vs H Q E h=>by obtain ⟨n,v,d,rfl,hv,hok,q,qe⟩:=h;rfl) fun f_ cdv A outer s H vs Q E hr h=>?_
 obtain ⟨n,v,d,rfl,hv,hok,q,qe⟩:=h
 refine ⟨_,(@Yd _ _ _ _ _ (@Ym _ _ (1) _ _ _ _ Z0T.nd rfl (.inl rfl) (@YK _ _ _ _ _ _ _ _ _ _ _ _ _ Z1Y hr YM (@Ya _ _ _ _ _ (pv 0) Yc (by rfl)) (by omega) (by rfl) (by rfl) (by decide) (by rfl) (by rfl)) (by rfl) (by first | exact .inl rfl | exact .inr rfl | assumption)) (@Yd _ _ _ _ _ (@Yt _ _ _ _ _ _ _ _ (@Xh _ _ _ _ (@WL _ _ _ _ _ _ _ _ _ _ _ _ XV XV Yh (pv 1) (@WF _ _ _ _ _ Z1H (by rfl) (by rfl) (by decide)) (by with_unfolding_all rfl))) (@Ye _ _ _ (@YE _ _ _ _ _ _ _ _ _ _ _ ⟨x_NoNote,r_NoNote⟩ YZ (@Ya _ _ _ _ _ Yb Yc (by rfl)) (by rfl) (by rfl) (by rfl) (by decide) (by rfl) (by rfl))) Yk) (@Ye _ _ _ (PS.nox (@Yj _ _ _ _ (pv 1)))))),?_⟩
 walk_at "rd"
 refine ⟨n,v,d,rfl,hv,hok,fun i H1 s1 e=>?_,fun e H1 s1=>qe (by rw [Xx,e];rfl) H1 s1⟩
 have ep:Xx n=plc i:=by rw [Xx,e];rfl
 walk_at "rd"
 refine Yw (fun c1=>Yw (fun c2=>⟨few (by decide),qe (by rw [ep,plc,if_neg (by omega)]) H1 s1⟩) fun c2=>?_) fun c1=>⟨few (by decide),qe (by rw [ep,plc,if_neg (by omega)]) H1 s1⟩
 have ei:((i.toNat:Nat):Int)=i:=by omega
 have:=q i.toNat H1 s1 (by rw [ep,plc,if_pos (by omega)])
 rw [ei] at this
 exact this
def Z0Y (K:PySem.W.Frag) (CN:Addr):Sp:=fun vs H Q E=>∃ w:List Nat,vs=[.str (S w)]∧w.length≤62∧(∀ t v H',Same H H'→tw w=some t→TA H' t v→Q v H')∧(tw w=none→∀ H',Same H H'→E (.ref CN) none H')
theorem Z2c {k:Nat} {Z1 Z2 Z3 Z0:Addr} (R:g.Raw "term_of_word" "term_of_word" Z0u ["word"]) (Z02:g.Fn k "is_number_word" ["word"] (ZV g.K)) (b_int:g.mg "int"=none) (x_NoNote:g.mg "NoNote"=some (.ref Z2)) (r_NoNote:PySem.W.excIn g.K Z2 Y2 "ValueError.__new__"=true):g.FnX (k+1) "term_of_word" ["word"] (Z0Y g.K Z2):=by
 refine R.fnX Z2b (fun vs H Q E h=>by obtain ⟨w,rfl,hl,q,qe⟩:=h;rfl) fun f_ cdv A outer s H vs Q E hr h=>?_
 obtain ⟨w,rfl,hl,q,qe⟩:=h
 refine ⟨_,(@Yd _ _ _ _ _ (PS.nox (@Yt _ _ _ _ _ _ _ _ (@Yp _ _ _ _ _ _ _ _ YQ (pv 0) Yb (Yr _)) (@Ye _ _ _ (@Yj _ _ _ _ (@Y9 _ _ _ _ _ (@Ya _ _ _ _ _ Yb (@Ya _ _ _ _ _ (@Y9 _ _ _ _ _ Yc) Yc (We _ _ _ _ _)) (by rfl))))) Yk)) (@Yd _ _ _ _ _ (PS.nox (@Yt _ _ _ _ _ _ _ _ (@Y1 _ _ _ (@YR _ _ _ _ _ _ _ _ _ _ _ _ Z02 hr (@Ya _ _ _ _ _ (pv 0) Yc (by rfl)) (by omega) (by rfl) (by rfl) (by decide) (by rfl) (by rfl)) (by intro _;rfl)) (@Ye _ _ _ (@Yj _ _ _ _ (@Y9 _ _ _ _ _ (@Ya _ _ _ _ _ Yb (@Ya _ _ _ _ _ (@XD _ _ _ _ _ _ _ _ _ _ b_int Wk (@Ya _ _ _ _ _ (pv 0) Yc (by rfl)) (by decide +kernel) (by rfl) (by rfl) (by decide) (by decide) (by rfl) (by rfl)) Yc (by rfl)) (by rfl))))) Yk)) (@Ye _ _ _ (@YE _ _ _ _ _ _ _ _ _ _ _ ⟨x_NoNote,r_NoNote⟩ YZ (@Ya _ _ _ _ _ Yb Yc (by rfl)) (by rfl) (by rfl) (by rfl) (by decide) (by rfl) (by rfl))))),?_⟩
 have eh:Str.ofString "here"=S (mc .here):=YT .here
 walk_at "rd"
 rw [eh]
 refine Yw (fun c=>?_) fun c=>?_
 ·have e:w=mc .here:=Xf c
  exact ⟨few (by decide),fun p hp=>⟨few (by decide),fun p1 hp1=>q .here _ _ ((Same.upd_new hp _).trans (.upd_new hp1 _)) (by rw [tw,if_pos e]) ⟨p1,p,rfl,Yf,(Same.upd_new hp1 _) _ _ Yf⟩⟩⟩
 ·have e:w≠mc .here:=fun z=>c (by rw [z])
  refine ⟨w,rfl,by omega,fun H1 s1=>⟨_,rfl,Yw (fun c=>?_) fun c=>⟨few (by decide),qe ?_ H1 s1⟩⟩⟩
  ·obtain ⟨i,e1,hi⟩:=Vu c
   exact ⟨i,by rw [e1];exact W8 (Nat.lt_trans hi (by decide +kernel)),by rw [Yx];omega,few (by decide),fun p hp=>q (.num i) _ _ (s1.trans (.upd_new hp _)) (by rw [tw,if_neg e,WT c e1 hi];rfl) ⟨p,rfl,Yf⟩⟩
  ·rw [tw,if_neg e,Xs,if_neg c]
   rfl
def X7 (K:PySem.W.Frag) (CN:Addr) (m:Nat):Sp:=fun vs H Q E=>∃ (n:Rd.Note) (v:V) (d:Nat),vs=[v]∧m=d+1∧Rd.NoteAt H n v∧Rd.Ok d n∧(∀ t v' H',tn n=some t→Same H H'→TA H' t v'→Q v' H')∧(tn n=none→∀ H',Same H H'→E (.ref CN) none H')
theorem Uv {K:PySem.W.Frag} {CN:Addr} {vs:List V} {H:Hp} {Q:VK} {E:XK} (h:X7 K CN 0 vs H Q E):False:=by
 obtain ⟨_,_,d,_,h,_⟩:=h
 omega
def spT (CN:Addr) (f:Rd.Notes→Option Tm) (d:Nat) (ks:Rd.Notes) (b:Addr) (H:Hp) (Q:VK) (E:XK):Prop:=(∃ us,H b=some (.tup us)∧Rd.NotesAt H ks us)∧Rd.Oks d ks∧(∀ t v H',f ks=some t→Same H H'→TA H' t v→Q v H')∧(f ks=none→∀ H',Same H H'→E (.ref CN) none H')
def Ve (ks:Rd.Notes):Option Tm:=if ks.len=2 then prt (thd ks) (pl2 ks) else none
def Z0W (K:PySem.W.Frag) (CN:Addr) (m:Nat):Sp:=fun vs H Q E=>∃ (b:Addr) (ks:Rd.Notes) (d:Nat),vs=[.ref b]∧m=d+1∧spT CN Ve d ks b H Q E
theorem Zm {k:Nat} {Z1 Z2 Z3 Z0:Addr} (R:g.Raw "part_of_notes" "part_of_notes" Z0g ["notes"]) (Zz:g.FnX k "refuse_other_many" ["notes","many"] (ZF Z2)) (Z2d:g.FnX k "place_of_note" ["note"] (Z0V g.K Z2)) (ZB:g.FnX k "term_of_note" ["note"] (X7 g.K Z2 m)):g.FnX (k+1) "part_of_notes" ["notes"] (Z0W g.K Z2 m):=by
 refine R.fnX Z1V (fun vs H Q E h=>by obtain ⟨b,ks,d,rfl,hm,⟨us,hb,hn⟩,hok,q,qe⟩:=h;rfl) fun f_ cdv A outer s H vs Q E hr h=>?_
 obtain ⟨b,ks,d,rfl,hm,⟨us,hb,hn⟩,hok,q,qe⟩:=h
 refine ⟨_,(@Yd _ _ _ _ _ (@XG _ _ _ _ (@YK _ _ _ _ _ _ _ _ _ _ _ _ _ Zz hr YM (@Ya _ _ _ _ _ (pv 0) (@Ya _ _ _ _ _ Yh Yc (by rfl)) (by rfl)) (by omega) (by rfl) (by rfl) (by decide) (by rfl) (by rfl)) (by rfl)) (@Ye _ _ _ (@Yj _ _ _ _ (@Y9 _ _ _ _ _ (@Ya _ _ _ _ _ Yb (@Ya _ _ _ _ _ (@Y9 _ _ _ _ _ (@Ya _ _ _ _ _ (@YK _ _ _ _ _ _ _ _ _ _ _ _ _ ZB hr YM (@Ya _ _ _ _ _ (@Yz _ _ _ _ _ _ _ YG (pv 0) Yh (fun _ _=>rfl)) Yc (by rfl)) (by omega) (by rfl) (by rfl) (by decide) (by rfl) (by rfl)) (@Ya _ _ _ _ _ (@YK _ _ _ _ _ _ _ _ _ _ _ _ _ Z2d hr YM (@Ya _ _ _ _ _ (@Yz _ _ _ _ _ _ _ YG (pv 0) Yh (fun _ _=>rfl)) Yc (by rfl)) (by omega) (by rfl) (by rfl) (by decide) (by rfl) (by rfl)) Yc (by rfl)) (by rfl))) Yc (We _ _ _ _ _)) (by rfl)))))),?_⟩
 have hln:=hn.length
 walk_at "rd"
 refine ⟨b,us,2,rfl,hb,fun hl=>?_,fun hl=>qe (by rw [Ve,if_neg (by omega)]) H (.refl _)⟩
 match ks,us,hn,hok,q,qe,hb,hln with
 | .cons x (.cons y .nil),us,⟨u1,us1,e1,h1,u2,us2,e2,h2,e3⟩,hok,q,qe,hb,hln =>
  subst e1 e2
  have e3':us2=[]:=e3
  subst e3'
  have hl2:(Rd.Notes.cons x (.cons y .nil)).len=2:=rfl
  have ef:Ve (.cons x (.cons y .nil))=prt (tn x) (Xx y):=by rw [Ve,if_pos hl2];rfl
  refine ⟨_,SqT.of hb,_,rfl,x,u1,d,rfl,hm,h1,hok.1,fun t v H1 e s1 h=>?_,fun e H1 s1=>qe (by rw [ef,e];rfl) H1 s1⟩
  refine ⟨_,SqT.of (s1 _ _ hb),_,rfl,y,u2,d,rfl,h2.same s1,hok.2.1,fun p H2 s2 e2=>⟨few (by decide),fun p1 hp1=>⟨few (by decide),fun p2 hp2=>?_⟩⟩,fun e2 H2 s2=>qe (by rw [ef,e,e2];rfl) H2 (s1.trans s2)⟩
  have w1:=Same.upd_new hp1 (.tup [v,.int (p:Nat)])
  have w2:=Same.upd_new hp2 (.tup [.str (Str.ofString "part"),.ref p1])
  exact q (.part t p) _ _ (by rw [ef,e,e2];rfl) ((s1.trans s2).trans (w1.trans w2)) ⟨p2,p1,v,rfl,Yf,w2 _ _ Yf,h.keep (.of (s2.trans (w1.trans w2)))⟩
 | .nil,us,_,_,_,_,_,hln=>rw [hln] at hl;exact absurd hl (by decide)
 | .cons x .nil,us,_,_,_,_,_,hln=>rw [hln] at hl;exact absurd hl (by simp [Rd.Notes.len])
 | .cons x (.cons y (.cons z r)),us,_,_,_,_,_,hln=>rw [hln] at hl;simp [Rd.Notes.len] at hl
def Uw (mk:Mk) (ks:Rd.Notes):Option Tm:=if ks.len=1 then (thd ks).map (.one mk) else none
def Z0Z (K:PySem.W.Frag) (CN:Addr) (m:Nat):Sp:=fun vs H Q E=>∃ (b:Addr) (ks:Rd.Notes) (d:Nat) (mk:Mk),vs=[.str (ms mk),.ref b]∧m=d+1∧spT CN (Uw mk) d ks b H Q E
theorem Zp {k:Nat} {Z1 Z2 Z3 Z0:Addr} (R:g.Raw "one_of_notes" "one_of_notes" Z0t ["mark","notes"]) (Zz:g.FnX k "refuse_other_many" ["notes","many"] (ZF Z2)) (ZB:g.FnX k "term_of_note" ["note"] (X7 g.K Z2 m)):g.FnX (k+1) "one_of_notes" ["mark","notes"] (Z0Z g.K Z2 m):=by
 refine R.fnX Z2a (fun vs H Q E h=>by obtain ⟨b,ks,d,mk,rfl,hm,⟨us,hb,hn⟩,hok,q,qe⟩:=h;rfl) fun f_ cdv A outer s H vs Q E hr h=>?_
 obtain ⟨b,ks,d,mk,rfl,hm,⟨us,hb,hn⟩,hok,q,qe⟩:=h
 refine ⟨_,(@Yd _ _ _ _ _ (@XG _ _ _ _ (@YK _ _ _ _ _ _ _ _ _ _ _ _ _ Zz hr YM (@Ya _ _ _ _ _ (pv 1) (@Ya _ _ _ _ _ Yh Yc (by rfl)) (by rfl)) (by omega) (by rfl) (by rfl) (by decide) (by rfl) (by rfl)) (by rfl)) (@Ye _ _ _ (@Yj _ _ _ _ (@Y9 _ _ _ _ _ (@Ya _ _ _ _ _ (pv 0) (@Ya _ _ _ _ _ (@YK _ _ _ _ _ _ _ _ _ _ _ _ _ ZB hr YM (@Ya _ _ _ _ _ (@Yz _ _ _ _ _ _ _ YG (pv 1) Yh (fun _ _=>rfl)) Yc (by rfl)) (by omega) (by rfl) (by rfl) (by decide) (by rfl) (by rfl)) Yc (by rfl)) (by rfl)))))),?_⟩
 have hln:=hn.length
 walk_at "rd"
 refine ⟨b,us,1,rfl,hb,fun hl=>?_,fun hl=>qe (by rw [Uw,if_neg (by omega)]) H (.refl _)⟩
 match ks,us,hn,hok,q,qe,hb,hln with
 | .cons x r,us,⟨u1,us1,e1,h1,h2⟩,hok,q,qe,hb,hln =>
  subst e1
  have ef:Uw mk (.cons x r)=(tn x).map (.one mk):=by rw [Uw,if_pos (by omega)];rfl
  refine ⟨_,SqT.of hb,_,Y6 (j:=0) rfl,x,u1,d,rfl,hm,h1,hok.1,fun t v H1 e s1 h=>⟨few (by decide),fun p1 hp1=>?_⟩,fun e H1 s1=>qe (by rw [ef,e];rfl) H1 s1⟩
  exact q (.one mk t) _ _ (by rw [ef,e];rfl) (s1.trans (.upd_new hp1 _)) ⟨p1,v,rfl,Yf,h.keep (.of (.upd_new hp1 _))⟩
 | .nil,us,_,_,_,_,_,hln=>rw [hln] at hl;exact absurd hl (by decide)
def Z0s (K:PySem.W.Frag) (CN:Addr) (m:Nat):Sp:=fun vs H Q E=>∃ (b:Addr) (ks:Rd.Notes) (us:List V) (d:Nat) (mk:Mk) (n:Nat),vs=[.str (ms mk),.ref b,.int (n:Nat)]∧m=d+1∧H b=some (.tup us)∧Rd.NotesAt H ks us∧Rd.Oks d ks∧n≤3∧(∀ (ts:List Tm) (p q:Addr) (ys:List V) H',tns ks=some ts→ts.length=n→Same H H'→H' q=some (.tup [.str (ms mk),.ref p])→H' p=some (.tup ys)→ys.length=n→(∀ (i:Nat) u t,ys[i]?=some u→ts[i]?=some t→TA H' t u)→Q (.ref q) H')∧(ks.len≠n∨tns ks=none→∀ H',Same H H'→E (.ref CN) none H')
theorem Zg {k:Nat} {Z1 Z2 Z3 Z0:Addr} (R:g.Raw "several_of_notes" "several_of_notes" ZQ ["mark","notes","many"]) (Zz:g.FnX k "refuse_other_many" ["notes","many"] (ZF Z2)) (ZB:g.FnX k "term_of_note" ["note"] (X7 g.K Z2 m)) (Zj:g.mg "tuple"=none):g.FnX (k+1) "several_of_notes" ["mark","notes","many"] (Z0s g.K Z2 m):=by
 refine R.fnX Z1y (fun vs H Q E h=>by obtain ⟨b,ks,us,d,mk,n,rfl,hm,hb,hn,hok,h3,q,qe⟩:=h;rfl) fun f_ cdv A outer s H vs Q E hr h=>?_
 obtain ⟨b,ks,us,d,mk,n,rfl,hm,hb,hn,hok,h3,q,qe⟩:=h
 refine ⟨_,(@Yd _ _ _ _ _ (@XG _ _ _ _ (@YK _ _ _ _ _ _ _ _ _ _ _ _ _ Zz hr YM (@Ya _ _ _ _ _ (pv 1) (@Ya _ _ _ _ _ (pv 2) Yc (by rfl)) (by rfl)) (by omega) (by rfl) (by rfl) (by decide) (by rfl) (by rfl)) (by rfl)) (@Ye _ _ _ (@Yj _ _ _ _ (@Y9 _ _ _ _ _ (@Ya _ _ _ _ _ (pv 0) (@Ya _ _ _ _ _ (@XD _ _ _ _ _ _ _ _ _ _ Zj Wj (@Ya _ _ _ _ _ (@YcB _ _ _ _ _ _ _ ([none]) ((["note"]:List Str)) _ (Y4 0) _ _ _ YbW (.own .nil) rfl (@Ycu _ _ _ _ (pv 1)) (fun cl C s₀ H₀ fp pn=>(@Xt _ _ (0) _ (show List.Nodup (["note"]:List Str) by decide +kernel) rfl (.inl rfl) (.inr rfl))) (fun cl C s₀ H₀ fp pn=>WE) (fun cl C s₀ H₀ fp pn=>(@YK _ _ _ _ _ _ _ _ _ _ _ _ _ ZB hr passC (@Ya _ _ _ _ _ (pv 0) Yc (by rfl)) (by omega) (by rfl) (by rfl) (by decide) (by rfl) (by rfl))) (by intro x hx;simp at hx) (by rfl) (by decide) (by decide +kernel) (by intro _;rfl)) Yc (by rfl)) (by decide +kernel) (by rfl) (by rfl) (by decide) (by decide) (by rfl) (by rfl)) Yc (by rfl)) (by rfl)))))),?_⟩
 have hln:=hn.length
 walk_at "rd"
 refine ⟨b,us,n,rfl,hb,fun hl=>?_,fun hl=>qe (.inl (by omega)) H (.refl _)⟩
 obtain ⟨hn1,hn2⟩:=Rd.NotesAt.iff.mp hn
 refine Yac (K:=g.K) (b:=b) (xs:=us) (fun D i y H'=>∀ n,ks.list[i]?=some n→∃ t,tn n=some t∧TA H' t y) (fun D i y H' H'' h s n hi=>by obtain ⟨z,e1,e2⟩:=h n hi;exact ⟨z,e1,e2.keep (.of s)⟩) (fun D i y H' zs zs' h hD n hi=>by obtain ⟨z,e1,e2⟩:=h n hi;exact ⟨z,e1,e2.keep (Tps.upd_lst hD)⟩) (fun R r=>by walk_at "rd";exact r) (SqT.of hb) (by omega) ?_ ?_
 ·intro D i x H' zs hx sm hD R r
  have hi:=(List.getElem?_eq_some_iff.mp hx).1
  have hni:ks.list[i]?=some (ks.list[i]'(by rw [Rd.Notes.len_list];omega)):=List.getElem?_eq_getElem _
  have hmem:=List.mem_of_getElem? hni
  generalize (ks.list[i]'(by rw [Rd.Notes.len_list];omega))=nn at hni hmem
  walk_at "rd"
  refine ⟨nn,x,d,rfl,hm,(hn2 i x nn hx hni).same sm,hok.mem hmem,fun t v' H'' e s' h'=>r v' H'' s' fun n' hn'=>?_,fun e H'' s'=>qe (.inr (Ut hmem e)) H'' (sm.trans s')⟩
  rw [hni] at hn'
  cases hn'
  exact ⟨t,e,h'⟩
 ·intro D ys H' hD sm hd hyl hys
  obtain ⟨ts,e1,h1,h2⟩:=Uu (H:=H') (ks:=ks) (ys:=ys) (by omega) fun i y n a b=>hys i y a n b
  refine ⟨_,rfl,_,.inl ⟨SqL.of hd,fun p hp=>⟨few (by decide),fun p1 hp1=>?_⟩⟩⟩
  have u1:=Same.upd_new hp (.tup ys)
  have u2:=Same.upd_new hp1 (.tup [.str (ms mk),.ref p])
  exact q ts p p1 ys _ e1 (by omega) (sm.trans (u1.trans u2)) Yf (u2 _ _ Yf) (by omega) fun i u t a b=>(h2 i u t a b).keep (.of (u1.trans u2))
theorem eqw (m:Mk) (w:List Nat):eqV (.str (ms m)) (.str (S w))=decide (w=mc m):=by
 simp only [eqV]
 rw [YT]
 by_cases c:w=mc m
 ·subst c;simp
 ·have:S (mc m)≠S w:=fun z=>c (Xf z).symm
  simp [c,this]
theorem in_o1 (w:List Nat):inV (.str (S w)) [.str (ms .count),.str (ms .sum),.str (ms .not),.str (ms .turned)]=(o1 w).isSome:=by
 simp only [inV,List.any_cons,List.any_nil,eqw,Bool.or_false]
 unfold o1
 by_cases c1:w=mc .count
 ·rw [if_pos c1]
  simp only [decide_eq_true c1,Bool.true_or,Bool.or_true]
  rfl
 by_cases c2:w=mc .sum
 ·rw [if_neg c1,if_pos c2]
  simp only [decide_eq_true c2,Bool.true_or,Bool.or_true]
  rfl
 by_cases c3:w=mc .not
 ·rw [if_neg c1,if_neg c2,if_pos c3]
  simp only [decide_eq_true c3,Bool.true_or,Bool.or_true]
  rfl
 by_cases c4:w=mc .turned
 ·rw [if_neg c1,if_neg c2,if_neg c3,if_pos c4]
  simp only [decide_eq_true c4,Bool.true_or,Bool.or_true]
  rfl
 rw [if_neg c1,if_neg c2,if_neg c3,if_neg c4]
 simp only [decide_eq_false c1,decide_eq_false c2,decide_eq_false c3,decide_eq_false c4,Bool.or_false]
 rfl
theorem in_o2 (w:List Nat):inV (.str (S w)) [.str (ms .plus),.str (ms .times),.str (ms .less),.str (ms .same),.str (ms .both),.str (ms .each),.str (ms .joined)]=(o2 w).isSome:=by
 simp only [inV,List.any_cons,List.any_nil,eqw,Bool.or_false]
 unfold o2
 by_cases c1:w=mc .plus
 ·rw [if_pos c1]
  simp only [decide_eq_true c1,Bool.true_or,Bool.or_true]
  rfl
 by_cases c2:w=mc .times
 ·rw [if_neg c1,if_pos c2]
  simp only [decide_eq_true c2,Bool.true_or,Bool.or_true]
  rfl
 by_cases c3:w=mc .less
 ·rw [if_neg c1,if_neg c2,if_pos c3]
  simp only [decide_eq_true c3,Bool.true_or,Bool.or_true]
  rfl
 by_cases c4:w=mc .same
 ·rw [if_neg c1,if_neg c2,if_neg c3,if_pos c4]
  simp only [decide_eq_true c4,Bool.true_or,Bool.or_true]
  rfl
 by_cases c5:w=mc .both
 ·rw [if_neg c1,if_neg c2,if_neg c3,if_neg c4,if_pos c5]
  simp only [decide_eq_true c5,Bool.true_or,Bool.or_true]
  rfl
 by_cases c6:w=mc .each
 ·rw [if_neg c1,if_neg c2,if_neg c3,if_neg c4,if_neg c5,if_pos c6]
  simp only [decide_eq_true c6,Bool.true_or,Bool.or_true]
  rfl
 by_cases c7:w=mc .joined
 ·rw [if_neg c1,if_neg c2,if_neg c3,if_neg c4,if_neg c5,if_neg c6,if_pos c7]
  simp only [decide_eq_true c7,Bool.true_or,Bool.or_true]
  rfl
 rw [if_neg c1,if_neg c2,if_neg c3,if_neg c4,if_neg c5,if_neg c6,if_neg c7]
 simp only [decide_eq_false c1,decide_eq_false c2,decide_eq_false c3,decide_eq_false c4,decide_eq_false c5,decide_eq_false c6,decide_eq_false c7,Bool.or_false]
 rfl
theorem Zq {k:Nat} {Z1 Z2 Z3 Z0:Addr} (R:g.Raw "term_of_note" "term_of_note" Z0v ["note"]) (Z2e:g.FnX k "part_of_notes" ["notes"] (Z0W g.K Z2 m)) (Z2h:g.FnX k "one_of_notes" ["mark","notes"] (Z0Z g.K Z2 m)) (Z0G:g.FnX k "several_of_notes" ["mark","notes","many"] (Z0s g.K Z2 m)) (Z2i:g.FnX k "term_of_word" ["word"] (Z0Y g.K Z2)) (Zo:g.ConT "OF_ONE_TERM" ([.str "count",.str "sum",.str "not",.str "turned"])) (Zl:g.ConT "OF_TWO_TERMS" ([.str "plus",.str "times",.str "less",.str "same",.str "both",.str "each",.str "joined"])) (x_NoNote:g.mg "NoNote"=some (.ref Z2)) (r_NoNote:PySem.W.excIn g.K Z2 Y2 "ValueError.__new__"=true):g.FnX (k+1) "term_of_note" ["note"] (X7 g.K Z2 (m+1)):=by
 refine R.fnX Z0h (fun vs H Q E h=>by obtain ⟨n,v,d,rfl,hm,hv,hok,q,qe⟩:=h;rfl) fun f_ cdv A outer s H vs Q E hr h=>?_
 obtain ⟨n,v,d,rfl,hm,hv,hok,q,qe⟩:=h
 refine ⟨_,(@Yd _ _ _ _ _ (@Yt _ _ _ _ _ _ _ _ (@Yp _ _ _ _ _ _ _ _ WB (@Yz _ _ _ _ _ _ _ YG (pv 0) Yh (fun _ _=>rfl)) Yb (Yr _)) (@Ye _ _ _ (@YE _ _ _ _ _ _ _ _ _ _ _ ⟨x_NoNote,r_NoNote⟩ YZ (@Ya _ _ _ _ _ Yb Yc (by rfl)) (by rfl) (by rfl) (by rfl) (by decide) (by rfl) (by rfl))) Yk) (@Yd _ _ _ _ _ (PS.nox (@Ym _ _ (1) _ _ _ _ Z0h.nd rfl (.inl rfl) (@Yz _ _ _ _ _ _ _ YG (pv 0) Yh (fun _ _=>rfl)) (by rfl) (by first | exact .inl rfl | exact .inr rfl | assumption))) (@Yd _ _ _ _ _ (PS.nox (@Ym _ _ (2) _ _ _ _ Z0h.nd rfl (.inl rfl) (@Yz _ _ _ _ _ _ _ YG (pv 0) Yh (fun _ _=>rfl)) (by rfl) (by first | exact .inl rfl | exact .inr rfl | assumption))) (@Yd _ _ _ _ _ (@Yt _ _ _ _ _ _ _ _ (@Yp _ _ _ _ _ _ _ _ QP (pv 2) XM (Yr _)) (@Ye _ _ _ (@Yj _ _ _ _ (@YK _ _ _ _ _ _ _ _ _ _ _ _ _ Z2i hr YM (@Ya _ _ _ _ _ (pv 1) Yc (by rfl)) (by omega) (by rfl) (by rfl) (by decide) (by rfl) (by rfl)))) Yk) (@Yd _ _ _ _ _ (@Yt _ _ _ _ _ _ _ _ (@Yp _ _ _ _ _ _ _ _ YQ (pv 1) Yb (Yr _)) (@Ye _ _ _ (@Yj _ _ _ _ (@YK _ _ _ _ _ _ _ _ _ _ _ _ _ Z2e hr YM (@Ya _ _ _ _ _ (pv 2) Yc (by rfl)) (by omega) (by rfl) (by rfl) (by decide) (by rfl) (by rfl)))) Yk) (@Yd _ _ _ _ _ (@Yt _ _ _ _ _ _ _ _ (@Yp _ _ _ _ _ _ _ _ XY (pv 1) (@VR _ _ _ _ _ Zo (by rfl) (by rfl) (by decide)) rfl) (@Ye _ _ _ (@Yj _ _ _ _ (@YK _ _ _ _ _ _ _ _ _ _ _ _ _ Z2h hr YM (@Ya _ _ _ _ _ (pv 1) (@Ya _ _ _ _ _ (pv 2) Yc (by rfl)) (by rfl)) (by omega) (by rfl) (by rfl) (by decide) (by rfl) (by rfl)))) Yk) (@Yd _ _ _ _ _ (@Yt _ _ _ _ _ _ _ _ (@Yp _ _ _ _ _ _ _ _ XY (pv 1) (@VR _ _ _ _ _ Zl (by rfl) (by rfl) (by decide)) rfl) (@Ye _ _ _ (@Yj _ _ _ _ (@YK _ _ _ _ _ _ _ _ _ _ _ _ _ Z0G hr YM (@Ya _ _ _ _ _ (pv 1) (@Ya _ _ _ _ _ (pv 2) (@Ya _ _ _ _ _ Yh Yc (by rfl)) (by rfl)) (by rfl)) (by omega) (by rfl) (by rfl) (by decide) (by rfl) (by rfl)))) Yk) (@Yd _ _ _ _ _ (@Yt _ _ _ _ _ _ _ _ (@Yp _ _ _ _ _ _ _ _ YQ (pv 1) Yb (Yr _)) (@Ye _ _ _ (@Yj _ _ _ _ (@YK _ _ _ _ _ _ _ _ _ _ _ _ _ Z0G hr YM (@Ya _ _ _ _ _ (pv 1) (@Ya _ _ _ _ _ (pv 2) (@Ya _ _ _ _ _ Yh Yc (by rfl)) (by rfl)) (by rfl)) (by omega) (by rfl) (by rfl) (by decide) (by rfl) (by rfl)))) Yk) (@Ye _ _ _ (@YE _ _ _ _ _ _ _ _ _ _ _ ⟨x_NoNote,r_NoNote⟩ YZ (@Ya _ _ _ _ _ Yb Yc (by rfl)) (by rfl) (by rfl) (by rfl) (by decide) (by rfl) (by rfl))))))))))),?_⟩
 have e0:Str.ofString ""=S []:=by decide +kernel
 have ep:Str.ofString "part"=S (mc .part):=YT .part
 have ew:Str.ofString "when"=S (mc .when):=YT .when
 cases n with
 | leaf l w =>
  obtain ⟨a,rfl,ha⟩:=hv
  walk_at "rd"
  rw [e0]
  refine ⟨_,SqT.of ha,_,rfl,rfl,Yw (fun c=>⟨few (by decide),qe ?_ H (.refl _)⟩) fun c=>⟨_,SqT.of ha,_,rfl,_,SqT.of ha,_,rfl,?_⟩⟩
  ·rw [tn,if_neg fun z=>c (by rw [z])]
  ·have hl:l=[]:=Xf (Classical.byContradiction fun z=>c fun y=>z (V.str.inj y))
   have et:tn (.leaf l w)=tw w:=by rw [tn,if_pos hl]
   refine Ws rfl ⟨w,rfl,hok.wd.1,fun t v H1 s1 e h=>q t v H1 (et.trans e) s1 h,fun e H1 s1=>qe (et.trans e) H1 s1⟩
 | node l w ks =>
  obtain ⟨a,b,us,rfl,ha,hb,hn⟩:=hv
  walk_at "rd"
  rw [e0]
  refine ⟨_,SqT.of ha,_,rfl,rfl,Yw (fun c=>⟨few (by decide),qe ?_ H (.refl _)⟩) fun c=>⟨_,SqT.of ha,_,rfl,_,SqT.of ha,_,rfl,XC (by simp) ?_⟩⟩
  ·rw [tn,if_neg fun z=>c (by rw [z])]
  have hl:l=[]:=Xf (Classical.byContradiction fun z=>c fun y=>z (V.str.inj y))
  have et:tn (.node l w ks)=tbk w ks.len (thd ks) (tns ks) (pl2 ks):=by rw [tn,if_pos hl]
  obtain ⟨d',rfl⟩:∃ d',d=d'+1:=by
   cases d with
   | zero=>exact hok.elim
   | succ d=>exact ⟨d,rfl⟩
  have hks:Rd.Oks d' ks:=hok.2.2
  have hln:=hn.length
  rw [ep,ew]
  refine ⟨rfl,Yw (fun c1=>?_) fun c1=>?_⟩
  ·have e1:w=mc .part:=Xf (V.str.inj c1)
   have ef:tn (.node l w ks)=Ve ks:=by rw [et,tbk,if_pos e1];rfl
   exact ⟨b,ks,d',rfl,by omega,⟨us,hb,hn⟩,hks,fun t v H1 e s1 h=>q t v H1 (ef.trans e) s1 h,fun e H1 s1=>qe (ef.trans e) H1 s1⟩
  have e1:w≠mc .part:=fun z=>c1 (by rw [z])
  intro k1 hk1
  refine ⟨_,.inr hk1,rfl,rfl,?_⟩
  have i1:=in_o1 w
  refine Yw (fun c2=>?_) fun c2=>?_
  ·cases eo:o1 w with
   | none=>rw [eo] at i1;exact absurd (i1.symm.trans c2) (by decide)
   | some mk =>
    obtain ⟨ew1,_⟩:=Ycc eo
    have ef:tn (.node l w ks)=Uw mk ks:=by rw [et,tbk,if_neg e1,eo];rfl
    exact ⟨b,ks,d',mk,by rw [YT,ew1],by omega,⟨us,hb,hn⟩,hks,fun t v H1 e s1 h=>q t v H1 (ef.trans e) s1 h,fun e H1 s1=>qe (ef.trans e) H1 s1⟩
  have eo1:o1 w=none:=by
   cases eo:o1 w with
   | none=>rfl
   | some mk=>rw [eo] at i1;exact (c2 i1).elim
  intro k2 hk2
  refine ⟨_,.inr hk2,rfl,rfl,?_⟩
  have i2:=in_o2 w
  refine Yw (fun c3=>?_) fun c3=>?_
  ·cases eo:o2 w with
   | none=>rw [eo] at i2;exact absurd (i2.symm.trans c3) (by decide)
   | some mk =>
    obtain ⟨ew1,_⟩:=Ycd eo
    have ef:tn (.node l w ks)=two mk (tns ks):=by rw [et,tbk,if_neg e1,eo1];simp only [eo]
    refine ⟨b,ks,us,d',mk,2,by rw [YT,ew1];rfl,by omega,hb,hn,hks,by decide,fun ts p q' ys H1 e l2 s1 h1 h2 h3 h4=>?_,fun e H1 s1=>qe ?_ H1 s1⟩
    ·match ts,l2,ys,h3 with
     | [x,y],_,[u1,u2],_ =>
      exact q (.two mk x y) _ H1 (by rw [ef,e];rfl) s1 ⟨q',p,u1,u2,rfl,h1,h2,h4 0 _ _ rfl rfl,h4 1 _ _ rfl rfl⟩
    ·rw [ef]
     rcases e with e | e
     ·exact WU e
     ·rw [e];rfl
  have eo2:o2 w=none:=by
   cases eo:o2 w with
   | none=>rfl
   | some mk=>rw [eo] at i2;exact (c3 i2).elim
  have ef:tn (.node l w ks)=if w=mc .when then whn (tns ks) else none:=by rw [et,tbk,if_neg e1,eo1];simp only [eo2]
  refine ⟨rfl,Yw (fun c4=>?_) fun c4=>⟨few (by decide),qe ?_ H (.refl _)⟩⟩
  ·have e4:w=mc .when:=Xf (V.str.inj c4)
   rw [if_pos e4] at ef
   refine ⟨b,ks,us,d',.when,3,by rw [YT,e4];rfl,by omega,hb,hn,hks,by decide,fun ts p q' ys H1 e l2 s1 h1 h2 h3 h4=>?_,fun e H1 s1=>qe ?_ H1 s1⟩
   ·match ts,l2,ys,h3 with
    | [x,y,z],_,[u1,u2,u3],_ =>
     exact q (.when x y z) _ H1 (by rw [ef,e];rfl) s1 ⟨q',p,u1,u2,u3,rfl,h1,h2,h4 0 _ _ rfl rfl,h4 1 _ _ rfl rfl,h4 2 _ _ rfl rfl⟩
   ·rw [ef]
    rcases e with e | e
    ·exact YaQ e
    ·rw [e];rfl
  ·rw [ef,if_neg fun z=>c4 (by rw [z])]
def ttx (t:List Nat):Option Tm:=(Rd.parse t).bind tn
def Z1E (K:PySem.W.Frag) (CN CC:Addr):Sp:=fun vs H Q E=>∃ x:V,vs=[x]∧((Vc K H x∧E (.ref CN) none H)∨∃ t:List Nat,x = .str (S t)∧t.length≤100000∧(¬ (t.length≤2000∧Rd.okD 0 t)→E (.ref CC) none H)∧(t.length≤2000→Rd.okD 0 t→ttx t=none→∀ H',Same H H'→E (.ref CN) none H')∧(∀ s v H',t.length≤2000→Rd.okD 0 t→ttx t=some s→TA H' s v→Same H H'→Q v H'))
theorem Ux {k:Nat} {Z1 Z2 Z3 Z0:Addr} (R:g.Raw "read_term" "read_term" Z14 ["text"]) (F_read_note:g.FnX k "read_note" ["text"] (Z1C g.K Z2 Z3)) (ZB:g.FnX k "term_of_note" ["note"] (X7 g.K Z2 8)):g.FnX (k+1) "read_term" ["text"] (Z1E g.K Z2 Z3):=by
 refine R.fnX Uf (fun vs H Q E h=>by obtain ⟨x,rfl,hx⟩:=h;rfl) fun f_ cdv A outer s H vs Q E hr h=>?_
 obtain ⟨x,rfl,hx⟩:=h
 refine ⟨_,(@Ye _ _ _ (@Yj _ _ _ _ (@YK _ _ _ _ _ _ _ _ _ _ _ _ _ ZB hr YM (@Ya _ _ _ _ _ (@YK _ _ _ _ _ _ _ _ _ _ _ _ _ F_read_note hr YM (@Ya _ _ _ _ _ (pv 0) Yc (by rfl)) (by omega) (by rfl) (by rfl) (by decide) (by rfl) (by rfl)) Yc (by rfl)) (by omega) (by rfl) (by rfl) (by decide) (by rfl) (by rfl)))),?_⟩
 walk_at "rd"
 refine ⟨x,rfl,?_⟩
 rcases hx with ⟨h1,h2⟩ | ⟨t,rfl,hl,qc,qn,q⟩
 ·exact .inl ⟨h1,h2⟩
 refine .inr ⟨t,rfl,hl,qc,fun h1 h2 e H' s'=>qn h1 h2 (by rw [ttx,e];rfl) H' s',fun n v H1 h1 h2 e hv s1=>?_⟩
 have et:ttx t=tn n:=by rw [ttx,e];rfl
 exact ⟨n,v,7,rfl,rfl,hv,Rd.parse_ok e,fun t' v' H2 e2 s2 h=>q t' v' H2 h1 h2 (et.trans e2) h (s1.trans s2),fun e2 H2 s2=>qn h1 h2 (et.trans e2) H2 (s1.trans s2)⟩
theorem Yar {i:Int} (h:i.natAbs<10^60):dg i=[48]∨∃ c r,48<c∧c≤57∧(∀ d∈r,48≤d∧d≤57)∧r.length≤59∧(dg i=c::r∨dg i=45::c::r):=by
 by_cases h0:i.natAbs=0
 ·have:i=0:=by omega
  subst this
  exact .inl (by decide +kernel)
 ·obtain ⟨c,r,e,hc⟩:=UT (n:=i.natAbs) (by omega)
  have hd:=XB i.natAbs
  have hl:=XU (k:=60) (by decide) h
  rw [e] at hd hl
  have hc':=hd c (.head _)
  refine .inr ⟨c,r,by omega,hc'.2,fun d hd'=>hd d (.tail _ hd'),by rw [List.length_cons] at hl;omega,?_⟩
  rcases Int.natAbs_eq i with e1 | e1
  ·rw [e1];exact .inl e
  ·have:=W7 (n:=i.natAbs) (by omega)
   rw [← e1,e] at this
   exact .inr this
theorem Yce {i:Int} (h:i.natAbs<10^60):Xc (dg i)=true:=by
 rcases Yar h with e | ⟨c,r,h1,h2,h3,h4,e | e⟩
 ·rw [e];decide
 ·rw [e]
  unfold Xc
  have h45:¬ (c::r).head?=some 45:=by simp;omega
  have hf:(c::r).all Rd.isFig=true:=by
   rw [List.all_eq_true]
   intro x hx
   have:48≤x∧x≤57:=by
    rcases List.mem_cons.mp hx with rfl | hx
    ·omega
    ·exact h3 x hx
   simp [Rd.isFig,this.1,this.2]
  rw [if_neg h45,hf,decide_eq_true (by simp:1≤(c::r).length),decide_eq_true (by simp;omega:(c::r).length≤60),show ((c::r).head?==some 48)=false by simp;omega]
  simp
 ·rw [e]
  unfold Xc
  have h45:(45::c::r).head?=some 45:=rfl
  have hf:(c::r).all Rd.isFig=true:=by
   rw [List.all_eq_true]
   intro x hx
   have:48≤x∧x≤57:=by
    rcases List.mem_cons.mp hx with rfl | hx
    ·omega
    ·exact h3 x hx
   simp [Rd.isFig,this.1,this.2]
  rw [if_pos h45,List.drop_succ_cons,List.drop_zero,hf,decide_eq_true (by simp:1≤(c::r).length),decide_eq_true (by simp;omega:(c::r).length≤60),show ((c::r).head?==some 48)=false by simp;omega]
  simp
theorem UZ {i:Int} (h:i.natAbs<10^60):Xs (.leaf [] (dg i))=some i:=WT (Yce h) rfl h
namespace Rd
def Qu (l:List Nat):Bool:=decide (l.length≤8)&&l.all YB
def Qv (w:List Nat):Bool:=decide (1≤w.length)&&decide (w.length≤62)&&w.all isWS
theorem Vw {l:List Nat} (h:Qu l=true):okL l:=by
 simp only [Qu,Bool.and_eq_true,decide_eq_true_eq,List.all_eq_true] at h
 exact h
theorem Vx {w:List Nat} (h:Qv w=true):okW w:=by
 simp only [Qv,Bool.and_eq_true,decide_eq_true_eq,List.all_eq_true] at h
 exact ⟨h.1.1,h.1.2,h.2⟩
mutual
def okB:Nat→Note→Bool
 | _,.leaf l w=>Qu l&&Qv w
 | 0,.node _ _ _=>false
 | d+1,.node l w ks=>Qu l&&Qv w&&Qw d ks
def Qw:Nat→Notes→Bool
 | _,.nil=>true
 | d,.cons n r=>okB d n&&Qw d r
end
mutual
theorem okB_ok:∀ {d:Nat} {n:Note},okB d n=true→Ok d n
 | 0,.leaf l w,h=>by
  simp only [okB,Bool.and_eq_true] at h
  exact ⟨Vw h.1,Vx h.2⟩
 | d+1,.leaf l w,h=>by
  simp only [okB,Bool.and_eq_true] at h
  exact ⟨Vw h.1,Vx h.2⟩
 | 0,.node _ _ _,h=>by simp [okB] at h
 | d+1,.node l w ks,h=>by
  simp only [okB,Bool.and_eq_true] at h
  exact ⟨Vw h.1.1,Vx h.1.2,U0 h.2⟩
theorem U0:∀ {d:Nat} {ks:Notes},Qw d ks=true→Oks d ks
 | d,.nil,_=>by cases d<;>trivial
 | d,.cons n r,h=>by
  simp only [Qw,Bool.and_eq_true] at h
  exact ⟨okB_ok h.1,U0 h.2⟩
end
end Rd
mutual
theorem WH:∀ {d e:Nat} {n:Rd.Note},Rd.Ok d n→d≤e→Rd.Ok e n
 | d,e,.leaf l w,h,_=>by
  have h':Rd.okL l∧Rd.okW w:=by cases d<;>exact h
  cases e<;>exact h'
 | 0,_,.node _ _ _,h,_=>h.elim
 | d+1,0,.node _ _ _,_,hd=>by omega
 | d+1,e+1,.node _ _ _,h,hd=>⟨h.1,h.2.1,Yas h.2.2 (by omega)⟩
theorem Yas:∀ {d e:Nat} {ks:Rd.Notes},Rd.Oks d ks→d≤e→Rd.Oks e ks
 | _,_,.nil,_,_=>trivial
 | _,_,.cons _ _,h,hd=>⟨WH h.1 hd,Yas h.2 hd⟩
end
theorem X1:∀ {t:Tm},Gd t→tn (nt t)=some t
 | .num i,h=>by
  have hi:i.natAbs<10^60:=h
  have hne:dg i≠mc .here:=fun z=>by
   have e2:mc .here=[104,101,114,101]:=by decide +kernel
   rw [e2] at z
   rcases Yar hi with e | ⟨c,r,h1,h2,_,_,e | e⟩<;>rw [e] at z<;>simp at z
   omega
  rw [nt,tn,if_pos rfl,tw,if_neg hne,UZ hi]
  rfl
 | .here,_=>by rw [nt,tn,if_pos rfl,tw,if_pos rfl]
 | .part t p,h=>by
  have hp:((p:Nat):Int).natAbs<10^60:=by have:=h.2;rw [Int.natAbs_natCast];exact Nat.lt_of_le_of_lt this (by decide)
  have h20:=h.2
  have e:Xx (.leaf [] (dg (p:Int)))=some p:=by
   rw [Xx,UZ hp]
   show plc (p:Int)=_
   rw [plc,if_pos (by omega)]
   rfl
  rw [nt,tn,if_pos rfl,tbk,if_pos rfl]
  show prt (tn (nt t)) (Xx (.leaf [] (dg (p:Int))))=_
  rw [X1 h.1,e]
  rfl
 | .one m t,h=>by
  rw [nt,tn,if_pos rfl,tbk,if_neg (Xo (.inl h.1)),Qt h.1]
  show (tn (nt t)).map (Tm.one m)=_
  rw [X1 h.2]
  rfl
 | .two m a b,h=>by
  rw [nt,tn,if_pos rfl,tbk,if_neg (Xo (.inr h.1)),Ww h.1]
  simp only [Vd h.1,tns,X1 h.2.1,X1 h.2.2]
  rfl
 | .when a b c,h=>by
  rw [nt,tn,if_pos rfl,tbk,if_neg (show ¬ mc .when=mc .part by decide +kernel),show o1 (mc .when)=none by decide +kernel]
  simp only [show o2 (mc .when)=none by decide +kernel,if_pos,tns,X1 h.1,X1 h.2.1,X1 h.2.2]
  rfl
theorem Yat {t:Tm} (hg:Gd t) (hd:dp t≤6):ttx (tt t)=some t∧Rd.okD 0 (tt t):=by
 have ok:=X0 (d:=6) hg hd
 refine ⟨?_,(Rd.txt_d 6 _ 0 ok (by decide)).2⟩
 rw [ttx,Rd.parse_txt ok]
 exact X1 hg
def wd (s:String):List Nat:=(Str.ofString s).cps.toList
def lf (w:List Nat):Rd.Note := .leaf [] w
def nd (m:Mk) (ks:List Rd.Note):Rd.Note := .node [] (mc m) (ks.foldr .cons .nil)
def ah:Nat→List Nat
 | 0=>[]
 | 1=>mc .plus++[40]
 | 2=>mc .less++40::mc .here++[44]
 | 3=>mc .part++[40]
 | _=>mc .not++[40]
def bh:Nat→List Nat
 | 0=>[]
 | 1=>[44,49,41]
 | 2=>[41]
 | 3=>[44,51,41]
 | _=>[41]
def pT (p:Nat) (t:List Nat):List Nat:=ah p++t++bh p
def wmk:Nat→Mk
 | 0 => .count
 | 1 => .sum
 | 2 => .not
 | _ => .turned
theorem wmk1 (i:Nat):is1 (wmk i):=by
 match i with
 | 0=>exact .inl rfl
 | 1=>exact .inr (.inl rfl)
 | 2=>exact .inr (.inr (.inl rfl))
 | _+3=>exact .inr (.inr (.inr rfl))
def wT:List Nat→List Nat→List Nat
 | [],t=>t
 | i::is,t=>mc (wmk i)++40::(wT is t++[41])
def pN:Nat→Rd.Note→Rd.Note
 | 0,n=>n
 | 1,n => .node [] (mc .plus) (.cons n (.cons (.leaf [] [49]) .nil))
 | 2,n => .node [] (mc .less) (.cons (.leaf [] (mc .here)) (.cons n .nil))
 | 3,n => .node [] (mc .part) (.cons n (.cons (.leaf [] [51]) .nil))
 | _,n => .node [] (mc .not) (.cons n .nil)
def wN:List Nat→Rd.Note→Rd.Note
 | [],n=>n
 | i::is,n => .node [] (mc (wmk i)) (.cons (wN is n) .nil)
theorem Yau (p:Nat) (n:Rd.Note):Rd.txt (pN p n)=pT p (Rd.txt n):=by
 match p with
 | 0=>simp [pN,pT,ah,bh]
 | 1=>simp [pN,pT,ah,bh,Rd.txt,Rd.txts,Y0]
 | 2=>simp [pN,pT,ah,bh,Rd.txt,Rd.txts,Y0]
 | 3=>simp [pN,pT,ah,bh,Rd.txt,Rd.txts,Y0]
 | _+4=>simp [pN,pT,ah,bh,Rd.txt,Rd.txts,Y0]
theorem Uy:∀ (is:List Nat) (n:Rd.Note),Rd.txt (wN is n)=wT is (Rd.txt n)
 | [],n=>rfl
 | i::is,n=>by simp [wN,wT,Rd.txt,Rd.txts,Y0,Uy is n]
theorem ok_pN {d:Nat} {n:Rd.Note} (p:Nat) (h:Rd.Ok d n):Rd.Ok (d+1) (pN p n):=by
 have l1:Rd.Ok d (.leaf [] [49]):=WH (d:=0) (Rd.okB_ok (by decide +kernel)) (Nat.zero_le _)
 have l3:Rd.Ok d (.leaf [] [51]):=WH (d:=0) (Rd.okB_ok (by decide +kernel)) (Nat.zero_le _)
 have lh:Rd.Ok d (.leaf [] (mc .here)):=WH (d:=0) (Rd.okB_ok (by decide +kernel)) (Nat.zero_le _)
 match p with
 | 0=>exact WH h (Nat.le_succ _)
 | 1=>exact ⟨Y3,Xg _,h,l1,trivial⟩
 | 2=>exact ⟨Y3,Xg _,lh,h,trivial⟩
 | 3=>exact ⟨Y3,Xg _,h,l3,trivial⟩
 | _+4=>exact ⟨Y3,Xg _,h,trivial⟩
theorem Ybl {d:Nat} {n:Rd.Note} (h:Rd.Ok d n):∀ is:List Nat,Rd.Ok (d+is.length) (wN is n)
 | []=>h
 | i::is=>⟨Y3,Xg _,Ybl h is,trivial⟩
theorem Yc0 {n:Rd.Note} (p:Nat) (h:tn n=none):tn (pN p n)=none:=by
 match p with
 | 0=>exact h
 | 1 =>
  rw [pN,tn,if_pos rfl,tbk,if_neg (Xo (.inr (.inl rfl))),Ww (.inl rfl)]
  simp only [Vd (m := .plus) (.inl rfl),tns,h]
  rfl
 | 2 =>
  rw [pN,tn,if_pos rfl,tbk,if_neg (Xo (.inr (.inr (.inr (.inl rfl))))),Ww (.inr (.inr (.inl rfl)))]
  simp only [Vd (m := .less) (.inr (.inr (.inl rfl))),tns,h]
  cases tn (.leaf [] (mc .here))<;>rfl
 | 3 =>
  rw [pN,tn,if_pos rfl,tbk,if_pos rfl]
  show prt (tn n) _=none
  rw [h]
  rfl
 | _+4 =>
  show tn (.node [] (mc .not) (.cons n .nil))=none
  rw [tn,if_pos rfl,tbk,if_neg (Xo (.inl (.inr (.inr (.inl rfl))))),Qt (.inr (.inr (.inl rfl)))]
  show (tn n).map (Tm.one .not)=none
  rw [h]
  rfl
theorem Yav {n:Rd.Note} (h:tn n=none):∀ is:List Nat,tn (wN is n)=none
 | []=>h
 | i::is=>by
  rw [wN,tn,if_pos rfl,tbk,if_neg (Xo (.inl (wmk1 i))),Qt (wmk1 i)]
  show (tn (wN is n)).map (Tm.one _)=none
  rw [Yav h is]
  rfl
theorem Y7 (m:Mk):(mc m).length≤6:=by cases m<;>decide +kernel
theorem Vf (p:Nat) (t:List Nat):(pT p t).length≤t.length+20:=by
 have a1:=Y7 .plus
 have a2:=Y7 .less
 have a3:=Y7 .here
 have a4:=Y7 .part
 have a5:=Y7 .not
 match p with
 | 0=>simp [pT,ah,bh]
 | 1=>simp [pT,ah,bh];omega
 | 2=>simp [pT,ah,bh];omega
 | 3=>simp [pT,ah,bh];omega
 | _+4=>simp [pT,ah,bh];omega
theorem Wx:∀ (is:List Nat) (t:List Nat),(wT is t).length≤t.length+8*is.length
 | [],t=>by simp [wT]
 | i::is,t=>by
  have:=Wx is t
  have:=Y7 (wmk i)
  simp [wT]
  omega
def Uz (t:List Nat):Prop:=t.length≤2000∧Rd.okD 0 t∧ttx t=none
theorem YaR {n:Rd.Note} {p:Nat} {is:List Nat} (h:Rd.Ok 2 n) (e:tn n=none) (hl:(Rd.txt n).length≤150) (hi:is.length≤3):Uz (wT is (pT p (Rd.txt n))):=by
 have ok:Rd.Ok 6 (wN is (pN p n)):=WH (Ybl (ok_pN p h) is) (by omega)
 have et:Rd.txt (wN is (pN p n))=wT is (pT p (Rd.txt n)):=by rw [Uy,Yau]
 rw [← et]
 refine ⟨?_,(Rd.txt_d 6 _ 0 ok (by decide)).2,?_⟩
 ·rw [et]
  have:=Wx is (pT p (Rd.txt n))
  have:=Vf p (Rd.txt n)
  omega
 ·rw [ttx,Rd.parse_txt ok]
  exact Yav (Yc0 p e) is
def pM:Nat→Tm→Tm
 | 0,t=>t
 | 1,t => .two .plus t (.num 1)
 | 2,t => .two .less .here t
 | 3,t => .part t 3
 | _,t => .one .not t
def wM:List Nat→Tm→Tm
 | [],t=>t
 | i::is,t => .one (wmk i) (wM is t)
theorem nt_pM (p:Nat) (t:Tm):nt (pM p t)=pN p (nt t):=by
 have e1:dg 1=[49]:=by decide +kernel
 have e3:dg ((3:Nat):Int)=[51]:=by decide +kernel
 match p with
 | 0=>rfl
 | 1=>simp only [pM,pN,nt,e1]
 | 2=>simp only [pM,pN,nt]
 | 3=>simp only [pM,pN,nt,e3]
 | _+4=>simp only [pM,pN,nt]
theorem Ybm:∀ (is:List Nat) (t:Tm),nt (wM is t)=wN is (nt t)
 | [],t=>rfl
 | i::is,t=>by simp only [wM,wN,nt,Ybm is t]
theorem gd_pM {t:Tm} (p:Nat) (h:Gd t):Gd (pM p t)∧dp (pM p t)≤dp t+1:=by
 match p with
 | 0=>exact ⟨h,Nat.le_succ _⟩
 | 1=>exact ⟨⟨.inl rfl,h,by simp [Gd]⟩,by simp [pM,dp]⟩
 | 2=>exact ⟨⟨.inr (.inr (.inl rfl)),trivial,h⟩,by simp [pM,dp]⟩
 | 3=>exact ⟨⟨h,by decide⟩,by simp [pM,dp]⟩
 | _+4=>exact ⟨⟨.inr (.inr (.inl rfl)),h⟩,by simp [pM,dp]⟩
theorem Ybn {t:Tm} (h:Gd t):∀ is:List Nat,Gd (wM is t)∧dp (wM is t)≤dp t+is.length
 | []=>⟨h,Nat.le_refl _⟩
 | i::is=>by
  obtain ⟨h1,h2⟩:=Ybn h is
  exact ⟨⟨wmk1 i,h1⟩,by simp only [wM,dp,List.length_cons];omega⟩
def Ybo (t:List Nat):Prop:=t.length≤2000∧∃ g,t=tt g∧Gd g∧dp g≤6
theorem Yaw {t:Tm} {p:Nat} {is:List Nat} (h:Gd t) (hd:dp t≤2) (hl:(tt t).length≤150) (hi:is.length≤3):Ybo (wT is (pT p (tt t))):=by
 have et:tt (wM is (pM p t))=wT is (pT p (tt t)):=by
  show Rd.txt (nt _)=_
  rw [Ybm,nt_pM,Uy,Yau]
 obtain ⟨g1,g2⟩:=gd_pM p h
 obtain ⟨g3,g4⟩:=Ybn g1 is
 refine ⟨?_,_,et.symm,g3,by omega⟩
 have:=Wx is (pT p (tt t))
 have:=Vf p (tt t)
 omega
def Qx (d:Int):List Nat→Bool
 | []=>true
 | c::r=>decide (Rd.stepD d c≤6)&&Qx (Rd.stepD d c) r
theorem U1:∀ {t:List Nat} {d:Int},Qx d t=true→Rd.okD d t
 | [],_,_=>trivial
 | c::r,d,h=>by
  simp only [Qx,Bool.and_eq_true,decide_eq_true_eq] at h
  exact ⟨h.1,U1 h.2⟩
def fx:List (List Nat):=[[],wd "+1",wd "less(1;2)",wd "same(1, 2)"]
def chk (t:List Nat):Bool:=decide (t.length≤2000)&&Qx 0 t&&(ttx t).isNone
theorem Yc1 {t:List Nat} (h:chk t=true):Uz t:=by
 simp only [chk,Bool.and_eq_true,decide_eq_true_eq] at h
 exact ⟨h.1.1,U1 h.1.2,Option.isNone_iff_eq_none.mp h.2⟩
def lsts:Nat→List (List Nat)
 | 0=>[[]]
 | n+1=>(lsts n).flatMap fun l=>[0::l,1::l,2::l,3::l]
theorem UA:∀ {is:List Nat},(∀ i∈is,i<4)→is∈lsts is.length
 | [],_ => .head _
 | i::is,h=>by
  have hi:=h i (.head _)
  have:=UA (is:=is) fun j hj=>h j (.tail _ hj)
  refine List.mem_flatMap.mpr ⟨is,this,?_⟩
  rcases (by omega:i=0∨i=1∨i=2∨i=3) with rfl | rfl | rfl | rfl<;>simp
theorem Ycf:(fx.all fun t=>[0,1,2,3,4].all fun p=>[0,1,2,3].all fun n=>(lsts n).all fun is=>chk (wT is (pT p t)))=true:=by decide +kernel
theorem Ycg {t:List Nat} {p:Nat} {is:List Nat} (h:t∈fx) (hp:p<5) (hi:is.length≤3) (h4:∀ i∈is,i<4):Uz (wT is (pT p t)):=by
 have h1:=List.all_eq_true.mp Ycf t h
 have h2:=List.all_eq_true.mp h1 p (by rcases (by omega:p=0∨p=1∨p=2∨p=3∨p=4) with rfl | rfl | rfl | rfl | rfl<;>simp)
 have h3:=List.all_eq_true.mp h2 is.length (by rcases (by omega:is.length=0∨is.length=1∨is.length=2∨is.length=3) with e | e | e | e<;>rw [e]<;>simp)
 exact Yc1 (List.all_eq_true.mp h3 is (UA h4))
def Wy (t:List Nat):Prop:=(t.length≤150∧∃ n,t=Rd.txt n∧Rd.Ok 2 n∧tn n=none)∨t∈fx
theorem Yc2:∀ t∈fx,t.length≤150:=by decide +kernel
theorem Wy.len {t:List Nat} (h:Wy t):t.length≤150:=h.elim (·.1) (Yc2 t)
theorem Wy.all {t:List Nat} {p:Nat} {is:List Nat} (h:Wy t) (hp:p<5) (hi:is.length≤3) (h4:∀ i∈is,i<4):Uz (wT is (pT p t)):=by
 rcases h with ⟨hl,n,rfl,h1,h2⟩ | h
 ·exact YaR h1 h2 hl hi
 ·exact Ycg h hp hi h4
def Qy:List Tm:=[.here,.num 0,.num (-7),.part .here 20,.part .here 0,.when .here (.num 1) (.num 2),.two .each .here (.one .not .here),.two .joined (.one .turned .here) .here,.two .both (.two .less (.num 1) (.num 2)) (.two .same .here .here)]
def Qz (x:Str):List Str:=["here","0","-7","part(here,20)","part(here,0)","when(here,1,2)","each(here,not(here))","joined(turned(here),here)","both(less(1,2),same(here,here))",x]
def QA (t:List Nat):Prop:=∃ g,t=tt g∧Gd g∧dp g≤2∧t.length≤150
theorem Ych {i k:Nat} (h:i<10) (hk:k<10^60):∃ t,(Qz (S (dg (k:Int))))[i]?=some (S t)∧QA t:=by
 have b1:((k:Nat):Int).natAbs<10^60:=by rw [Int.natAbs_natCast];exact hk
 by_cases h9:i=9
 ·subst h9
  have:=XU (k:=60) (by decide) hk
  exact ⟨dg (k:Int),rfl,.num k,by simp [tt,nt,Rd.txt,Y0],b1,by simp [dp],by omega⟩
 have hi:i<Qy.length:=by show i<9;omega
 have key:∀ s,Qy[i]?=some s→Gd s∧dp s≤2∧(tt s).length≤150∧(Qz (S (dg (k:Int))))[i]?=some (S (tt s)):=by
  intro s hs
  match i,h,h9 with
  | 0,_,_=>cases hs;exact ⟨by simp [Gd],by simp [dp],by decide +kernel,congrArg some (show Str.ofString "here"=_ by decide +kernel)⟩
  | 1,_,_=>cases hs;exact ⟨by simp [Gd],by simp [dp],by decide +kernel,congrArg some (show Str.ofString "0"=_ by decide +kernel)⟩
  | 2,_,_=>cases hs;exact ⟨by simp [Gd],by simp [dp],by decide +kernel,congrArg some (show Str.ofString "-7"=_ by decide +kernel)⟩
  | 3,_,_=>cases hs;exact ⟨by simp [Gd],by simp [dp],by decide +kernel,congrArg some (show Str.ofString "part(here,20)"=_ by decide +kernel)⟩
  | 4,_,_=>cases hs;exact ⟨by simp [Gd],by simp [dp],by decide +kernel,congrArg some (show Str.ofString "part(here,0)"=_ by decide +kernel)⟩
  | 5,_,_=>cases hs;exact ⟨by simp [Gd],by simp [dp],by decide +kernel,congrArg some (show Str.ofString "when(here,1,2)"=_ by decide +kernel)⟩
  | 6,_,_=>cases hs;exact ⟨by simp [Gd,is1,is2],by simp [dp],by decide +kernel,congrArg some (show Str.ofString "each(here,not(here))"=_ by decide +kernel)⟩
  | 7,_,_=>cases hs;exact ⟨by simp [Gd,is1,is2],by simp [dp],by decide +kernel,congrArg some (show Str.ofString "joined(turned(here),here)"=_ by decide +kernel)⟩
  | 8,_,_=>cases hs;exact ⟨by simp [Gd,is1,is2],by simp [dp],by decide +kernel,congrArg some (show Str.ofString "both(less(1,2),same(here,here))"=_ by decide +kernel)⟩
 obtain ⟨a,b,c,e⟩:=key (Qy[i]'hi) (List.getElem?_eq_getElem _)
 exact ⟨_,e,_,rfl,a,b,c⟩
def Vg:Str:=S (List.replicate 60 48)
def badL (n r:Str):List Str:=[Str.ofString "",Str.ofString "there",Str.ofString "Here",Str.ofString "here()",Str.ofString "num(3)",Str.ofString "num",Str.ofString "00",Str.ofString "-0",Str.ofString "+1",Str.ofString "0"++n,Str.ofString "1"++r,Str.ofString "x:here",Str.ofString "part(here)",Str.ofString "part(here,21)",Str.ofString "part(here,-1)",Str.ofString "part(here,01)",Str.ofString "part(here,here)",Str.ofString "part(1,2,3)",Str.ofString "part(here,x:1)",Str.ofString "part(here,1())",Str.ofString "part(here,"++Str.ofString "2"++n++Str.ofString "1)",Str.ofString "count",Str.ofString "count()",Str.ofString "count(here,here)",Str.ofString "plus("++n++Str.ofString ")",Str.ofString "plus(1,2,"++n++Str.ofString ")",Str.ofString "times()",Str.ofString "less(1;2)",Str.ofString "same(1, 2)",Str.ofString "not(1,2)",Str.ofString "when(1,2)",Str.ofString "when(1,2,3,4)",Str.ofString "each(here,x:here)",Str.ofString "row(1,2)"]
theorem YA {n:Rd.Note} (h:Rd.okB 2 n=true) (e:(tn n).isNone=true) (hl:decide ((Rd.txt n).length≤150)=true):Wy (Rd.txt n) := .inl ⟨of_decide_eq_true hl,n,rfl,Rd.okB_ok h,Option.isNone_iff_eq_none.mp e⟩
theorem Yc3:Str.ofString "0"=S [48]∧Str.ofString "1"=S [49]∧Str.ofString "part(here,"=S (mc .part++40::mc .here++[44])∧Str.ofString "2"=S [50]∧Str.ofString "1)"=S [49,41]∧Str.ofString "plus("=S (mc .plus++[40])∧Str.ofString "plus(1,2,"=S (mc .plus++[40,49,44,50,44])∧Str.ofString ")"=S [41]:=by decide +kernel
theorem Yci {a w:List Nat} (ha:∀ c∈a,Rd.isWS c=true) (hw:Rd.okW w) (hl:a.length+w.length≤62):Rd.okW (a++w):=⟨by rw [List.length_append];have:=hw.1;omega,by rw [List.length_append];exact hl,fun c hc=>(List.mem_append.mp hc).elim (ha c) (hw.2.2 c)⟩
theorem Yc4 {i k:Nat} (h:i<34) (hk:k<10^30):∃ t,(badL (S (dg (k:Int))) Vg)[i]?=some (S t)∧Wy t:=by
 obtain ⟨w0,w1,w2,w3,w4,w5,w6,w7⟩:=Yc3
 have b1:((k:Nat):Int).natAbs<10^60:=by rw [Int.natAbs_natCast];exact Nat.lt_trans hk (by decide)
 have o1:=Qs b1
 have l1:(dg (k:Int)).length≤30:=XU (k:=30) (by decide) hk
 have hd:=XB k
 have lab0:Rd.okL []:=Y3
 have m1:=Y7 .part
 have m2:=Y7 .here
 have m3:=Y7 .plus
 have l49:Rd.Ok 1 (.leaf [] [49]):=Rd.okB_ok (d:=1) (by decide +kernel)
 have l50:Rd.Ok 1 (.leaf [] [50]):=Rd.okB_ok (d:=1) (by decide +kernel)
 have lh:Rd.Ok 1 (.leaf [] (mc .here)):=Rd.okB_ok (d:=1) (by decide +kernel)
 have nh:∀ c:Nat,c≤57→∀ r,c::r≠mc .here:=fun c hc r z=>by
  have e2:mc .here=[104,101,114,101]:=by decide +kernel
  rw [e2] at z
  injection z with z _
  omega
 match i,h with
 | 0,_=>exact ⟨[],congrArg some (show Str.ofString ""=_ by decide +kernel),.inr (by decide +kernel)⟩
 | 1,_=>exact ⟨_,congrArg some (show Str.ofString "there"=S (Rd.txt (lf (wd "there"))) by decide +kernel),YA (by decide +kernel) (by decide +kernel) (by decide +kernel)⟩
 | 2,_=>exact ⟨_,congrArg some (show Str.ofString "Here"=S (Rd.txt (lf (wd "Here"))) by decide +kernel),YA (by decide +kernel) (by decide +kernel) (by decide +kernel)⟩
 | 3,_=>exact ⟨_,congrArg some (show Str.ofString "here()"=S (Rd.txt (nd .here [])) by decide +kernel),YA (by decide +kernel) (by decide +kernel) (by decide +kernel)⟩
 | 4,_=>exact ⟨_,congrArg some (show Str.ofString "num(3)"=S (Rd.txt (nd .num [lf (wd "3")])) by decide +kernel),YA (by decide +kernel) (by decide +kernel) (by decide +kernel)⟩
 | 5,_=>exact ⟨_,congrArg some (show Str.ofString "num"=S (Rd.txt (lf (wd "num"))) by decide +kernel),YA (by decide +kernel) (by decide +kernel) (by decide +kernel)⟩
 | 6,_=>exact ⟨_,congrArg some (show Str.ofString "00"=S (Rd.txt (lf (wd "00"))) by decide +kernel),YA (by decide +kernel) (by decide +kernel) (by decide +kernel)⟩
 | 7,_=>exact ⟨_,congrArg some (show Str.ofString "-0"=S (Rd.txt (lf (wd "-0"))) by decide +kernel),YA (by decide +kernel) (by decide +kernel) (by decide +kernel)⟩
 | 8,_=>exact ⟨wd "+1",congrArg some (show Str.ofString "+1"=_ by decide +kernel),.inr (by decide +kernel)⟩
 | 9,_ =>
  have hz:Xc (48::dg (k:Int))=false:=by
   have:=o1.1
   cases e:dg (k:Int) with
   | nil=>rw [e] at this;simp at this
   | cons c r=>simp [Xc]
  refine ⟨48::dg (k:Int),?_,.inl ⟨by simp;omega,.leaf [] (48::dg (k:Int)),by simp [Rd.txt,Y0],⟨lab0,Yci (a:=[48]) (by decide) o1 (by show 1+(dg (k:Int)).length≤62;omega)⟩,?_⟩⟩
  ·show some (Str.ofString "0"++S (dg (k:Int)))=_
   rw [w0,Ys]
   rfl
  ·rw [tn,if_pos rfl,tw,if_neg (nh 48 (by decide) _),Xs,if_neg (by rw [hz];decide)]
   rfl
 | 10,_=>exact ⟨49::List.replicate 60 48,congrArg some (show Str.ofString "1"++Vg=_ by decide +kernel),YA (n:=lf (49::List.replicate 60 48)) (by decide +kernel) (by decide +kernel) (by decide +kernel)⟩
 | 11,_=>exact ⟨_,congrArg some (show Str.ofString "x:here"=S (Rd.txt (.leaf (wd "x") (wd "here"))) by decide +kernel),YA (by decide +kernel) (by decide +kernel) (by decide +kernel)⟩
 | 12,_=>exact ⟨_,congrArg some (show Str.ofString "part(here)"=S (Rd.txt (nd .part [lf (wd "here")])) by decide +kernel),YA (by decide +kernel) (by decide +kernel) (by decide +kernel)⟩
 | 13,_=>exact ⟨_,congrArg some (show Str.ofString "part(here,21)"=S (Rd.txt (nd .part [lf (wd "here"),lf (wd "21")])) by decide +kernel),YA (by decide +kernel) (by decide +kernel) (by decide +kernel)⟩
 | 14,_=>exact ⟨_,congrArg some (show Str.ofString "part(here,-1)"=S (Rd.txt (nd .part [lf (wd "here"),lf (wd "-1")])) by decide +kernel),YA (by decide +kernel) (by decide +kernel) (by decide +kernel)⟩
 | 15,_=>exact ⟨_,congrArg some (show Str.ofString "part(here,01)"=S (Rd.txt (nd .part [lf (wd "here"),lf (wd "01")])) by decide +kernel),YA (by decide +kernel) (by decide +kernel) (by decide +kernel)⟩
 | 16,_=>exact ⟨_,congrArg some (show Str.ofString "part(here,here)"=S (Rd.txt (nd .part [lf (wd "here"),lf (wd "here")])) by decide +kernel),YA (by decide +kernel) (by decide +kernel) (by decide +kernel)⟩
 | 17,_=>exact ⟨_,congrArg some (show Str.ofString "part(1,2,3)"=S (Rd.txt (nd .part [lf (wd "1"),lf (wd "2"),lf (wd "3")])) by decide +kernel),YA (by decide +kernel) (by decide +kernel) (by decide +kernel)⟩
 | 18,_=>exact ⟨_,congrArg some (show Str.ofString "part(here,x:1)"=S (Rd.txt (nd .part [lf (wd "here"),.leaf (wd "x") (wd "1")])) by decide +kernel),YA (by decide +kernel) (by decide +kernel) (by decide +kernel)⟩
 | 19,_=>exact ⟨_,congrArg some (show Str.ofString "part(here,1())"=S (Rd.txt (nd .part [lf (wd "here"),.node [] (wd "1") .nil])) by decide +kernel),YA (by decide +kernel) (by decide +kernel) (by decide +kernel)⟩
 | 20,_ =>
  have hw:Rd.okW (50::(dg (k:Int)++[49])):=⟨by simp,by simp;omega,fun c hc=>by
   rcases List.mem_cons.mp hc with rfl | hc
   ·decide
   ·rcases List.mem_append.mp hc with hc | hc
    ·exact o1.2.2 c hc
    ·have:c=49:=by simpa using hc
     rw [this];decide⟩
  have hp:Xx (.leaf [] (50::(dg (k:Int)++[49])))=none:=by
   rw [Xx]
   cases e:Xs (.leaf [] (50::(dg (k:Int)++[49]))) with
   | none=>rfl
   | some j =>
    obtain ⟨w,e1,e2,_⟩:=VM e
    cases e1
    show plc j=none
    rw [plc,if_neg]
    rintro ⟨h0,h20⟩
    have hj:dg j=dg (j.toNat:Int):=by rw [show ((j.toNat:Nat):Int)=j by omega]
    have z1:=XU (k:=2) (n:=j.toNat) (by decide) (by omega)
    rw [← hj,← e2,List.length_cons,List.length_append,List.length_singleton] at z1
    have z2:=o1.1
    omega
  refine ⟨mc .part++40::(mc .here++44::(50::(dg (k:Int)++[49]))++[41]),?_,.inl ⟨by simp;omega,.node [] (mc .part) (.cons (.leaf [] (mc .here)) (.cons (.leaf [] (50::(dg (k:Int)++[49]))) .nil)),by simp [Rd.txt,Rd.txts,Y0],⟨lab0,Xg _,lh,⟨lab0,hw⟩,trivial⟩,?_⟩⟩
  ·show some (Str.ofString "part(here,"++Str.ofString "2"++S (dg (k:Int))++Str.ofString "1)")=_
   rw [w2,w3,w4,Ys,Ys,Ys]
   simp
  ·rw [tn,if_pos rfl,tbk,if_pos rfl]
   show prt (tn _) (Xx _)=none
   rw [hp]
   cases tn (.leaf [] (mc .here))<;>rfl
 | 21,_=>exact ⟨_,congrArg some (show Str.ofString "count"=S (Rd.txt (lf (wd "count"))) by decide +kernel),YA (by decide +kernel) (by decide +kernel) (by decide +kernel)⟩
 | 22,_=>exact ⟨_,congrArg some (show Str.ofString "count()"=S (Rd.txt (nd .count [])) by decide +kernel),YA (by decide +kernel) (by decide +kernel) (by decide +kernel)⟩
 | 23,_=>exact ⟨_,congrArg some (show Str.ofString "count(here,here)"=S (Rd.txt (nd .count [lf (wd "here"),lf (wd "here")])) by decide +kernel),YA (by decide +kernel) (by decide +kernel) (by decide +kernel)⟩
 | 24,_ =>
  refine ⟨mc .plus++40::(dg (k:Int)++[41]),?_,.inl ⟨by simp;omega,.node [] (mc .plus) (.cons (.leaf [] (dg (k:Int))) .nil),by simp [Rd.txt,Rd.txts,Y0],⟨lab0,Xg _,⟨lab0,o1⟩,trivial⟩,?_⟩⟩
  ·show some (Str.ofString "plus("++S (dg (k:Int))++Str.ofString ")")=_
   rw [w5,w7,Ys,Ys]
   simp
  ·rw [tn,if_pos rfl,tbk,if_neg (Xo (.inr (.inl rfl))),Ww (.inl rfl)]
   simp only [Vd (m := .plus) (.inl rfl)]
   exact WU (by simp [Rd.Notes.len])
 | 25,_ =>
  refine ⟨mc .plus++40::49::44::50::44::(dg (k:Int)++[41]),?_,.inl ⟨by simp;omega,.node [] (mc .plus) (.cons (.leaf [] [49]) (.cons (.leaf [] [50]) (.cons (.leaf [] (dg (k:Int))) .nil))),by simp [Rd.txt,Rd.txts,Y0],⟨lab0,Xg _,l49,l50,⟨lab0,o1⟩,trivial⟩,?_⟩⟩
  ·show some (Str.ofString "plus(1,2,"++S (dg (k:Int))++Str.ofString ")")=_
   rw [w6,w7,Ys,Ys]
   simp
  ·rw [tn,if_pos rfl,tbk,if_neg (Xo (.inr (.inl rfl))),Ww (.inl rfl)]
   simp only [Vd (m := .plus) (.inl rfl)]
   exact WU (by simp [Rd.Notes.len])
 | 26,_=>exact ⟨_,congrArg some (show Str.ofString "times()"=S (Rd.txt (nd .times [])) by decide +kernel),YA (by decide +kernel) (by decide +kernel) (by decide +kernel)⟩
 | 27,_=>exact ⟨wd "less(1;2)",congrArg some (show Str.ofString "less(1;2)"=_ by decide +kernel),.inr (by decide +kernel)⟩
 | 28,_=>exact ⟨wd "same(1, 2)",congrArg some (show Str.ofString "same(1, 2)"=_ by decide +kernel),.inr (by decide +kernel)⟩
 | 29,_=>exact ⟨_,congrArg some (show Str.ofString "not(1,2)"=S (Rd.txt (nd .not [lf (wd "1"),lf (wd "2")])) by decide +kernel),YA (by decide +kernel) (by decide +kernel) (by decide +kernel)⟩
 | 30,_=>exact ⟨_,congrArg some (show Str.ofString "when(1,2)"=S (Rd.txt (nd .when [lf (wd "1"),lf (wd "2")])) by decide +kernel),YA (by decide +kernel) (by decide +kernel) (by decide +kernel)⟩
 | 31,_=>exact ⟨_,congrArg some (show Str.ofString "when(1,2,3,4)"=S (Rd.txt (nd .when [lf (wd "1"),lf (wd "2"),lf (wd "3"),lf (wd "4")])) by decide +kernel),YA (by decide +kernel) (by decide +kernel) (by decide +kernel)⟩
 | 32,_=>exact ⟨_,congrArg some (show Str.ofString "each(here,x:here)"=S (Rd.txt (nd .each [lf (wd "here"),.leaf (wd "x") (wd "here")])) by decide +kernel),YA (by decide +kernel) (by decide +kernel) (by decide +kernel)⟩
 | 33,_=>exact ⟨_,congrArg some (show Str.ofString "row(1,2)"=S (Rd.txt (.node [] (wd "row") (.cons (lf (wd "1")) (.cons (lf (wd "2")) .nil)))) by decide +kernel),YA (by decide +kernel) (by decide +kernel) (by decide +kernel)⟩
 | n+34,h=>exact absurd h (by omega)
def U2 (K:PySem.W.Frag):Sp:=fun vs H Q _=>∃ (a:Addr) (ns:List Int) (k:Nat),vs=[.ref a,.int k]∧SqL K H a (ns.map V.int)∧ns.length≤63∧Q (.int (ns.getD k 0)) H
theorem Z2j {Z1 Z2 Z3 Z0:Addr} (R:g.Raw "_law_cell_at" "_law_cell_at" Z0I ["_law_script","_law_k"]) (b_len:g.mg "len"=none):g.Fn (1) "_law_cell_at" ["_law_script","_law_k"] (U2 g.K):=by
 refine R.fn Z2f (fun vs H Q E h=>by obtain ⟨a,ns,k,rfl,hS,hl,q⟩:=h;rfl) fun f_ cdv A outer s H vs Q E hr h=>?_
 obtain ⟨a,ns,k,rfl,hS,hl,q⟩:=h
 refine ⟨_,(@Yd _ _ _ _ _ (@Yt _ _ _ _ _ _ _ _ (@Yp _ _ _ _ _ _ _ _ Qa (pv 1) (@Xe _ _ _ _ _ _ _ _ _ _ b_len Wo (@Ya _ _ _ _ _ (pv 0) Yc (by rfl)) (by decide +kernel) (by rfl) (by rfl) (by decide) (by decide) (by rfl) (by rfl)) (Yr _)) (@Ye _ _ _ (@Yj _ _ _ _ (@Yz _ _ _ _ _ _ _ Xu (pv 0) (pv 1) (fun _ _=>rfl)))) Yk) (@Ye _ _ _ (@Yj _ _ _ _ Yh))),?_⟩
 walk_at "rd"
 refine ⟨_,.inl hS,Yw (fun c=>?_) fun c=>?_⟩
 ·rw [List.length_map] at c
  have hk:k<ns.length:=by omega
  have e:ns.getD k 0=ns[k]:=by simp [List.getD_eq_getElem?_getD,List.getElem?_eq_getElem hk]
  rw [e] at q
  exact ⟨_,hS,_,Y6 (by rw [List.getElem?_map,List.getElem?_eq_getElem hk];rfl),q⟩
 ·rw [List.length_map] at c
  have hk:ns.length≤k:=by omega
  have e:ns.getD k 0=0:=by simp [List.getD_eq_getElem?_getD,List.getElem?_eq_none hk]
  rw [e] at q
  exact q
def vS (xs:List Str):List V:=xs.map V.str
theorem Ybp {H:Hp} {K:PySem.W.Frag} {p:Addr} {xs:List Str} {Q:V→Hp→Prop} {i:Nat} {x:Str} (hp:H p=some (.lst (vS xs))) (e:xs[i]?=some x) (q:Q (.str x) H):∃ y,SqL K H p y∧∃ z,atI y (i:Int)=some z∧Q z H:=⟨_,SqL.of hp,_,Y6 (by rw [vS,List.getElem?_map,e];rfl),q⟩
theorem Vy (x y:Str):(x++y).length=x.length+y.length:=by
 show (x.cps++y.cps).size=_
 rw [Array.size_append]
 rfl
theorem cl1 {x y:Str} (hx:x.length≤100) (hy:y.length≤1000):x.length+y.length≤sizeLine:=few (by omega)
theorem cl2 {x y z:Str} (hx:x.length≤100) (hy:y.length≤1000) (hz:z.length≤100):(x++y).length+z.length≤sizeLine:=few (by rw [Vy];omega)
theorem QB (x:Str):x=S x.cps.toList:=by unfold S;simp
theorem cl3 {x y:Str} (hx:x.length≤1000) (hy:y.length≤1000):x.length+y.length≤sizeLine:=few (by omega)
theorem cl4 {y:Str} (hy:y.length≤1000):(Str.ofString "part(here,"++Str.ofString "2"++y).length+(Str.ofString "1)").length≤sizeLine:=few (by
 have e1:(Str.ofString "part(here,").length=10:=by decide
 have e2:(Str.ofString "2").length=1:=by decide
 have e3:(Str.ofString "1)").length=2:=by decide
 rw [Vy,Vy]
 omega)
theorem U3 (c a m:Nat) {M:Int} (h:M=(m:Int)):(c:Int) / (a:Int)%M=((c / a%m:Nat):Int):=by rw [h,Int.natCast_emod,Int.natCast_ediv]
theorem Xl {H1:Hp} {p:Addr} {A B:List V} {N:Addr→Hp→Prop} (hp:H1 p=some (.lst A)) (hl:A.length+B.length≤sizeLine) (h:∀ p2 H2,Same H1 H2→H2 p2=some (.lst (A++B))→N p2 H2):∀ p1,H1 p1=none→∃ x,upd H1 p1 (.lst B) p=some (.lst x)∧∃ x1,upd H1 p1 (.lst B) p1=some (.lst x1)∧x.length+x1.length≤sizeLine∧∀ p2,upd H1 p1 (.lst B) p2=none→N p2 (upd (upd H1 p1 (.lst B)) p2 (.lst (x++x1))):=fun p1 h1 =>
 ⟨A,by rw [Yl (Yq hp h1)];exact hp,B,Yf,hl,fun p2 h2=>h p2 _ ((Same.upd_new h1 _).trans (Same.upd_new h2 _)) Yf⟩
def U4 (K:PySem.W.Frag):Sp:=fun vs H Q _=>∃ (c:Nat),vs=[.int c]∧∀ t H',QA t→Same H H'→Q (.str (S t)) H'
theorem UI {Z1 Z2 Z3 Z0:Addr} (R:g.Raw "_law_good" "_law_good" Z1m ["_law_cell"]) (b_str:g.mg "str"=none):g.Fn (1) "_law_good" ["_law_cell"] (U4 g.K):=by
 refine R.fn Z16 (fun vs H Q E h=>by obtain ⟨c,rfl,q⟩:=h;rfl) fun f_ cdv A outer s H vs Q E hr h=>?_
 obtain ⟨c,rfl,q⟩:=h
 refine ⟨_,(@Yd _ _ _ _ _ (@Ym _ _ (1) _ _ _ _ Z16.nd rfl (.inl rfl) (@YJ _ _ _ _ (@Ya _ _ _ _ _ Yb (@Ya _ _ _ _ _ Yb (@Ya _ _ _ _ _ Yb (@Ya _ _ _ _ _ Yb (@Ya _ _ _ _ _ Yb (@Ya _ _ _ _ _ Yb (@Ya _ _ _ _ _ Yb Yc (by rfl)) (by rfl)) (by rfl)) (by rfl)) (by rfl)) (by rfl)) (by rfl))) (by rfl) (by first | exact .inl rfl | exact .inr rfl | assumption)) (@Yd _ _ _ _ _ (@Ym _ _ (1) _ _ _ _ Z16.nd rfl (.inl rfl) (@Yn _ _ _ _ _ _ _ _ XQ (pv 1) (@YJ _ _ _ _ (@Ya _ _ _ _ _ Yb (@Ya _ _ _ _ _ Yb (@Ya _ _ _ _ _ (@XD _ _ _ _ _ _ _ _ _ _ b_str Xp (@Ya _ _ _ _ _ (@Yn _ _ _ _ _ _ _ _ Y8 (@Yn _ _ _ _ _ _ _ _ WQ (pv 0) Yh) (@Yn _ _ _ _ _ _ _ _ VW Yh Yh)) Yc (by rfl)) (by decide +kernel) (by rfl) (by rfl) (by decide) (by decide) (by rfl) (by rfl)) Yc (by rfl)) (by rfl)) (by rfl)))) (by rfl) (by first | exact .inl rfl | exact .inr rfl | assumption)) (@Ye _ _ _ (@Yj _ _ _ _ (@Yz _ _ _ _ _ _ _ Xu (pv 1) (@Yn _ _ _ _ _ _ _ _ Y8 (pv 0) Yh) (fun _ _=>rfl)))))),?_⟩
 have hk:c / 10%10^60<10^60:=Nat.mod_lt _ (by decide)
 have e1:(c:Int) / 10%10^Int.toNat 60=((c / 10%10^60:Nat):Int):=U3 c 10 (10^60) (by decide +kernel)
 have b1:(((c / 10%10^60:Nat):Int)).natAbs<10^60:=by rw [Int.natAbs_natCast];exact hk
 have ga:=Ych (k:=c / 10%10^60) (i:=c%10) (Nat.mod_lt _ (by decide)) hk
 generalize c / 10%10^60=k at *
 have e4:(c:Int)%10=((c%10:Nat):Int):=by omega
 refine V8 (fun σ H'=>∃ p,σ=[some (.int c),some (.ref p)]∧Same H H'∧H' p=some (.lst (vS (Qz (S (dg (k:Int))))))) ?_ ?_
 rotate_left
 ·intro N hN
  walk_at "rd"
  rw [e1,W6]
  refine ⟨few (by decide),fun p hp=>⟨Wr (by decide) (by decide),cpow,by decide +kernel,Vs b1,few (by decide),Xl (N:=fun p2 H2=>N [some (.int c),some (.ref p2)] H2) (p:=p) Yf ?_ fun p2 H3 s3 h3=>hN _ _ ⟨p2,rfl,(Same.upd_new hp _).trans s3,h3⟩⟩⟩
  exact few (show (10:Nat)≤100000 by decide)
 rintro σ H' ⟨p,rfl,s,hp⟩
 walk_at "rd"
 rw [e4]
 obtain ⟨t,e,hg⟩:=ga
 exact ⟨by decide,Ybp hp e (q t H' hg s)⟩
def Yax (K:PySem.W.Frag):Sp:=fun vs H Q _=>∃ (c:Nat),vs=[.int c]∧∀ t H',Wy t→Same H H'→Q (.str (S t)) H'
def WV (c k:Nat) (H:Hp) (j:Nat) (σ:St) (H':Hp):Prop:=∃ p,σ=[some (.int c),some (.str (S (dg (k:Int)))),some (.ref p)]∧Same H H'∧H' p=some (.lst (vS ((badL (S (dg (k:Int))) Vg).take j)))
theorem QC {Z1 Z2 Z3 Z0:Addr} (R:g.Raw "_law_bad" "_law_bad" Z1B ["_law_cell"]) (b_str:g.mg "str"=none):g.Fn (1) "_law_bad" ["_law_cell"] (Yax g.K):=by
 refine R.fn ZE (fun vs H Q E h=>by obtain ⟨c,rfl,q⟩:=h;rfl) fun f_ cdv A outer s H vs Q E hr h=>?_
 obtain ⟨c,rfl,q⟩:=h
 refine ⟨_,(@Yd _ _ _ _ _ (@Ym _ _ (1) _ _ _ _ ZE.nd rfl (.inl rfl) (@XD _ _ _ _ _ _ _ _ _ _ b_str Xp (@Ya _ _ _ _ _ (@Yn _ _ _ _ _ _ _ _ Y8 (@Yn _ _ _ _ _ _ _ _ WQ (pv 0) Yh) (@Yn _ _ _ _ _ _ _ _ VW Yh Yh)) Yc (by rfl)) (by decide +kernel) (by rfl) (by rfl) (by decide) (by decide) (by rfl) (by rfl)) (by rfl) (by first | exact .inl rfl | exact .inr rfl | assumption)) (@Yd _ _ _ _ _ (@Ym _ _ (2) _ _ _ _ ZE.nd rfl (.inl rfl) (@YJ _ _ _ _ (@Ya _ _ _ _ _ Yb (@Ya _ _ _ _ _ Yb (@Ya _ _ _ _ _ Yb (@Ya _ _ _ _ _ Yb (@Ya _ _ _ _ _ Yb (@Ya _ _ _ _ _ Yb (@Ya _ _ _ _ _ Yb (@Ya _ _ _ _ _ Yb (@Ya _ _ _ _ _ Yb (@Ya _ _ _ _ _ (@Yn _ _ _ _ _ _ _ _ Yu Yb (pv 1)) Yc (by rfl)) (by rfl)) (by rfl)) (by rfl)) (by rfl)) (by rfl)) (by rfl)) (by rfl)) (by rfl)) (by rfl))) (by rfl) (by first | exact .inl rfl | exact .inr rfl | assumption)) (@Yd _ _ _ _ _ (@Ym _ _ (2) _ _ _ _ ZE.nd rfl (.inl rfl) (@Yn _ _ _ _ _ _ _ _ XQ (pv 2) (@YJ _ _ _ _ (@Ya _ _ _ _ _ (@Yn _ _ _ _ _ _ _ _ Yu Yb (@Yn _ _ _ _ _ _ _ _ Vn Yb Yh)) (@Ya _ _ _ _ _ Yb Yc (by rfl)) (by rfl)))) (by rfl) (by first | exact .inl rfl | exact .inr rfl | assumption)) (@Yd _ _ _ _ _ (@Ym _ _ (2) _ _ _ _ ZE.nd rfl (.inl rfl) (@Yn _ _ _ _ _ _ _ _ XQ (pv 2) (@YJ _ _ _ _ (@Ya _ _ _ _ _ Yb (@Ya _ _ _ _ _ Yb (@Ya _ _ _ _ _ Yb (@Ya _ _ _ _ _ Yb (@Ya _ _ _ _ _ Yb Yc (by rfl)) (by rfl)) (by rfl)) (by rfl)) (by rfl)))) (by rfl) (by first | exact .inl rfl | exact .inr rfl | assumption)) (@Yd _ _ _ _ _ (@Ym _ _ (2) _ _ _ _ ZE.nd rfl (.inl rfl) (@Yn _ _ _ _ _ _ _ _ XQ (pv 2) (@YJ _ _ _ _ (@Ya _ _ _ _ _ Yb (@Ya _ _ _ _ _ Yb (@Ya _ _ _ _ _ Yb (@Ya _ _ _ _ _ (@Yn _ _ _ _ _ _ _ _ Yu (@Yn _ _ _ _ _ _ _ _ Yu (@Yn _ _ _ _ _ _ _ _ Yu Yb Yb) (pv 1)) Yb) (@Ya _ _ _ _ _ Yb Yc (by rfl)) (by rfl)) (by rfl)) (by rfl)) (by rfl)))) (by rfl) (by first | exact .inl rfl | exact .inr rfl | assumption)) (@Yd _ _ _ _ _ (@Ym _ _ (2) _ _ _ _ ZE.nd rfl (.inl rfl) (@Yn _ _ _ _ _ _ _ _ XQ (pv 2) (@YJ _ _ _ _ (@Ya _ _ _ _ _ Yb (@Ya _ _ _ _ _ Yb (@Ya _ _ _ _ _ (@Yn _ _ _ _ _ _ _ _ Yu (@Yn _ _ _ _ _ _ _ _ Yu Yb (pv 1)) Yb) (@Ya _ _ _ _ _ (@Yn _ _ _ _ _ _ _ _ Yu (@Yn _ _ _ _ _ _ _ _ Yu Yb (pv 1)) Yb) (@Ya _ _ _ _ _ Yb Yc (by rfl)) (by rfl)) (by rfl)) (by rfl)) (by rfl)))) (by rfl) (by first | exact .inl rfl | exact .inr rfl | assumption)) (@Yd _ _ _ _ _ (@Ym _ _ (2) _ _ _ _ ZE.nd rfl (.inl rfl) (@Yn _ _ _ _ _ _ _ _ XQ (pv 2) (@YJ _ _ _ _ (@Ya _ _ _ _ _ Yb (@Ya _ _ _ _ _ Yb (@Ya _ _ _ _ _ Yb (@Ya _ _ _ _ _ Yb (@Ya _ _ _ _ _ Yb Yc (by rfl)) (by rfl)) (by rfl)) (by rfl)) (by rfl)))) (by rfl) (by first | exact .inl rfl | exact .inr rfl | assumption)) (@Yd _ _ _ _ _ (@Ym _ _ (2) _ _ _ _ ZE.nd rfl (.inl rfl) (@Yn _ _ _ _ _ _ _ _ XQ (pv 2) (@YJ _ _ _ _ (@Ya _ _ _ _ _ Yb (@Ya _ _ _ _ _ Yb Yc (by rfl)) (by rfl)))) (by rfl) (by first | exact .inl rfl | exact .inr rfl | assumption)) (@Ye _ _ _ (@Yj _ _ _ _ (@Yz _ _ _ _ _ _ _ Xu (pv 2) (@Yn _ _ _ _ _ _ _ _ Y8 (pv 0) Yh) (fun _ _=>rfl)))))))))))),?_⟩
 have hk:c / 34%10^30<10^30:=Nat.mod_lt _ (by decide)
 have e1:(c:Int) / 34%10^Int.toNat 30=((c / 34%10^30:Nat):Int):=U3 c 34 (10^30) (by decide +kernel)
 have b1:(((c / 34%10^30:Nat):Int)).natAbs<10^60:=by rw [Int.natAbs_natCast];exact Nat.lt_trans hk (by decide)
 have bad:=Yc4 (k:=c / 34%10^30) (i:=c%34) (Nat.mod_lt _ (by decide)) hk
 have l1:(dg ((c / 34%10^30:Nat):Int)).length≤30:=XU (k:=30) (by decide) hk
 generalize c / 34%10^30=k at *
 have e4:(c:Int)%34=((c%34:Nat):Int):=by omega
 refine XT (fun σ H'=>H'=H∧σ=[some (.int c),some (.str (S (dg (k:Int)))),none]) ?_ ?_
 rotate_left
 ·intro N hN
  walk_at "rd"
  rw [e1,W6]
  exact ⟨Wr (by decide) (by decide),cpow,by decide,Vs b1,hN _ _ ⟨rfl,rfl⟩⟩
 rintro σ H' ⟨rfl,rfl⟩
 have lN:(S (dg (k:Int))).length≤1000:=by rw [Yx];omega
 refine XT (WV c k H' 10) ?_ ?_
 rotate_left
 ·intro N hN
  walk_at "rd"
  exact ⟨cl1 (by decide) lN,few (by decide),fun p hp=>hN _ _ ⟨p,rfl,Same.upd_new hp _,Yf⟩⟩
 rintro σ H1 ⟨p,rfl,s1,hp⟩
 refine XT (WV c k H' 12) ?_ ?_
 rotate_left
 ·intro N hN
  walk_at "rd"
  refine ⟨by decide,by decide,by decide,fun r hr=>?_⟩
  have er:r=Vg:=by
   rw [QB r,hr]
   decide +kernel
  subst er
  refine ⟨cl1 (by decide) (by decide +kernel),few (by decide),Xl (N:=fun p2 H2=>N [some (.int c),some (.str (S (dg (k:Int)))),some (.ref p2)] H2) hp ?_ fun p2 H3 s3 h3=>hN _ _ ⟨p2,rfl,s1.trans s3,h3⟩⟩
  exact few (show (12:Nat)≤100000 by decide)
 clear hp s1
 rintro σ H1 ⟨p,rfl,s1,hp⟩
 refine XT (WV c k H' 17) ?_ ?_
 rotate_left
 ·intro N hN
  walk_at "rd"
  refine ⟨few (by decide),Xl (N:=fun p2 H2=>N [some (.int c),some (.str (S (dg (k:Int)))),some (.ref p2)] H2) hp ?_ fun p2 H3 s3 h3=>hN _ _ ⟨p2,rfl,s1.trans s3,h3⟩⟩
  exact few (show (17:Nat)≤100000 by decide)
 clear hp s1
 rintro σ H1 ⟨p,rfl,s1,hp⟩
 refine XT (WV c k H' 22) ?_ ?_
 rotate_left
 ·intro N hN
  walk_at "rd"
  refine ⟨cl1 (by decide) (by decide),cl3 (by decide) lN,cl4 lN,few (by decide),Xl (N:=fun p2 H2=>N [some (.int c),some (.str (S (dg (k:Int)))),some (.ref p2)] H2) hp ?_ fun p2 H3 s3 h3=>hN _ _ ⟨p2,rfl,s1.trans s3,h3⟩⟩
  exact few (show (22:Nat)≤100000 by decide)
 clear hp s1
 rintro σ H1 ⟨p,rfl,s1,hp⟩
 refine XT (WV c k H' 27) ?_ ?_
 rotate_left
 ·intro N hN
  walk_at "rd"
  refine ⟨cl1 (by decide) lN,cl2 (by decide) lN (by decide),cl1 (by decide) lN,cl2 (by decide) lN (by decide),few (by decide),Xl (N:=fun p2 H2=>N [some (.int c),some (.str (S (dg (k:Int)))),some (.ref p2)] H2) hp ?_ fun p2 H3 s3 h3=>hN _ _ ⟨p2,rfl,s1.trans s3,h3⟩⟩
  exact few (show (27:Nat)≤100000 by decide)
 clear hp s1
 rintro σ H1 ⟨p,rfl,s1,hp⟩
 refine XT (WV c k H' 32) ?_ ?_
 rotate_left
 ·intro N hN
  walk_at "rd"
  refine ⟨few (by decide),Xl (N:=fun p2 H2=>N [some (.int c),some (.str (S (dg (k:Int)))),some (.ref p2)] H2) hp ?_ fun p2 H3 s3 h3=>hN _ _ ⟨p2,rfl,s1.trans s3,h3⟩⟩
  exact few (show (32:Nat)≤100000 by decide)
 clear hp s1
 rintro σ H1 ⟨p,rfl,s1,hp⟩
 refine XT (WV c k H' 34) ?_ ?_
 rotate_left
 ·intro N hN
  walk_at "rd"
  refine ⟨few (by decide),Xl (N:=fun p2 H2=>N [some (.int c),some (.str (S (dg (k:Int)))),some (.ref p2)] H2) hp ?_ fun p2 H3 s3 h3=>hN _ _ ⟨p2,rfl,s1.trans s3,h3⟩⟩
  exact few (show (34:Nat)≤100000 by decide)
 clear hp s1
 rintro σ H1 ⟨p,rfl,s1,hp⟩
 walk_at "rd"
 rw [e4]
 obtain ⟨t,e,hb⟩:=bad
 exact ⟨by decide,Ybp (xs:=badL (S (dg (k:Int))) Vg) hp e (q t H1 hb s1)⟩
def Yc5:List V:=[V.str (Str.ofString ""),V.str (Str.ofString "plus("),V.str (Str.ofString "less(here,"),V.str (Str.ofString "part("),V.str (Str.ofString "not(")]
def Vh:List V:=[V.str (Str.ofString ""),V.str (Str.ofString ",1)"),V.str (Str.ofString ")"),V.str (Str.ofString ",3)"),V.str (Str.ofString ")")]
def Yc6:List V:=[V.str (Str.ofString "count"),V.str (Str.ofString "sum"),V.str (Str.ofString "not"),V.str (Str.ofString "turned")]
theorem ah_at {p:Nat} (h:p<5):Yc5[p]?=some (.str (S (ah p)))∧Vh[p]?=some (.str (S (bh p)))∧(ah p).length≤20∧(bh p).length≤5:=by
 have e:∀ p,p<5→(([Str.ofString "",Str.ofString "plus(",Str.ofString "less(here,",Str.ofString "part(",Str.ofString "not("])[p]?=some (S (ah p))∧([Str.ofString "",Str.ofString ",1)",Str.ofString ")",Str.ofString ",3)",Str.ofString ")"])[p]?=some (S (bh p))∧(ah p).length≤20∧(bh p).length≤5):=by decide +kernel
 obtain ⟨h1,h2,h3,h4⟩:=e p h
 refine ⟨?_,?_,h3,h4⟩
 ·show ((([Str.ofString "",Str.ofString "plus(",Str.ofString "less(here,",Str.ofString "part(",Str.ofString "not("]).map V.str)[p]?)=_
  rw [List.getElem?_map,h1];rfl
 ·show ((([Str.ofString "",Str.ofString ",1)",Str.ofString ")",Str.ofString ",3)",Str.ofString ")"]).map V.str)[p]?)=_
  rw [List.getElem?_map,h2];rfl
theorem mk_at {i:Nat} (h:i<4):Yc6[i]?=some (.str (S (mc (wmk i)))):=by
 rcases (by omega:i=0∨i=1∨i=2∨i=3) with rfl | rfl | rfl | rfl
 ·exact congrArg (some ∘ V.str) (YT .count)
 ·exact congrArg (some ∘ V.str) (YT .sum)
 ·exact congrArg (some ∘ V.str) (YT .not)
 ·exact congrArg (some ∘ V.str) (YT .turned)
structure Fin51 (way:Nat) (t:List Nat):Prop where
 good:way<2→Ybo t
 bad:2≤way→way<6→Uz t
 crd:way=6→t.length≤100000∧¬ Rd.okD 0 t
theorem UB:∀ {a b:List Nat} {d:Int},Rd.okD d (a++b)→Rd.okD d a
 | [],_,_,_=>trivial
 | c::a,b,d,h=>⟨h.1,UB h.2⟩
theorem seven {b:List Nat}:¬ Rd.okD 0 ((List.replicate 7 (mc .not++[40])).flatten++b):=fun h=>by
 have h1:=UB h
 have e:(List.replicate 7 (mc .not++[40])).flatten=(List.replicate 6 (mc .not++[40])).flatten++(mc .not++[40]):=by decide +kernel
 rw [e] at h1
 have h2:=Rd.okD_right h1
 have e6:Rd.endD 0 (List.replicate 6 (mc .not++[40])).flatten=6:=by decide +kernel
 rw [e6] at h2
 have h3:=Rd.okD_right h2
 have e7:Rd.endD 6 (mc .not)=6:=by decide +kernel
 rw [e7] at h3
 have:=h3.1
 simp [Rd.stepD] at this
inductive Out51 (CN CC:Addr) (H:Hp) (way:Nat) (t:List Nat):V→V→Prop
 | good {z:Tm} {v:V}:way<2→ttx t=some z→TA H z v→Out51 CN CC H way t .non v
 | bad (b:Addr) (C:Addr):(C=CN∧2≤way∧way<6∨C=CC∧way=6)→H b=some (X3 b (.ref C))→Out51 CN CC H way t (.ref b) .non
theorem YaS {k:Nat} {Z1 Z2 Z3 Z0:Addr} (F_read_term:g.FnX k "read_term" ["text"] (Z1E g.K Z2 Z3)) (Z17:g.Fn k "show_term" ["term"] (Z0i g.K 9)) (ZM:g.Fn k "_law_cell_at" ["_law_script","_law_k"] (U2 g.K)) (F_law_good:g.Fn k "_law_good" ["_law_cell"] (U4 g.K)) (F_law_bad:g.Fn k "_law_bad" ["_law_cell"] (Yax g.K)) (ZR:g.mg "ValueError"=none) (Zs:g.mg "isinstance"=none) (Z1h:g.mg "range"=none) (x_CountError:g.mg "CountError"=some (.ref Z1)) (x_Crowded:g.mg "Crowded"=some (.ref Z3)) (x_NoNote:g.mg "NoNote"=some (.ref Z2)) (t_Crowded:ExcT g.K Z3) (t_NoNote:ExcT g.K Z2) (i_NoNote_NoNote:PySem.W.kitOne g.K (.ref Z2) (.ref Z2)=some true) (i_NoNote_Crowded:PySem.W.kitOne g.K (.ref Z2) (.ref Z3)=some false) (i_NoNote_ValueError:PySem.W.kitOne g.K (.ref Z2) (.type "ValueError")=some true) (i_Crowded_NoNote:PySem.W.kitOne g.K (.ref Z3) (.ref Z2)=some false) (i_Crowded_Crowded:PySem.W.kitOne g.K (.ref Z3) (.ref Z3)=some true) (i_Crowded_ValueError:PySem.W.kitOne g.K (.ref Z3) (.type "ValueError")=some true) (m_NoNote_CountError:PySem.W.exmOne g.K (.ref Z2) (.ref Z1)=some true) (m_Crowded_CountError:PySem.W.exmOne g.K (.ref Z3) (.ref Z1)=some true):Vm g k ["_law_script","_law_way","_law_cell","_law_text","_law_place","_law_ahead","_law_k","_law_thing","_law_error","_law_term","e"] "law" VS (W5 g.K):=by
 refine fun f_ cdv A outer s H vs Q E hr h=>?_
 obtain ⟨a,ns,rfl,hS,hl,q⟩:=h
 refine ⟨_,(@Yd _ _ _ _ _ (@Ym _ _ (1) _ _ _ _ YL.nd rfl (.inl rfl) (@Yn _ _ _ _ _ _ _ _ Y8 (@YR _ _ _ _ _ _ _ _ _ _ _ _ ZM hr (@Ya _ _ _ _ _ (pv 0) (@Ya _ _ _ _ _ Yh Yc (by rfl)) (by rfl)) (by omega) (by rfl) (by rfl) (by decide) (by rfl) (by rfl)) Yh) (by rfl) (by first | exact .inl rfl | exact .inr rfl | assumption)) (@Yd _ _ _ _ _ (@Ym _ _ (2) _ _ _ _ YL.nd rfl (.inl rfl) (@Yn _ _ _ _ _ _ _ _ Y8 (@YR _ _ _ _ _ _ _ _ _ _ _ _ ZM hr (@Ya _ _ _ _ _ (pv 0) (@Ya _ _ _ _ _ Yh Yc (by rfl)) (by rfl)) (by omega) (by rfl) (by rfl) (by decide) (by rfl) (by rfl)) (@Yn _ _ _ _ _ _ _ _ VW Yh Yh)) (by rfl) (by first | exact .inl rfl | exact .inr rfl | assumption)) (@Yd _ _ _ _ _ (@Ym _ _ (3) _ _ _ _ YL.nd rfl (.inl rfl) (@YR _ _ _ _ _ _ _ _ _ _ _ _ F_law_good hr (@Ya _ _ _ _ _ (pv 2) Yc (by rfl)) (by omega) (by rfl) (by rfl) (by decide) (by rfl) (by rfl)) (by rfl) (by first | exact .inl rfl | exact .inr rfl | assumption)) (@Yd _ _ _ _ _ (@Yt _ _ _ _ _ _ _ _ (@Yp _ _ _ _ _ _ _ _ Qb (pv 1) Yh (Yr _)) (@Ye _ _ _ (@Ym _ _ (3) _ _ _ _ YL.nd rfl (.inl rfl) (@YR _ _ _ _ _ _ _ _ _ _ _ _ F_law_bad hr (@Ya _ _ _ _ _ (pv 2) Yc (by rfl)) (by omega) (by rfl) (by rfl) (by decide) (by rfl) (by rfl)) (by rfl) (by first | exact .inl rfl | exact .inr rfl | assumption))) Yk) (@Yd _ _ _ _ _ (@Ym _ _ (4) _ _ _ _ YL.nd rfl (.inl rfl) (@Yn _ _ _ _ _ _ _ _ Y8 (@YR _ _ _ _ _ _ _ _ _ _ _ _ ZM hr (@Ya _ _ _ _ _ (pv 0) (@Ya _ _ _ _ _ Yh Yc (by rfl)) (by rfl)) (by omega) (by rfl) (by rfl) (by decide) (by rfl) (by rfl)) Yh) (by rfl) (by first | exact .inl rfl | exact .inr rfl | assumption)) (@Yd _ _ _ _ _ (@Ym _ _ (5) _ _ _ _ YL.nd rfl (.inl rfl) (@Yz _ _ _ _ _ _ _ Xu (@YJ _ _ _ _ (@Ya _ _ _ _ _ Yb (@Ya _ _ _ _ _ Yb (@Ya _ _ _ _ _ Yb (@Ya _ _ _ _ _ Yb (@Ya _ _ _ _ _ Yb Yc (by rfl)) (by rfl)) (by rfl)) (by rfl)) (by rfl))) (pv 4) (fun _ _=>rfl)) (by rfl) (by first | exact .inl rfl | exact .inr rfl | assumption)) (@Yd _ _ _ _ _ (@Ym _ _ (3) _ _ _ _ YL.nd rfl (.inl rfl) (@Yn _ _ _ _ _ _ _ _ Yu (@Yn _ _ _ _ _ _ _ _ Yu (pv 5) (pv 3)) (@Yz _ _ _ _ _ _ _ Xu (@YJ _ _ _ _ (@Ya _ _ _ _ _ Yb (@Ya _ _ _ _ _ Yb (@Ya _ _ _ _ _ Yb (@Ya _ _ _ _ _ Yb (@Ya _ _ _ _ _ Yb Yc (by rfl)) (by rfl)) (by rfl)) (by rfl)) (by rfl))) (pv 4) (fun _ _=>rfl))) (by rfl) (by first | exact .inl rfl | exact .inr rfl | assumption)) (@Yd _ _ _ _ _ (@QL _ _ _ _ _ _ _ _ PassesOwn.never rfl (@QJ _ _ _ _ _ _ rfl Z1h (@Ya _ _ _ _ _ (@Yn _ _ _ _ _ _ _ _ Y8 (@YR _ _ _ _ _ _ _ _ _ _ _ _ ZM hr (@Ya _ _ _ _ _ (pv 0) (@Ya _ _ _ _ _ Yh Yc (by rfl)) (by rfl)) (by omega) (by rfl) (by rfl) (by decide) (by rfl) (by rfl)) Yh) Yc (by rfl)) (by rfl)) (@Xt _ _ (6) _ YL.nd rfl (.inl rfl) (by first | exact .inl rfl | exact .inr rfl | assumption)) (@Ye _ _ _ (@Ym _ _ (3) _ _ _ _ YL.nd rfl (.inl rfl) (@Yn _ _ _ _ _ _ _ _ Yu (@Yn _ _ _ _ _ _ _ _ Yu (@Yn _ _ _ _ _ _ _ _ Yu (@Yz _ _ _ _ _ _ _ Xu (@YJ _ _ _ _ (@Ya _ _ _ _ _ Yb (@Ya _ _ _ _ _ Yb (@Ya _ _ _ _ _ Yb (@Ya _ _ _ _ _ Yb Yc (by rfl)) (by rfl)) (by rfl)) (by rfl))) (@Yn _ _ _ _ _ _ _ _ Y8 (@YR _ _ _ _ _ _ _ _ _ _ _ _ ZM hr (@Ya _ _ _ _ _ (pv 0) (@Ya _ _ _ _ _ (@Yn _ _ _ _ _ _ _ _ QN Yh (pv 6)) Yc (by rfl)) (by rfl)) (by omega) (by rfl) (by rfl) (by decide) (by rfl) (by rfl)) Yh) (fun _ _=>rfl)) Yb) (pv 3)) Yb) (by rfl) (by first | exact .inl rfl | exact .inr rfl | assumption))) (by intro _;rfl)) (@Yd _ _ _ _ _ (@Yt _ _ _ _ _ _ _ _ (@Yp _ _ _ _ _ _ _ _ YQ (pv 1) Yh (Yr _)) (@Ye _ _ _ (@Ym _ _ (3) _ _ _ _ YL.nd rfl (.inl rfl) (@Yn _ _ _ _ _ _ _ _ Yu (@Yn _ _ _ _ _ _ _ _ Yu (@Yn _ _ _ _ _ _ _ _ Vn Yb Yh) (pv 3)) (@Yn _ _ _ _ _ _ _ _ Vn Yb Yh)) (by rfl) (by first | exact .inl rfl | exact .inr rfl | assumption))) Yk) (@Yd _ _ _ _ _ (@Ym _ _ (7) _ _ _ _ YL.nd rfl (.inl rfl) (pv 3) (by rfl) (by first | exact .inl rfl | exact .inr rfl | assumption)) (@Yd _ _ _ _ _ (@Yt _ _ _ _ _ _ _ _ (@Yco _ _ _ _ _ _ _ (@Yp _ _ _ _ _ _ _ _ YQ (pv 1) Yh (Yr _)) (@Ybt _ _ _ _ (@Yp _ _ _ _ _ _ _ _ YQ (@Yn _ _ _ _ _ _ _ _ Y8 (pv 2) Yh) Yh (Yr _)))).pt (@Ye _ _ _ (@Ym _ _ (7) _ _ _ _ YL.nd rfl (.inl rfl) (@Yz _ _ _ _ _ _ _ Xu (@YJ _ _ _ _ (@Ya _ _ _ _ _ XM (@Ya _ _ _ _ _ Yh (@Ya _ _ _ _ _ (@Y9 _ _ _ _ _ (@Ya _ _ _ _ _ Yb (@Ya _ _ _ _ _ (@Y9 _ _ _ _ _ Yc) Yc (We _ _ _ _ _)) (by rfl))) Yc (We _ _ _ _ _)) (by rfl)) (by rfl))) (@Yn _ _ _ _ _ _ _ _ Y8 (@Yn _ _ _ _ _ _ _ _ WQ (pv 2) Yh) Yh) (fun _ _=>rfl)) (by rfl) (by first | exact .inl rfl | exact .inr rfl | assumption))) Yk) (@Yd _ _ _ _ _ (@Ym _ _ (8) _ _ _ _ YL.nd rfl (.inl rfl) XM (by rfl) (by first | exact .inl rfl | exact .inr rfl | assumption)) (@Yd _ _ _ _ _ (@Ym _ _ (9) _ _ _ _ YL.nd rfl (.inl rfl) XM (by rfl) (by first | exact .inl rfl | exact .inr rfl | assumption)) (@Yd _ _ _ _ _ (@YaI _ _ _ _ (9) (10) _ _ _ _ _ _ _ _ _ _ _ _ _ _ _ _ _ _ _ _ F_read_term hr YL.nd rfl (.inl rfl) rfl rfl (@Ya _ _ _ _ _ (pv 7) Yc (by rfl)) x_CountError (fun _=>(@Ye _ _ _ (@Ym _ _ (8) _ _ _ _ YL.nd rfl (.inl rfl) (pv 10) (by rfl) (by first | exact .inl rfl | exact .inr rfl | assumption)))) (by omega) (by rfl) (by rfl) (by rfl) (by rfl) (by rfl) (by decide) (by decide) (by rfl) (by rfl) (by rfl) (by first | exact .inl rfl | exact .inr rfl)) (@Yd _ _ _ _ _ (@Yt _ _ _ _ _ _ _ _ (@Yp _ _ _ _ _ _ _ _ Qa (pv 1) Yh (Yr _)) (@Ye _ _ _ (@Yj _ _ _ _ (@VU _ _ _ _ _ _ _ (@Xm _ _ _ _ _ _ _ _ QP (pv 8) XM (Yr _)) (@Wl _ _ _ _ _ (@Xm _ _ _ _ _ _ _ _ YQ (@YR _ _ _ _ _ _ _ _ _ _ _ _ Z17 hr (@Ya _ _ _ _ _ (pv 9) Yc (by rfl)) (by omega) (by rfl) (by rfl) (by decide) (by rfl) (by rfl)) (pv 3) (Yr _)))))) Yk) (@Yd _ _ _ _ _ (@Yt _ _ _ _ _ _ _ _ (@U5 _ _ _ _ _ _ _ (@Xh _ _ _ _ (@Y1 _ _ _ (@Xe _ _ _ _ _ _ _ _ _ _ Zs (WR (YW (K:=g.K) t_NoNote) (YW (K:=g.K) t_Crowded)) (@Ya _ _ _ _ _ (pv 8) (@Ya _ _ _ _ _ (@Ya6 _ _ _ _ ("ValueError") ZR (by decide +kernel) (by rfl) (by rfl) (by decide) (by decide)) Yc (by rfl)) (by rfl)) (by decide +kernel) (by rfl) (by rfl) (by decide) (by decide) (by rfl) (by rfl)) (by intro _;rfl))) (@VT _ _ _ _ (@Yp _ _ _ _ _ _ _ _ WB (@Xe _ _ _ _ _ _ _ _ _ _ Zs (WR (YW (K:=g.K) t_NoNote) (YW (K:=g.K) t_Crowded)) (@Ya _ _ _ _ _ (pv 8) (@Ya _ _ _ _ _ (@Yab _ _ _ _ _ x_Crowded (by rfl) (by rfl) (by decide)) Yc (by rfl)) (by rfl)) (by decide +kernel) (by rfl) (by rfl) (by decide) (by decide) (by rfl) (by rfl)) (@Xm _ _ _ _ _ _ _ _ YQ (pv 1) Yh (Yr _)) (Yr _)))).pt (@Ye _ _ _ (@Yj _ _ _ _ WW)) Yk) (@Ye _ _ _ (@Yj _ _ _ _ (@Xm _ _ _ _ _ _ _ _ YQ (@Xe _ _ _ _ _ _ _ _ _ _ Zs (WR (YW (K:=g.K) t_NoNote) (YW (K:=g.K) t_Crowded)) (@Ya _ _ _ _ _ (pv 8) (@Ya _ _ _ _ _ (@Yab _ _ _ _ _ x_NoNote (by rfl) (by rfl) (by decide)) Yc (by rfl)) (by rfl)) (by decide +kernel) (by rfl) (by rfl) (by decide) (by decide) (by rfl) (by rfl)) (@Xm _ _ _ _ _ _ _ _ Qa (pv 1) Yh (Yr _)) (Yr _)))))))))))))))))))),?_⟩
 refine V8 (fun σ H'=>H'=H∧∃ (way c:Nat),σ=[some (.ref a),some (.int way),some (.int c),none,none,none,none,none,none,none,none]∧way<7) ?_ ?_
 rotate_left
 ·intro N hN
  have e62:(10:Int)^Int.toNat 62=((10^62:Nat):Int):=by decide +kernel
  have p62:(0:Int)<((10^62:Nat):Int):=by decide +kernel
  obtain ⟨w,e1,e2⟩:=XJ (ns.getD 0 0) (j:=7) (by decide)
  obtain ⟨c,e3,e4⟩:=XJ (ns.getD 1 0) (j:=((10^62:Nat):Int)) p62
  walk_at "rd"
  rw [e62]
  refine ⟨a,ns,0,rfl,hS,hl,_,rfl,by decide,a,ns,1,rfl,hS,hl,cpow,_,rfl,p62,?_⟩
  rw [e1,e3]
  exact hN _ _ ⟨rfl,w,c,rfl,by omega⟩
 rintro σ H1 ⟨e1,way,c,rfl,hw⟩
 subst e1
 refine V8 (fun σ H'=>Same H1 H'∧∃ t:List Nat,σ=[some (.ref a),some (.int way),some (.int c),some (.str (S t)),none,none,none,none,none,none,none]∧t.length≤150∧(way<2→QA t)∧(2≤way→Wy t)) ?_ ?_
 rotate_left
 ·intro N hN
  walk_at "rd"
  refine ⟨c,rfl,fun t H2 hg s2=>Yw (fun z=>⟨c,rfl,fun t3 H3 hb s3=>hN _ _ ⟨s2.trans s3,t3,rfl,hb.len,fun y=>by omega,fun _=>hb⟩⟩) fun z=>hN _ _ ⟨s2,t,rfl,?_,fun _=>hg,fun y=>by omega⟩⟩
  obtain ⟨_,_,_,_,h⟩:=hg
  exact h
 rintro σ H2 ⟨s2,t,rfl,htl,hgd,hbd⟩
 refine cut3 (fun σ H'=>Same H1 H'∧∃ (p:Nat) (o5:Option V),σ=[some (.ref a),some (.int way),some (.int c),some (.str (S (pT p t))),some (.int p),o5,none,none,none,none,none]∧p<5) ?_ ?_
 rotate_left
 ·intro N hN
  obtain ⟨p,e1,e2⟩:=XJ (ns.getD 2 0) (j:=5) (by decide)
  obtain ⟨a1,a2,a3,a4⟩:=ah_at (p:=p) (by omega)
  walk_at "rd"
  refine ⟨a,ns,2,rfl,s2.seq hS,hl,_,rfl,by decide,few (by decide),fun p1 hp1=>⟨_,SqL.of Yf,?_⟩⟩
  rw [e1]
  refine ⟨_,Y6 a1,_,rfl,few (by rw [Yx,Yx];omega),few (by decide),fun p2 hp2=>⟨_,SqL.of Yf,_,Y6 a2,_,rfl,few (by rw [Ys,Yx,Yx,List.length_append];omega),?_⟩⟩
  rw [Ys,Ys]
  exact hN _ _ ⟨s2.trans ((Same.upd_new hp1 _).trans (.upd_new hp2 _)),p,_,rfl,by omega⟩
 rintro σ H3 ⟨s3,p,o5,rfl,hp5⟩
 refine XT (fun σ H'=>Same H1 H'∧∃ (is:List Nat) (o6:Option V),σ=[some (.ref a),some (.int way),some (.int c),some (.str (S (wT is (pT p t)))),some (.int p),o5,o6,none,none,none,none]∧is.length≤3∧∀ i∈is,i<4) ?_ ?_
 rotate_left
 ·intro N hN
  obtain ⟨n,e1,e2⟩:=XJ (ns.getD 3 0) (j:=4) (by decide)
  refine UF (n:=n) (fun i σ H'=>Same H1 H'∧∃ (is:List Nat) (o6:Option V),σ=[some (.ref a),some (.int way),some (.int c),some (.str (S (wT is (pT p t)))),some (.int p),o5,o6,none,none,none,none]∧is.length=i∧∀ i∈is,i<4) (fun R r=>by walk_at "rd";exact ⟨a,ns,3,rfl,s3.seq hS,hl,_,rfl,by decide,by rw [e1];exact r⟩) (by omega) ⟨s3,[],none,rfl,rfl,fun i h=>(by cases h)⟩ ?_ ?_
  ·rintro i σ' H' hi ⟨s4,is,o6,rfl,hil,h4⟩
   obtain ⟨m,e3,e4⟩:=XJ (ns.getD (4+i) 0) (j:=4) (by decide)
   have hwl:=Wx is (pT p t)
   have hpl:=Vf p t
   have hml:=Y7 (wmk m)
   walk_at "rd"
   refine ⟨few (by decide),fun p1 hp1=>⟨a,ns,4+i,?_,(s4.trans (.upd_new hp1 _)).seq hS,hl,_,rfl,by decide,_,SqL.of Yf,?_⟩⟩
   ·rw [show (4+(i:Int))=((4+i:Nat):Int) by omega]
   rw [e3,Wu,Z1g]
   refine ⟨_,Y6 (mk_at (i:=m) (by omega)),_,rfl,few (by rw [Yx,Yx];simp only [List.length_cons,List.length_nil];omega),few (by rw [Ys,Yx,Yx];simp only [List.length_append,List.length_cons,List.length_nil];omega),few (by rw [Ys,Ys,Yx,Yx];simp only [List.length_append,List.length_cons,List.length_nil];omega),?_⟩
   rw [Ys,Ys,Ys]
   refine ⟨s4.trans (.upd_new hp1 _),m::is,?_,by simp [hil],fun j hj=>?_⟩
   ·simp [wT]
   ·rcases List.mem_cons.mp hj with rfl | hj
    ·omega
    ·exact h4 j hj
  ·rintro σ' H' ⟨s4,is,o6,rfl,hil,h4⟩
   exact hN _ _ ⟨s4,is,o6,rfl,by omega,h4⟩
 rintro σ H4 ⟨s4,is,o6,rfl,hil,h4⟩
 have hwl:=Wx is (pT p t)
 have hpl:=Vf p t
 refine XT (fun σ H'=>H'=H4∧∃ t:List Nat,σ=[some (.ref a),some (.int way),some (.int c),some (.str (S t)),some (.int p),o5,o6,none,none,none,none]∧Fin51 way t) ?_ ?_
 rotate_left
 ·intro N hN
  walk_at "rd"
  refine Yw (fun z=>?_) fun z=>hN _ _ ⟨rfl,_,rfl,fun y=>?_,fun y1 y2=>(hbd y1).all hp5 hil h4,fun y=>by omega⟩
  ·refine ⟨by decide,by decide,by decide,fun r hr=>?_⟩
   have er:r=S (List.replicate 7 (mc .not++[40])).flatten:=by
    rw [QB r,hr]
    decide +kernel
   subst er
   have l1:(List.replicate 7 (mc .not++[40])).flatten.length=28:=by decide +kernel
   refine ⟨few (by rw [Yx,Yx];omega),by decide,by decide,by decide,fun r2 hr2=>?_⟩
   have er2:r2=S (List.replicate 7 41):=by
    rw [QB r2,hr2]
    decide +kernel
   subst er2
   have l2:(List.replicate 7 41:List Nat).length=7:=by decide
   refine ⟨few (by rw [Ys,Yx,Yx,List.length_append];omega),?_⟩
   rw [Ys,Ys]
   refine hN _ _ ⟨rfl,_,rfl,fun y=>by omega,fun _ _=>by omega,fun _=>⟨by rw [List.length_append,List.length_append];omega,fun z=>?_⟩⟩
   rw [List.append_assoc] at z
   exact seven z
  ·obtain ⟨g,rfl,g1,g2,g3⟩:=hgd y
   exact Yaw g1 g2 g3 hil
 clear hgd hbd
 rintro σ H5 ⟨e5,t5,rfl,hF⟩
 subst e5
 refine V8 (fun σ H'=>Same H5 H'∧∃ th:V,σ=[some (.ref a),some (.int way),some (.int c),some (.str (S t5)),some (.int p),o5,o6,some th,none,none,none]∧(th = .str (S t5)∨(way=5∧Vc g.K H' th))) ?_ ?_
 rotate_left
 ·intro N hN
  walk_at "rd"
  refine Yw (fun z1=>⟨by decide,Yw (fun z2=>?_) fun z2=>hN _ _ ⟨.refl _,_,rfl,.inl rfl⟩⟩) fun z1=>hN _ _ ⟨.refl _,_,rfl,.inl rfl⟩
  refine ⟨few (by decide),fun p1 g1=>⟨few (by decide),fun p2 g2=>⟨few (by decide),fun p3 g3=>?_⟩⟩⟩
  have u1:=Same.upd_new g1 (.tup [])
  have u2:=Same.upd_new g2 (.tup [V.str (Str.ofString "here"),V.ref p1])
  have u3:=Same.upd_new g3 (.lst [V.non,V.int 5,V.ref p2])
  obtain ⟨z,e1,e2⟩:=XJ ((c:Int) / 3) (j:=3) (by decide)
  refine ⟨Wr (by decide) (by decide),by decide,_,SqL.of Yf,?_⟩
  rw [e1]
  have fin:∀ x:V,Vc g.K _ x→_:=fun x hx=>hN _ _ ⟨(u1.trans u2).trans u3,x,rfl,.inr ⟨by omega,hx⟩⟩
  match z,e2 with
  | 0,_=>exact ⟨_,Y6 (j:=0) rfl,fin _ ⟨_,.non,rfl⟩⟩
  | 1,_=>exact ⟨_,Y6 (j:=1) rfl,fin _ ⟨_,.int 5,rfl⟩⟩
  | 2,_=>exact ⟨_,Y6 (j:=2) rfl,fin _ ⟨_,.tup (u3 _ _ Yf),rfl⟩⟩
 rintro σ H6 ⟨s6,th,rfl,hth⟩
 refine cut3 (fun σ H'=>∃ (er fo:V),σ=[some (.ref a),some (.int way),some (.int c),some (.str (S t5)),some (.int p),o5,o6,some th,some er,some fo,none]∧Same H6 H'∧Out51 Z2 Z3 H' way t5 er fo) ?_ ?_
 rotate_left
 ·intro N hN
  have raise:∀ (C:Addr) (H2:Hp) (b:Addr),Same H6 H2→H2 b=none→(C=Z2∧2≤way∧way<6∨C=Z3∧way=6)→N [some (.ref a),some (.int way),some (.int c),some (.str (S t5)),some (.int p),o5,o6,some th,some (.ref b),some .non,none] (upd H2 b (X3 b (.ref C))):=fun C H2 b s hb h=>hN _ _ ⟨_,_,rfl,s.trans (Same.upd_new hb _),.bad b C h Yf⟩
  walk_at "rd"
  rcases hth with rfl | ⟨h5,hns⟩
  ·by_cases c6:way=6
   ·obtain ⟨k1,k2⟩:=hF.crd c6
    exact ⟨_,rfl,.inr ⟨t5,rfl,k1,fun _=>⟨m_Crowded_CountError,fun b hb=>raise _ _ b (.refl _) hb (.inr ⟨rfl,c6⟩)⟩,fun _ y=>(k2 y).elim,fun _ _ _ _ y=>(k2 y).elim⟩⟩
   by_cases c2:way<2
   ·obtain ⟨k1,g,rfl,k2,k3⟩:=hF.good c2
    obtain ⟨k4,k5⟩:=Yat k2 k3
    exact ⟨_,rfl,.inr ⟨tt g,rfl,by omega,fun z=>(z ⟨k1,k5⟩).elim,(fun _ _ z=>by rw [k4] at z;cases z),fun z v H2 _ _ e sa s2=>hN _ _ ⟨_,_,rfl,s2,.good c2 e sa⟩⟩⟩
   ·obtain ⟨k1,k2,k3⟩:=hF.bad (by omega) (by omega)
    exact ⟨_,rfl,.inr ⟨t5,rfl,by omega,fun z=>(z ⟨k1,k2⟩).elim,fun _ _ _ H2 s2=>⟨m_NoNote_CountError,fun b hb=>raise _ _ b s2 hb (.inl ⟨rfl,by omega,by omega⟩)⟩,fun z v H2 _ _ e=>by rw [k3] at e;cases e⟩⟩
  ·exact ⟨_,rfl,.inl ⟨hns,m_NoNote_CountError,fun b hb=>raise _ _ b (.refl _) hb (.inl ⟨rfl,by omega,by omega⟩)⟩⟩
 rintro σ H7 ⟨er,fo,rfl,s7,hO⟩
 cases hO with
 | good h0 e sa =>
  obtain ⟨k1,g',rfl,k2,k3⟩:=hF.good h0
  obtain ⟨k4,k5⟩:=Yat k2 k3
  rename_i zz
  have hz:zz=g':=by rw [k4] at e;exact (Option.some.inj e).symm
  subst hz
  obtain ⟨kk,hkk⟩:=sa.tm (n:=8) k2 (by omega)
  refine XT (fun σ H'=>False) (fun _ _ h=>h.elim) ?_
  intro N hN
  walk_at "rd"
  refine Ws (by omega) ?_
  refine ⟨fo,kk,S (tt zz),rfl,hkk,by rw [Yx];omega,fun H' s'=>⟨UR _ _,?_⟩⟩
  rw [decide_eq_true rfl]
  exact q _
 | bad b C h hb =>
  have facts:∃ x1 x2:Bool,W.kitOne g.K (.ref C) (.ref Z2)=some x1∧W.kitOne g.K (.ref C) (.ref Z3)=some x2∧W.kitOne g.K (.ref C) (.type "ValueError")=some true∧x1=decide ((way:Int)<6)∧x2=decide ((way:Int)=6)∧2≤way:=by
   rcases h with ⟨rfl,e1,e2⟩ | ⟨rfl,e⟩
   ·exact ⟨_,_,i_NoNote_NoNote,i_NoNote_Crowded,i_NoNote_ValueError,(decide_eq_true (by omega)).symm,(decide_eq_false (by omega)).symm,e1⟩
   ·exact ⟨_,_,i_Crowded_NoNote,i_Crowded_Crowded,i_Crowded_ValueError,(decide_eq_false (by omega)).symm,(decide_eq_true (by omega)).symm,by omega⟩
  obtain ⟨x1,x2,k1,k2,k5,f1,f2,hw2⟩:=facts
  have hC:C=Z2∨C=Z3:=h.elim (fun z => .inl z.1) fun z => .inr z.1
  walk_at "rd"
  refine XC (by omega) ?_
  have y2:V.bl x2=V.bl (decide ((way:Int)=6)):=by rw [f2]
  rcases hC with rfl | rfl
  ·exact .inl ⟨_,rfl,hb,_,k5,XC (by decide) (.inl ⟨_,rfl,hb,_,k2,rfl,XC (fun z=>z f2) (.inl ⟨_,rfl,hb,_,k1,rfl,by rw [decide_eq_true f1];exact q _⟩)⟩)⟩
  ·exact .inr ⟨_,rfl,hb,_,k5,XC (by decide) (.inr ⟨_,rfl,hb,_,k2,rfl,XC (fun z=>z f2) (.inr ⟨_,rfl,hb,_,k1,rfl,by rw [decide_eq_true f1];exact q _⟩)⟩)⟩
theorem us1 {α:Type} {us:List α} (h:us.length=1):∃ a0,us=[a0]:=by
 match us,h with
 | [a0],_=>exact ⟨_,rfl⟩
theorem us2 {α:Type} {us:List α} (h:us.length=2):∃ a0 a1,us=[a0,a1]:=by
 match us,h with
 | [a0,a1],_=>exact ⟨_,_,rfl⟩
theorem us3 {α:Type} {us:List α} (h:us.length=3):∃ a0 a1 a2,us=[a0,a1,a2]:=by
 match us,h with
 | [a0,a1,a2],_=>exact ⟨_,_,_,rfl⟩
structure Top (K:PySem.W.Frag) (mg:Str→Option Value) (Z1:Addr) (Z2:Addr) (Z3:Addr) (Z0:Addr):Prop where
 Z18:∀ P w base,(Gx.mk P w K mg base).Raw "is_figure" "is_figure" Z1T ["sign"]
 ZW:∀ P w base,(Gx.mk P w K mg base).Raw "is_small_letter" "is_small_letter" Z0M ["sign"]
 ZJ:∀ P w base,(Gx.mk P w K mg base).Raw "is_letter_or_figure" "is_letter_or_figure" Z0d ["sign"]
 Z0x:∀ P w base,(Gx.mk P w K mg base).Raw "is_word_sign" "is_word_sign" Z1c ["sign"]
 Z1o:∀ P w base,(Gx.mk P w K mg base).Raw "is_label" "is_label" Z29 ["text"]
 ZK:∀ P w base,(Gx.mk P w K mg base).RawI "NoteReader" Z0 "NoteReader.__init__" Z0e ["self","text"]
 ZH:∀ P w base,(Gx.mk P w K mg base).RawM Z0 "sign_here" "NoteReader.sign_here" ZX ["self"]
 ZS:∀ P w base,(Gx.mk P w K mg base).RawM Z0 "takes" "NoteReader.takes" Z0F ["self","sign"]
 ZG:∀ P w base,(Gx.mk P w K mg base).RawM Z0 "word_signs" "NoteReader.word_signs" ZT ["self"]
 ZO:∀ P w base,(Gx.mk P w K mg base).RawM Z0 "at_end" "NoteReader.at_end" Z0r ["self"]
 Z8:∀ P w base,(Gx.mk P w K mg base).RawM Z0 "labelled_note" "NoteReader.labelled_note" ZC ["self"]
 Z9:∀ P w base,(Gx.mk P w K mg base).RawM Z0 "bracketed_notes" "NoteReader.bracketed_notes" ZA ["self"]
 Z03:∀ P w base,(Gx.mk P w K mg base).Raw "refuse_crowded" "refuse_crowded" ZZ ["text"]
 Z19:∀ P w base,(Gx.mk P w K mg base).Raw "read_note" "read_note" Z12 ["text"]
 Z0J:∀ P w base,(Gx.mk P w K mg base).Raw "inner_terms" "inner_terms" Z0H ["term"]
 Zn:∀ P w base,(Gx.mk P w K mg base).Raw "show_term" "show_term" Z15 ["term"]
 Z04:∀ P w base,(Gx.mk P w K mg base).Raw "is_number_word" "is_number_word" Z00 ["word"]
 Z1a:∀ P w base,(Gx.mk P w K mg base).Raw "lone_word" "lone_word" Z13 ["note"]
 Z05:∀ P w base,(Gx.mk P w K mg base).Raw "number_drafted" "number_drafted" Z01 ["note"]
 ZP:∀ P w base,(Gx.mk P w K mg base).Raw "refuse_other_many" "refuse_other_many" ZN ["notes","many"]
 Z0j:∀ P w base,(Gx.mk P w K mg base).Raw "place_of_note" "place_of_note" Z0f ["note"]
 Z0y:∀ P w base,(Gx.mk P w K mg base).Raw "term_of_word" "term_of_word" Z0u ["word"]
 Zh:∀ P w base,(Gx.mk P w K mg base).Raw "part_of_notes" "part_of_notes" Z0g ["notes"]
 Zk:∀ P w base,(Gx.mk P w K mg base).Raw "one_of_notes" "one_of_notes" Z0t ["mark","notes"]
 Zd:∀ P w base,(Gx.mk P w K mg base).Raw "several_of_notes" "several_of_notes" ZQ ["mark","notes","many"]
 Ze:∀ P w base,(Gx.mk P w K mg base).Raw "term_of_note" "term_of_note" Z0v ["note"]
 Z1b:∀ P w base,(Gx.mk P w K mg base).Raw "read_term" "read_term" Z14 ["text"]
 Z0K:∀ P w base,(Gx.mk P w K mg base).Raw "_law_cell_at" "_law_cell_at" Z0I ["_law_script","_law_k"]
 Z1p:∀ P w base,(Gx.mk P w K mg base).Raw "_law_good" "_law_good" Z1m ["_law_cell"]
 Z1F:∀ P w base,(Gx.mk P w K mg base).Raw "_law_bad" "_law_bad" Z1B ["_law_cell"]
 Z5:Cls K Z0
 Z7:YF K Z0 "text"
 Z6:YF K Z0 "place"
 Z1H:∀ P w base,(Gx.mk P w K mg base).Con "LAST_PLACE" (.int 20)
 Z10:∀ P w base,(Gx.mk P w K mg base).Con "LONGEST_LABEL" (.int 8)
 Zw:∀ P w base,(Gx.mk P w K mg base).Con "LONGEST_WORD" (.int 62)
 Z11:∀ P w base,(Gx.mk P w K mg base).Con "MOST_BRACKETS" (.int 6)
 Z1k:∀ P w base,(Gx.mk P w K mg base).Con "MOST_FIGURES" (.int 60)
 Z1G:∀ P w base,(Gx.mk P w K mg base).Con "MOST_SIGNS" (.int 2000)
 Zo:∀ P w base,(Gx.mk P w K mg base).ConT "OF_ONE_TERM" ([.str "count",.str "sum",.str "not",.str "turned"])
 Zl:∀ P w base,(Gx.mk P w K mg base).ConT "OF_TWO_TERMS" ([.str "plus",.str "times",.str "less",.str "same",.str "both",.str "each",.str "joined"])
 ZR:mg "ValueError"=none
 b_all:mg "all"=none
 b_int:mg "int"=none
 Zs:mg "isinstance"=none
 b_len:mg "len"=none
 b_list:mg "list"=none
 Z1h:mg "range"=none
 b_str:mg "str"=none
 Zj:mg "tuple"=none
 x_CountError:mg "CountError"=some (.ref Z1)
 x_NoNote:mg "NoNote"=some (.ref Z2)
 x_Crowded:mg "Crowded"=some (.ref Z3)
 r_Crowded:PySem.W.excIn K Z3 Y2 "ValueError.__new__"=true
 r_NoNote:PySem.W.excIn K Z2 Y2 "ValueError.__new__"=true
 t_Crowded:ExcT K Z3
 t_NoNote:ExcT K Z2
 i_Crowded_Crowded:PySem.W.kitOne K (.ref Z3) (.ref Z3)=some true
 i_Crowded_NoNote:PySem.W.kitOne K (.ref Z3) (.ref Z2)=some false
 i_Crowded_ValueError:PySem.W.kitOne K (.ref Z3) (.type "ValueError")=some true
 i_NoNote_Crowded:PySem.W.kitOne K (.ref Z2) (.ref Z3)=some false
 i_NoNote_NoNote:PySem.W.kitOne K (.ref Z2) (.ref Z2)=some true
 i_NoNote_ValueError:PySem.W.kitOne K (.ref Z2) (.type "ValueError")=some true
 m_NoNote_CountError:PySem.W.exmOne K (.ref Z2) (.ref Z1)=some true
 m_Crowded_CountError:PySem.W.exmOne K (.ref Z3) (.ref Z1)=some true
theorem YaT {K:PySem.W.Frag} {mg:Str→Option Value} {Z1 Z2 Z3 Z0:Addr}  (t:Top K mg Z1 Z2 Z3 Z0) (P:Program) (w:World) (base:Heap) :
  Vm (Gx.mk P w K mg base) 21 ["_law_script","_law_way","_law_cell","_law_text","_law_place","_law_ahead","_law_k","_law_thing","_law_error","_law_term","e"] "law" VS (W5 K):=by
 have T_:Rd.Txt (Gx.mk P w K mg base) Z0:=⟨t.Z5,t.Z7,t.Z6⟩
 have Z1U:=Rd.ok_fig (g:=Gx.mk P w K mg base) (t.Z18 P w base)
 have Z0R:=Rd.ok_small (g:=Gx.mk P w K mg base) (t.ZW P w base)
 have Z1i:=Rd.ok_lf (t.ZJ P w base) Z0R Z1U
 have Z2k:=Rd.ok_ws (t.Z0x P w base) Z1i
 have ZL:=Rd.ok_label (t.Z1o P w base) Z0R (t.Z10 P w base) t.b_len t.b_all
 have Z1j:=Rd.ok_init T_ (t.ZK P w base)
 have ZY:=Rd.ok_here T_ (t.ZH P w base)
 have Za:=Rd.ok_takes T_ (t.ZS P w base) ZY
 have Zf:=Rd.ok_word T_ (t.ZG P w base) ZY Z2k
 have Z1A:=Rd.ok_end T_ (t.ZO P w base) t.b_len
 have Z0k:=Zb (g:=Gx.mk P w K mg base) (m:=0) (k:=4) (Z1:=Z1) (Z2:=Z2) (Z3:=Z3) (Z0:=Z0) (t.Z9 P w base) (Za.mono (by decide)) ((t.Z8 P w base).noneX (fun _ _ _ _ h=>Rd.no_ln h)) t.Zj t.Z5 t.Z7 t.Z6 t.x_NoNote t.r_NoNote
 have Z0z:=Zc (g:=Gx.mk P w K mg base) (m:=0) (k:=5) (Z1:=Z1) (Z2:=Z2) (Z3:=Z3) (Z0:=Z0) (t.Z8 P w base) (ZL.mono (by decide)) (Za.mono (by decide)) (Zf.mono (by decide)) (Z0k.mono (by decide)) t.b_len (t.Zw P w base) t.Z5 t.Z7 t.Z6 t.x_NoNote t.r_NoNote
 have Z0l:=Zb (g:=Gx.mk P w K mg base) (m:=1) (k:=6) (Z1:=Z1) (Z2:=Z2) (Z3:=Z3) (Z0:=Z0) (t.Z9 P w base) (Za.mono (by decide)) (Z0z.mono (by decide)) t.Zj t.Z5 t.Z7 t.Z6 t.x_NoNote t.r_NoNote
 have Z0A:=Zc (g:=Gx.mk P w K mg base) (m:=1) (k:=7) (Z1:=Z1) (Z2:=Z2) (Z3:=Z3) (Z0:=Z0) (t.Z8 P w base) (ZL.mono (by decide)) (Za.mono (by decide)) (Zf.mono (by decide)) (Z0l.mono (by decide)) t.b_len (t.Zw P w base) t.Z5 t.Z7 t.Z6 t.x_NoNote t.r_NoNote
 have Z0m:=Zb (g:=Gx.mk P w K mg base) (m:=2) (k:=8) (Z1:=Z1) (Z2:=Z2) (Z3:=Z3) (Z0:=Z0) (t.Z9 P w base) (Za.mono (by decide)) (Z0A.mono (by decide)) t.Zj t.Z5 t.Z7 t.Z6 t.x_NoNote t.r_NoNote
 have Z0B:=Zc (g:=Gx.mk P w K mg base) (m:=2) (k:=9) (Z1:=Z1) (Z2:=Z2) (Z3:=Z3) (Z0:=Z0) (t.Z8 P w base) (ZL.mono (by decide)) (Za.mono (by decide)) (Zf.mono (by decide)) (Z0m.mono (by decide)) t.b_len (t.Zw P w base) t.Z5 t.Z7 t.Z6 t.x_NoNote t.r_NoNote
 have Z0n:=Zb (g:=Gx.mk P w K mg base) (m:=3) (k:=10) (Z1:=Z1) (Z2:=Z2) (Z3:=Z3) (Z0:=Z0) (t.Z9 P w base) (Za.mono (by decide)) (Z0B.mono (by decide)) t.Zj t.Z5 t.Z7 t.Z6 t.x_NoNote t.r_NoNote
 have Z0C:=Zc (g:=Gx.mk P w K mg base) (m:=3) (k:=11) (Z1:=Z1) (Z2:=Z2) (Z3:=Z3) (Z0:=Z0) (t.Z8 P w base) (ZL.mono (by decide)) (Za.mono (by decide)) (Zf.mono (by decide)) (Z0n.mono (by decide)) t.b_len (t.Zw P w base) t.Z5 t.Z7 t.Z6 t.x_NoNote t.r_NoNote
 have Z0o:=Zb (g:=Gx.mk P w K mg base) (m:=4) (k:=12) (Z1:=Z1) (Z2:=Z2) (Z3:=Z3) (Z0:=Z0) (t.Z9 P w base) (Za.mono (by decide)) (Z0C.mono (by decide)) t.Zj t.Z5 t.Z7 t.Z6 t.x_NoNote t.r_NoNote
 have Z0D:=Zc (g:=Gx.mk P w K mg base) (m:=4) (k:=13) (Z1:=Z1) (Z2:=Z2) (Z3:=Z3) (Z0:=Z0) (t.Z8 P w base) (ZL.mono (by decide)) (Za.mono (by decide)) (Zf.mono (by decide)) (Z0o.mono (by decide)) t.b_len (t.Zw P w base) t.Z5 t.Z7 t.Z6 t.x_NoNote t.r_NoNote
 have Z0p:=Zb (g:=Gx.mk P w K mg base) (m:=5) (k:=14) (Z1:=Z1) (Z2:=Z2) (Z3:=Z3) (Z0:=Z0) (t.Z9 P w base) (Za.mono (by decide)) (Z0D.mono (by decide)) t.Zj t.Z5 t.Z7 t.Z6 t.x_NoNote t.r_NoNote
 have Z0E:=Zc (g:=Gx.mk P w K mg base) (m:=5) (k:=15) (Z1:=Z1) (Z2:=Z2) (Z3:=Z3) (Z0:=Z0) (t.Z8 P w base) (ZL.mono (by decide)) (Za.mono (by decide)) (Zf.mono (by decide)) (Z0p.mono (by decide)) t.b_len (t.Zw P w base) t.Z5 t.Z7 t.Z6 t.x_NoNote t.r_NoNote
 have Z0q:=Zb (g:=Gx.mk P w K mg base) (m:=6) (k:=16) (Z1:=Z1) (Z2:=Z2) (Z3:=Z3) (Z0:=Z0) (t.Z9 P w base) (Za.mono (by decide)) (Z0E.mono (by decide)) t.Zj t.Z5 t.Z7 t.Z6 t.x_NoNote t.r_NoNote
 have Z0L:=Zc (g:=Gx.mk P w K mg base) (m:=6) (k:=17) (Z1:=Z1) (Z2:=Z2) (Z3:=Z3) (Z0:=Z0) (t.Z8 P w base) (ZL.mono (by decide)) (Za.mono (by decide)) (Zf.mono (by decide)) (Z0q.mono (by decide)) t.b_len (t.Zw P w base) t.Z5 t.Z7 t.Z6 t.x_NoNote t.r_NoNote
 have Z1Z:=Z1I (g:=Gx.mk P w K mg base) (Z1:=Z1) (Z2:=Z2) (Z3:=Z3) (Z0:=Z0) (t.Z03 P w base) t.b_len (t.Z11 P w base) (t.Z1G P w base) t.x_Crowded t.r_Crowded
 have G_read_note:=Ul (g:=Gx.mk P w K mg base) (k:=18) (Z1:=Z1) (Z2:=Z2) (Z3:=Z3) (Z0:=Z0) (t.Z19 P w base) (Z1Z.mono (by decide)) Z1j (by decide) (Z0L.mono (by decide)) (Z1A.mono (by decide)) t.Zs t.b_str t.Z5 t.Z7 t.Z6 t.x_NoNote t.r_NoNote
 have Zu:=Z2g (g:=Gx.mk P w K mg base) (Z1:=Z1) (Z2:=Z2) (Z3:=Z3) (Z0:=Z0) (t.Z0J P w base) t.b_list (t.Zo P w base) (t.Zl P w base)
 have G_show_term_1:=Zy (g:=Gx.mk P w K mg base) (m:=0) (k:=1) (Z1:=Z1) (Z2:=Z2) (Z3:=Z3) (Z0:=Z0) (t.Zn P w base) (Zu.mono (by decide)) ((t.Zn P w base).none (fun _ _ _ _ h=>Yb4 h)) t.b_str
 have G_show_term_2:=Zy (g:=Gx.mk P w K mg base) (m:=1) (k:=2) (Z1:=Z1) (Z2:=Z2) (Z3:=Z3) (Z0:=Z0) (t.Zn P w base) (Zu.mono (by decide)) (G_show_term_1.mono (by decide)) t.b_str
 have G_show_term_3:=Zy (g:=Gx.mk P w K mg base) (m:=2) (k:=3) (Z1:=Z1) (Z2:=Z2) (Z3:=Z3) (Z0:=Z0) (t.Zn P w base) (Zu.mono (by decide)) (G_show_term_2.mono (by decide)) t.b_str
 have G_show_term_4:=Zy (g:=Gx.mk P w K mg base) (m:=3) (k:=4) (Z1:=Z1) (Z2:=Z2) (Z3:=Z3) (Z0:=Z0) (t.Zn P w base) (Zu.mono (by decide)) (G_show_term_3.mono (by decide)) t.b_str
 have G_show_term_5:=Zy (g:=Gx.mk P w K mg base) (m:=4) (k:=5) (Z1:=Z1) (Z2:=Z2) (Z3:=Z3) (Z0:=Z0) (t.Zn P w base) (Zu.mono (by decide)) (G_show_term_4.mono (by decide)) t.b_str
 have G_show_term_6:=Zy (g:=Gx.mk P w K mg base) (m:=5) (k:=6) (Z1:=Z1) (Z2:=Z2) (Z3:=Z3) (Z0:=Z0) (t.Zn P w base) (Zu.mono (by decide)) (G_show_term_5.mono (by decide)) t.b_str
 have G_show_term_7:=Zy (g:=Gx.mk P w K mg base) (m:=6) (k:=7) (Z1:=Z1) (Z2:=Z2) (Z3:=Z3) (Z0:=Z0) (t.Zn P w base) (Zu.mono (by decide)) (G_show_term_6.mono (by decide)) t.b_str
 have G_show_term_8:=Zy (g:=Gx.mk P w K mg base) (m:=7) (k:=8) (Z1:=Z1) (Z2:=Z2) (Z3:=Z3) (Z0:=Z0) (t.Zn P w base) (Zu.mono (by decide)) (G_show_term_7.mono (by decide)) t.b_str
 have G_show_term:=Zy (g:=Gx.mk P w K mg base) (m:=8) (k:=9) (Z1:=Z1) (Z2:=Z2) (Z3:=Z3) (Z0:=Z0) (t.Zn P w base) (Zu.mono (by decide)) (G_show_term_8.mono (by decide)) t.b_str
 have Z0X:=Z1J (g:=Gx.mk P w K mg base) (k:=1) (Z1:=Z1) (Z2:=Z2) (Z3:=Z3) (Z0:=Z0) (t.Z04 P w base) (Z1U.mono (by decide)) t.b_all t.b_len (t.Z1k P w base)
 have G_lone_word:=Us (g:=Gx.mk P w K mg base) (Z1:=Z1) (Z2:=Z2) (Z3:=Z3) (Z0:=Z0) (t.Z1a P w base) t.x_NoNote t.r_NoNote
 have Z20:=Z1K (g:=Gx.mk P w K mg base) (k:=2) (Z1:=Z1) (Z2:=Z2) (Z3:=Z3) (Z0:=Z0) (t.Z05 P w base) (Z0X.mono (by decide)) (G_lone_word.mono (by decide)) t.b_int t.x_NoNote t.r_NoNote
 have Z4:=Z1n (g:=Gx.mk P w K mg base) (Z1:=Z1) (Z2:=Z2) (Z3:=Z3) (Z0:=Z0) (t.ZP P w base) t.b_len t.x_NoNote t.r_NoNote
 have Zr:=Z1X (g:=Gx.mk P w K mg base) (k:=3) (Z1:=Z1) (Z2:=Z2) (Z3:=Z3) (Z0:=Z0) (t.Z0j P w base) (Z20.mono (by decide)) (t.Z1H P w base) t.x_NoNote t.r_NoNote
 have Zx:=Z2c (g:=Gx.mk P w K mg base) (k:=2) (Z1:=Z1) (Z2:=Z2) (Z3:=Z3) (Z0:=Z0) (t.Z0y P w base) (Z0X.mono (by decide)) t.b_int t.x_NoNote t.r_NoNote
 have Z1L:=Zm (g:=Gx.mk P w K mg base) (m:=0) (k:=4) (Z1:=Z1) (Z2:=Z2) (Z3:=Z3) (Z0:=Z0) (t.Zh P w base) (Z4.mono (by decide)) (Zr.mono (by decide)) ((t.Ze P w base).noneX (fun _ _ _ _ h=>Uv h))
 have Z21:=Zp (g:=Gx.mk P w K mg base) (m:=0) (k:=4) (Z1:=Z1) (Z2:=Z2) (Z3:=Z3) (Z0:=Z0) (t.Zk P w base) (Z4.mono (by decide)) ((t.Ze P w base).noneX (fun _ _ _ _ h=>Uv h))
 have Z1q:=Zg (g:=Gx.mk P w K mg base) (m:=0) (k:=4) (Z1:=Z1) (Z2:=Z2) (Z3:=Z3) (Z0:=Z0) (t.Zd P w base) (Z4.mono (by decide)) ((t.Ze P w base).noneX (fun _ _ _ _ h=>Uv h)) t.Zj
 have Z06:=Zq (g:=Gx.mk P w K mg base) (m:=0) (k:=5) (Z1:=Z1) (Z2:=Z2) (Z3:=Z3) (Z0:=Z0) (t.Ze P w base) (Z1L.mono (by decide)) (Z21.mono (by decide)) (Z1q.mono (by decide)) (Zx.mono (by decide)) (t.Zo P w base) (t.Zl P w base) t.x_NoNote t.r_NoNote
 have Z1M:=Zm (g:=Gx.mk P w K mg base) (m:=1) (k:=6) (Z1:=Z1) (Z2:=Z2) (Z3:=Z3) (Z0:=Z0) (t.Zh P w base) (Z4.mono (by decide)) (Zr.mono (by decide)) (Z06.mono (by decide))
 have Z22:=Zp (g:=Gx.mk P w K mg base) (m:=1) (k:=6) (Z1:=Z1) (Z2:=Z2) (Z3:=Z3) (Z0:=Z0) (t.Zk P w base) (Z4.mono (by decide)) (Z06.mono (by decide))
 have Z1r:=Zg (g:=Gx.mk P w K mg base) (m:=1) (k:=6) (Z1:=Z1) (Z2:=Z2) (Z3:=Z3) (Z0:=Z0) (t.Zd P w base) (Z4.mono (by decide)) (Z06.mono (by decide)) t.Zj
 have Z07:=Zq (g:=Gx.mk P w K mg base) (m:=1) (k:=7) (Z1:=Z1) (Z2:=Z2) (Z3:=Z3) (Z0:=Z0) (t.Ze P w base) (Z1M.mono (by decide)) (Z22.mono (by decide)) (Z1r.mono (by decide)) (Zx.mono (by decide)) (t.Zo P w base) (t.Zl P w base) t.x_NoNote t.r_NoNote
 have Z1N:=Zm (g:=Gx.mk P w K mg base) (m:=2) (k:=8) (Z1:=Z1) (Z2:=Z2) (Z3:=Z3) (Z0:=Z0) (t.Zh P w base) (Z4.mono (by decide)) (Zr.mono (by decide)) (Z07.mono (by decide))
 have Z23:=Zp (g:=Gx.mk P w K mg base) (m:=2) (k:=8) (Z1:=Z1) (Z2:=Z2) (Z3:=Z3) (Z0:=Z0) (t.Zk P w base) (Z4.mono (by decide)) (Z07.mono (by decide))
 have Z1s:=Zg (g:=Gx.mk P w K mg base) (m:=2) (k:=8) (Z1:=Z1) (Z2:=Z2) (Z3:=Z3) (Z0:=Z0) (t.Zd P w base) (Z4.mono (by decide)) (Z07.mono (by decide)) t.Zj
 have Z08:=Zq (g:=Gx.mk P w K mg base) (m:=2) (k:=9) (Z1:=Z1) (Z2:=Z2) (Z3:=Z3) (Z0:=Z0) (t.Ze P w base) (Z1N.mono (by decide)) (Z23.mono (by decide)) (Z1s.mono (by decide)) (Zx.mono (by decide)) (t.Zo P w base) (t.Zl P w base) t.x_NoNote t.r_NoNote
 have Z1O:=Zm (g:=Gx.mk P w K mg base) (m:=3) (k:=10) (Z1:=Z1) (Z2:=Z2) (Z3:=Z3) (Z0:=Z0) (t.Zh P w base) (Z4.mono (by decide)) (Zr.mono (by decide)) (Z08.mono (by decide))
 have Z24:=Zp (g:=Gx.mk P w K mg base) (m:=3) (k:=10) (Z1:=Z1) (Z2:=Z2) (Z3:=Z3) (Z0:=Z0) (t.Zk P w base) (Z4.mono (by decide)) (Z08.mono (by decide))
 have Z1t:=Zg (g:=Gx.mk P w K mg base) (m:=3) (k:=10) (Z1:=Z1) (Z2:=Z2) (Z3:=Z3) (Z0:=Z0) (t.Zd P w base) (Z4.mono (by decide)) (Z08.mono (by decide)) t.Zj
 have Z09:=Zq (g:=Gx.mk P w K mg base) (m:=3) (k:=11) (Z1:=Z1) (Z2:=Z2) (Z3:=Z3) (Z0:=Z0) (t.Ze P w base) (Z1O.mono (by decide)) (Z24.mono (by decide)) (Z1t.mono (by decide)) (Zx.mono (by decide)) (t.Zo P w base) (t.Zl P w base) t.x_NoNote t.r_NoNote
 have Z1P:=Zm (g:=Gx.mk P w K mg base) (m:=4) (k:=12) (Z1:=Z1) (Z2:=Z2) (Z3:=Z3) (Z0:=Z0) (t.Zh P w base) (Z4.mono (by decide)) (Zr.mono (by decide)) (Z09.mono (by decide))
 have Z25:=Zp (g:=Gx.mk P w K mg base) (m:=4) (k:=12) (Z1:=Z1) (Z2:=Z2) (Z3:=Z3) (Z0:=Z0) (t.Zk P w base) (Z4.mono (by decide)) (Z09.mono (by decide))
 have Z1u:=Zg (g:=Gx.mk P w K mg base) (m:=4) (k:=12) (Z1:=Z1) (Z2:=Z2) (Z3:=Z3) (Z0:=Z0) (t.Zd P w base) (Z4.mono (by decide)) (Z09.mono (by decide)) t.Zj
 have Z0a:=Zq (g:=Gx.mk P w K mg base) (m:=4) (k:=13) (Z1:=Z1) (Z2:=Z2) (Z3:=Z3) (Z0:=Z0) (t.Ze P w base) (Z1P.mono (by decide)) (Z25.mono (by decide)) (Z1u.mono (by decide)) (Zx.mono (by decide)) (t.Zo P w base) (t.Zl P w base) t.x_NoNote t.r_NoNote
 have Z1Q:=Zm (g:=Gx.mk P w K mg base) (m:=5) (k:=14) (Z1:=Z1) (Z2:=Z2) (Z3:=Z3) (Z0:=Z0) (t.Zh P w base) (Z4.mono (by decide)) (Zr.mono (by decide)) (Z0a.mono (by decide))
 have Z26:=Zp (g:=Gx.mk P w K mg base) (m:=5) (k:=14) (Z1:=Z1) (Z2:=Z2) (Z3:=Z3) (Z0:=Z0) (t.Zk P w base) (Z4.mono (by decide)) (Z0a.mono (by decide))
 have Z1v:=Zg (g:=Gx.mk P w K mg base) (m:=5) (k:=14) (Z1:=Z1) (Z2:=Z2) (Z3:=Z3) (Z0:=Z0) (t.Zd P w base) (Z4.mono (by decide)) (Z0a.mono (by decide)) t.Zj
 have Z0b:=Zq (g:=Gx.mk P w K mg base) (m:=5) (k:=15) (Z1:=Z1) (Z2:=Z2) (Z3:=Z3) (Z0:=Z0) (t.Ze P w base) (Z1Q.mono (by decide)) (Z26.mono (by decide)) (Z1v.mono (by decide)) (Zx.mono (by decide)) (t.Zo P w base) (t.Zl P w base) t.x_NoNote t.r_NoNote
 have Z1R:=Zm (g:=Gx.mk P w K mg base) (m:=6) (k:=16) (Z1:=Z1) (Z2:=Z2) (Z3:=Z3) (Z0:=Z0) (t.Zh P w base) (Z4.mono (by decide)) (Zr.mono (by decide)) (Z0b.mono (by decide))
 have Z27:=Zp (g:=Gx.mk P w K mg base) (m:=6) (k:=16) (Z1:=Z1) (Z2:=Z2) (Z3:=Z3) (Z0:=Z0) (t.Zk P w base) (Z4.mono (by decide)) (Z0b.mono (by decide))
 have Z1w:=Zg (g:=Gx.mk P w K mg base) (m:=6) (k:=16) (Z1:=Z1) (Z2:=Z2) (Z3:=Z3) (Z0:=Z0) (t.Zd P w base) (Z4.mono (by decide)) (Z0b.mono (by decide)) t.Zj
 have Z0c:=Zq (g:=Gx.mk P w K mg base) (m:=6) (k:=17) (Z1:=Z1) (Z2:=Z2) (Z3:=Z3) (Z0:=Z0) (t.Ze P w base) (Z1R.mono (by decide)) (Z27.mono (by decide)) (Z1w.mono (by decide)) (Zx.mono (by decide)) (t.Zo P w base) (t.Zl P w base) t.x_NoNote t.r_NoNote
 have Z1S:=Zm (g:=Gx.mk P w K mg base) (m:=7) (k:=18) (Z1:=Z1) (Z2:=Z2) (Z3:=Z3) (Z0:=Z0) (t.Zh P w base) (Z4.mono (by decide)) (Zr.mono (by decide)) (Z0c.mono (by decide))
 have Z28:=Zp (g:=Gx.mk P w K mg base) (m:=7) (k:=18) (Z1:=Z1) (Z2:=Z2) (Z3:=Z3) (Z0:=Z0) (t.Zk P w base) (Z4.mono (by decide)) (Z0c.mono (by decide))
 have Z1x:=Zg (g:=Gx.mk P w K mg base) (m:=7) (k:=18) (Z1:=Z1) (Z2:=Z2) (Z3:=Z3) (Z0:=Z0) (t.Zd P w base) (Z4.mono (by decide)) (Z0c.mono (by decide)) t.Zj
 have Z2l:=Zq (g:=Gx.mk P w K mg base) (m:=7) (k:=19) (Z1:=Z1) (Z2:=Z2) (Z3:=Z3) (Z0:=Z0) (t.Ze P w base) (Z1S.mono (by decide)) (Z28.mono (by decide)) (Z1x.mono (by decide)) (Zx.mono (by decide)) (t.Zo P w base) (t.Zl P w base) t.x_NoNote t.r_NoNote
 have G_read_term:=Ux (g:=Gx.mk P w K mg base) (k:=20) (Z1:=Z1) (Z2:=Z2) (Z3:=Z3) (Z0:=Z0) (t.Z1b P w base) (G_read_note.mono (by decide)) (Z2l.mono (by decide))
 have G_law_cell_at:=Z2j (g:=Gx.mk P w K mg base) (Z1:=Z1) (Z2:=Z2) (Z3:=Z3) (Z0:=Z0) (t.Z0K P w base) t.b_len
 have G_law_good:=UI (g:=Gx.mk P w K mg base) (Z1:=Z1) (Z2:=Z2) (Z3:=Z3) (Z0:=Z0) (t.Z1p P w base) t.b_str
 have G_law_bad:=QC (g:=Gx.mk P w K mg base) (Z1:=Z1) (Z2:=Z2) (Z3:=Z3) (Z0:=Z0) (t.Z1F P w base) t.b_str
 exact YaS (g:=Gx.mk P w K mg base) (k:=21) (Z1:=Z1) (Z2:=Z2) (Z3:=Z3) (Z0:=Z0) (G_read_term.mono (by decide)) (G_show_term.mono (by decide)) (G_law_cell_at.mono (by decide)) (G_law_good.mono (by decide)) (G_law_bad.mono (by decide)) t.ZR t.Zs t.Z1h t.x_CountError t.x_Crowded t.x_NoNote t.t_Crowded t.t_NoNote t.i_NoNote_NoNote t.i_NoNote_Crowded t.i_NoNote_ValueError t.i_Crowded_NoNote t.i_Crowded_Crowded t.i_Crowded_ValueError t.m_NoNote_CountError t.m_Crowded_CountError
end KW
theorem PySem.W.Fast.tw3442188357843116106:True:=trivial
theorem PySem.W.Fast.tw11734946314522574260:True:=trivial
theorem PySem.W.Fast.tw13361064216157856876:True:=trivial
theorem PySem.W.Fast.tw10528949603111241827:True:=trivial
theorem PySem.W.Fast.tw13001946919521747537:True:=trivial
theorem PySem.W.Fast.tw5989291272236308259:True:=trivial
theorem PySem.W.Fast.tw10064776928438822901:True:=trivial
theorem PySem.W.Fast.tw4800499210693360548:True:=trivial
theorem PySem.W.Fast.tw17408446358178316551:True:=trivial
theorem PySem.W.Fast.tw16202418763167435590:True:=trivial
theorem PySem.W.Fast.tw2499176568565042233:True:=trivial
theorem PySem.W.Fast.tw10680926307963559529:True:=trivial
theorem PySem.W.Fast.tw9174949193179182677:True:=trivial
theorem PySem.W.Fast.tw6539365984216380030:True:=trivial
theorem PySem.W.Fast.tw12309421922728315571:True:=trivial
theorem PySem.W.Fast.tw12995759581639561653:True:=trivial
theorem PySem.W.Fast.tw7625945688399271673:True:=trivial
theorem PySem.W.Fast.tw15663265406221087000:True:=trivial
open PySem PySem.W PyProof.Rows
set_option maxRecDepth 100000 in
set_option maxHeartbeats 0 in
theorem PySem.Challenge.cw_countgen_k51_terms_refused_holds : PySem.Challenge.rw_countgen_k51_terms_refused.Holds := by
 w_on;o_law;k_head;(case hw=>w_witness2)
 k_fill
 refine L2.YbL (l:=PySem.Challenge.rw_countgen_k51_terms_refused) 21 "_law_script" KW.VS ["_law_script","_law_way","_law_cell","_law_text","_law_place","_law_ahead","_law_k","_law_thing","_law_error","_law_term","e"] rfl rfl ⟨rfl,by decide,by decide⟩ KW.YL (fun w h Y=>by first | exact PySem.W.kIn_of Y | exact PySem.W.km_in_of Y) ?F
 case F =>
  intro w mg h KX G
  refine' ⟨L2.Q2 KX G ?a ?l ?c ?k (fun _ _ _ _ _ _ _ _ => .of_eq rfl),fun base=>KW.YaT ⟨?Z18,?ZW,?ZJ,?Z0x,?Z1o,?ZK,?ZH,?ZS,?ZG,?ZO,?Z8,?Z9,?Z03,?Z19,?Z0J,?Zn,?Z04,?Z1a,?Z05,?ZP,?Z0j,?Z0y,?Zh,?Zk,?Zd,?Ze,?Z1b,?Z0K,?Z1p,?Z1F,?Z5,?Z7,?Z6,?Z1H,?Z10,?Zw,?Z11,?Z1k,?Z1G,?Zo,?Zl,?ZR,?b_all,?b_int,?Zs,?b_len,?b_list,?Z1h,?b_str,?Zj,?x_CountError,?x_NoNote,?x_Crowded,?r_Crowded,?r_NoNote,?t_Crowded,?t_NoNote,?i_Crowded_Crowded,?i_Crowded_NoNote,?i_Crowded_ValueError,?i_NoNote_Crowded,?i_NoNote_NoNote,?i_NoNote_ValueError,?m_NoNote_CountError,?m_Crowded_CountError⟩ _ w base⟩
  (case a=>k_is)
  (case l=>k_is)
  (case c=>k_is)
  (case k=>k_is)
  case ZK =>
   refine' L2.YbK KX G ["self","text"] ?aC ?mk ?kc ?a ?i ?l ?c ?k (fun _ _ _ _ _ _ us hl=>by obtain ⟨_,_,rfl⟩:=KW.us2 hl;rfl)
   (case aC=>k_is)
   (case mk=>k_is)
   (case kc=>k_is)
   (case a=>k_is)
   (case i=>k_is)
   (case l=>k_is)
   (case c=>k_is)
   (case k=>k_is)
  case Z18 =>
   refine' L2.Yy KX G ["sign"] ?a ?l ?c ?k (fun _ _ _ _ _ _ us hl=>by obtain ⟨_,rfl⟩:=KW.us1 hl;rfl)
   (case a=>k_is)
   (case l=>k_is)
   (case c=>k_is)
   (case k=>k_is)
  case ZW =>
   refine' L2.Yy KX G ["sign"] ?a ?l ?c ?k (fun _ _ _ _ _ _ us hl=>by obtain ⟨_,rfl⟩:=KW.us1 hl;rfl)
   (case a=>k_is)
   (case l=>k_is)
   (case c=>k_is)
   (case k=>k_is)
  case ZJ =>
   refine' L2.Yy KX G ["sign"] ?a ?l ?c ?k (fun _ _ _ _ _ _ us hl=>by obtain ⟨_,rfl⟩:=KW.us1 hl;rfl)
   (case a=>k_is)
   (case l=>k_is)
   (case c=>k_is)
   (case k=>k_is)
  case Z0x =>
   refine' L2.Yy KX G ["sign"] ?a ?l ?c ?k (fun _ _ _ _ _ _ us hl=>by obtain ⟨_,rfl⟩:=KW.us1 hl;rfl)
   (case a=>k_is)
   (case l=>k_is)
   (case c=>k_is)
   (case k=>k_is)
  case Z1o =>
   refine' L2.Yy KX G ["text"] ?a ?l ?c ?k (fun _ _ _ _ _ _ us hl=>by obtain ⟨_,rfl⟩:=KW.us1 hl;rfl)
   (case a=>k_is)
   (case l=>k_is)
   (case c=>k_is)
   (case k=>k_is)
  case ZH =>
   refine' L2.XH KX G ["self"] ?a ?i ?l ?c ?k (fun _ _ _ _ _ _ us hl=>by obtain ⟨_,rfl⟩:=KW.us1 hl;rfl)
   (case a=>k_is)
   (case i=>k_is)
   (case l=>k_is)
   (case c=>k_is)
   (case k=>k_is)
  case ZS =>
   refine' L2.XH KX G ["self","sign"] ?a ?i ?l ?c ?k (fun _ _ _ _ _ _ us hl=>by obtain ⟨_,_,rfl⟩:=KW.us2 hl;rfl)
   (case a=>k_is)
   (case i=>k_is)
   (case l=>k_is)
   (case c=>k_is)
   (case k=>k_is)
  case ZG =>
   refine' L2.XH KX G ["self"] ?a ?i ?l ?c ?k (fun _ _ _ _ _ _ us hl=>by obtain ⟨_,rfl⟩:=KW.us1 hl;rfl)
   (case a=>k_is)
   (case i=>k_is)
   (case l=>k_is)
   (case c=>k_is)
   (case k=>k_is)
  case ZO =>
   refine' L2.XH KX G ["self"] ?a ?i ?l ?c ?k (fun _ _ _ _ _ _ us hl=>by obtain ⟨_,rfl⟩:=KW.us1 hl;rfl)
   (case a=>k_is)
   (case i=>k_is)
   (case l=>k_is)
   (case c=>k_is)
   (case k=>k_is)
  case Z8 =>
   refine' L2.XH KX G ["self"] ?a ?i ?l ?c ?k (fun _ _ _ _ _ _ us hl=>by obtain ⟨_,rfl⟩:=KW.us1 hl;rfl)
   (case a=>k_is)
   (case i=>k_is)
   (case l=>k_is)
   (case c=>k_is)
   (case k=>k_is)
  case Z9 =>
   refine' L2.XH KX G ["self"] ?a ?i ?l ?c ?k (fun _ _ _ _ _ _ us hl=>by obtain ⟨_,rfl⟩:=KW.us1 hl;rfl)
   (case a=>k_is)
   (case i=>k_is)
   (case l=>k_is)
   (case c=>k_is)
   (case k=>k_is)
  case Z03 =>
   refine' L2.Yy KX G ["text"] ?a ?l ?c ?k (fun _ _ _ _ _ _ us hl=>by obtain ⟨_,rfl⟩:=KW.us1 hl;rfl)
   (case a=>k_is)
   (case l=>k_is)
   (case c=>k_is)
   (case k=>k_is)
  case Z19 =>
   refine' L2.Yy KX G ["text"] ?a ?l ?c ?k (fun _ _ _ _ _ _ us hl=>by obtain ⟨_,rfl⟩:=KW.us1 hl;rfl)
   (case a=>k_is)
   (case l=>k_is)
   (case c=>k_is)
   (case k=>k_is)
  case Z0J =>
   refine' L2.Yy KX G ["term"] ?a ?l ?c ?k (fun _ _ _ _ _ _ us hl=>by obtain ⟨_,rfl⟩:=KW.us1 hl;rfl)
   (case a=>k_is)
   (case l=>k_is)
   (case c=>k_is)
   (case k=>k_is)
  case Zn =>
   refine' L2.Yy KX G ["term"] ?a ?l ?c ?k (fun _ _ _ _ _ _ us hl=>by obtain ⟨_,rfl⟩:=KW.us1 hl;rfl)
   (case a=>k_is)
   (case l=>k_is)
   (case c=>k_is)
   (case k=>k_is)
  case Z04 =>
   refine' L2.Yy KX G ["word"] ?a ?l ?c ?k (fun _ _ _ _ _ _ us hl=>by obtain ⟨_,rfl⟩:=KW.us1 hl;rfl)
   (case a=>k_is)
   (case l=>k_is)
   (case c=>k_is)
   (case k=>k_is)
  case Z1a =>
   refine' L2.Yy KX G ["note"] ?a ?l ?c ?k (fun _ _ _ _ _ _ us hl=>by obtain ⟨_,rfl⟩:=KW.us1 hl;rfl)
   (case a=>k_is)
   (case l=>k_is)
   (case c=>k_is)
   (case k=>k_is)
  case Z05 =>
   refine' L2.Yy KX G ["note"] ?a ?l ?c ?k (fun _ _ _ _ _ _ us hl=>by obtain ⟨_,rfl⟩:=KW.us1 hl;rfl)
   (case a=>k_is)
   (case l=>k_is)
   (case c=>k_is)
   (case k=>k_is)
  case ZP =>
   refine' L2.Yy KX G ["notes","many"] ?a ?l ?c ?k (fun _ _ _ _ _ _ us hl=>by obtain ⟨_,_,rfl⟩:=KW.us2 hl;rfl)
   (case a=>k_is)
   (case l=>k_is)
   (case c=>k_is)
   (case k=>k_is)
  case Z0j =>
   refine' L2.Yy KX G ["note"] ?a ?l ?c ?k (fun _ _ _ _ _ _ us hl=>by obtain ⟨_,rfl⟩:=KW.us1 hl;rfl)
   (case a=>k_is)
   (case l=>k_is)
   (case c=>k_is)
   (case k=>k_is)
  case Z0y =>
   refine' L2.Yy KX G ["word"] ?a ?l ?c ?k (fun _ _ _ _ _ _ us hl=>by obtain ⟨_,rfl⟩:=KW.us1 hl;rfl)
   (case a=>k_is)
   (case l=>k_is)
   (case c=>k_is)
   (case k=>k_is)
  case Zh =>
   refine' L2.Yy KX G ["notes"] ?a ?l ?c ?k (fun _ _ _ _ _ _ us hl=>by obtain ⟨_,rfl⟩:=KW.us1 hl;rfl)
   (case a=>k_is)
   (case l=>k_is)
   (case c=>k_is)
   (case k=>k_is)
  case Zk =>
   refine' L2.Yy KX G ["mark","notes"] ?a ?l ?c ?k (fun _ _ _ _ _ _ us hl=>by obtain ⟨_,_,rfl⟩:=KW.us2 hl;rfl)
   (case a=>k_is)
   (case l=>k_is)
   (case c=>k_is)
   (case k=>k_is)
  case Zd =>
   refine' L2.Yy KX G ["mark","notes","many"] ?a ?l ?c ?k (fun _ _ _ _ _ _ us hl=>by obtain ⟨_,_,_,rfl⟩:=KW.us3 hl;rfl)
   (case a=>k_is)
   (case l=>k_is)
   (case c=>k_is)
   (case k=>k_is)
  case Ze =>
   refine' L2.Yy KX G ["note"] ?a ?l ?c ?k (fun _ _ _ _ _ _ us hl=>by obtain ⟨_,rfl⟩:=KW.us1 hl;rfl)
   (case a=>k_is)
   (case l=>k_is)
   (case c=>k_is)
   (case k=>k_is)
  case Z1b =>
   refine' L2.Yy KX G ["text"] ?a ?l ?c ?k (fun _ _ _ _ _ _ us hl=>by obtain ⟨_,rfl⟩:=KW.us1 hl;rfl)
   (case a=>k_is)
   (case l=>k_is)
   (case c=>k_is)
   (case k=>k_is)
  case Z0K =>
   refine' L2.Yy KX G ["_law_script","_law_k"] ?a ?l ?c ?k (fun _ _ _ _ _ _ us hl=>by obtain ⟨_,_,rfl⟩:=KW.us2 hl;rfl)
   (case a=>k_is)
   (case l=>k_is)
   (case c=>k_is)
   (case k=>k_is)
  case Z1p =>
   refine' L2.Yy KX G ["_law_cell"] ?a ?l ?c ?k (fun _ _ _ _ _ _ us hl=>by obtain ⟨_,rfl⟩:=KW.us1 hl;rfl)
   (case a=>k_is)
   (case l=>k_is)
   (case c=>k_is)
   (case k=>k_is)
  case Z1F =>
   refine' L2.Yy KX G ["_law_cell"] ?a ?l ?c ?k (fun _ _ _ _ _ _ us hl=>by obtain ⟨_,rfl⟩:=KW.us1 hl;rfl)
   (case a=>k_is)
   (case l=>k_is)
   (case c=>k_is)
   (case k=>k_is)
  case Z5 =>
   refine' ⟨?a,?b,?c,?d⟩
   (case a=>k_is)
   (case b=>k_is)
   (case c=>k_is)
   (case d=>k_is)
  case Z7 =>
   refine' L2.VH ?a
   (case a=>k_is)
  case Z6 =>
   refine' L2.VH ?a
   (case a=>k_is)
  case Z1H =>
   refine' L2.XI KX G ?a
   (case a=>k_is)
  case Z10 =>
   refine' L2.XI KX G ?a
   (case a=>k_is)
  case Zw =>
   refine' L2.XI KX G ?a
   (case a=>k_is)
  case Z11 =>
   refine' L2.XI KX G ?a
   (case a=>k_is)
  case Z1k =>
   refine' L2.XI KX G ?a
   (case a=>k_is)
  case Z1G =>
   refine' L2.XI KX G ?a
   (case a=>k_is)
  case Zo =>
   refine' L2.US KX G ?a ?l ?z ?r
   (case a=>k_is)
   (case l=>k_is)
   (case z=>decide)
   (case r=>exact (.cons ⟨_,rfl⟩ (.cons ⟨_,rfl⟩ (.cons ⟨_,rfl⟩ (.cons ⟨_,rfl⟩ .nil)))))
  case Zl =>
   refine' L2.US KX G ?a ?l ?z ?r
   (case a=>k_is)
   (case l=>k_is)
   (case z=>decide)
   (case r=>exact (.cons ⟨_,rfl⟩ (.cons ⟨_,rfl⟩ (.cons ⟨_,rfl⟩ (.cons ⟨_,rfl⟩ (.cons ⟨_,rfl⟩ (.cons ⟨_,rfl⟩ (.cons ⟨_,rfl⟩ .nil))))))))
  case ZR =>
   refine' PySem.W.mg_none_of KX G ?a
   (case a=>k_is)
  case b_all =>
   refine' PySem.W.mg_none_of KX G ?a
   (case a=>k_is)
  case b_int =>
   refine' PySem.W.mg_none_of KX G ?a
   (case a=>k_is)
  case Zs =>
   refine' PySem.W.mg_none_of KX G ?a
   (case a=>k_is)
  case b_len =>
   refine' PySem.W.mg_none_of KX G ?a
   (case a=>k_is)
  case b_list =>
   refine' PySem.W.mg_none_of KX G ?a
   (case a=>k_is)
  case Z1h =>
   refine' PySem.W.mg_none_of KX G ?a
   (case a=>k_is)
  case b_str =>
   refine' PySem.W.mg_none_of KX G ?a
   (case a=>k_is)
  case Zj =>
   refine' PySem.W.mg_none_of KX G ?a
   (case a=>k_is)
  case x_CountError =>
   refine' PySem.W.mg_of KX G ?a
   (case a=>k_is)
  case x_NoNote =>
   refine' PySem.W.mg_of KX G ?a
   (case a=>k_is)
  case x_Crowded =>
   refine' PySem.W.mg_of KX G ?a
   (case a=>k_is)
  case r_Crowded=>k_exc
  case r_NoNote=>k_exc
  case t_Crowded =>
   refine' ⟨?a,?b,?c,?d,?e,?f⟩
   (case a=>k_is)
   (case b=>k_is)
   (case c=>k_is)
   (case d=>k_is)
   (case e=>k_is)
   (case f=>k_is)
  case t_NoNote =>
   refine' ⟨?a,?b,?c,?d,?e,?f⟩
   (case a=>k_is)
   (case b=>k_is)
   (case c=>k_is)
   (case d=>k_is)
   (case e=>k_is)
   (case f=>k_is)
  case i_Crowded_Crowded=>kit_is
  case i_Crowded_NoNote=>kit_is
  case i_Crowded_ValueError=>kit_is
  case i_NoNote_Crowded=>kit_is
  case i_NoNote_NoNote=>kit_is
  case i_NoNote_ValueError=>kit_is
  case m_NoNote_CountError=>kts_exm
  case m_Crowded_CountError=>kts_exm
