import PyProof.Rows.All
import Wide.All
import OpenK.AllK
import Wide.FinOn
import Lean
import PyProof.EqAt
import PyProof.EqKinds
import PyProof.TupleCall
import PyProof.NeData
import KE.KTryMore
import PyProof.ExcBaseAll.ValueError
import PyProof.ExcArgsOwn
import KE.KIntText
import PyProof.Rows.SetFrom
import PyProof.SetRoads
import PyProof.StrWalks
import PyProof.ListStr
import PyProof.Rows.StrSplitCount
import PyProof.MeetsStr
import PyProof.MeetsStr2
import PyProof.StrOps2
import KE.KTryOn
import OpenK.KMake
import PyProof.ReprRoads
import PyProof.ReprLen
import PyProof.StrLawsRepr
import PyProof.CallFns
import KE.KSortTup
import PyProof.StrCalls6
import PyProof.MeetsStr3
import PyProof.CollectIter
import PySem.Challenge.RW_countgen_k78_whole_rest_told
set_option compiler.extract_closed false
set_option Elab.async false
set_option linter.all false
set_option maxRecDepth 100000
namespace L2
open PySem PySem.Spec PyProof.Rows
abbrev Key:=Sum Int Str
def VW:Key->Value->Bool
 | .inl k,v=>Value.isInt k v
 | .inr x,v=>Value.isStrOf x v
def Ks (w:World):Key->Int
 | .inl k=>hashInt k
 | .inr x=>hashStr w x
theorem Y9:∀ {k:Key} {v:Value},VW k v=true->(∃ i t,k=Sum.inl i/\v=Value.int i t)\/(∃ x t,k=Sum.inr x/\v=Value.str x t)
 | .inl i,v,h=>by
  obtain ⟨t,e⟩:=Value.isInt_shape (k:=i) (v:=v) h;exact .inl ⟨i,t,rfl,e⟩
 | .inr x,v,h=>by
  obtain ⟨t,e⟩:=Value.isStrOf_shape (x:=x) (v:=v) h;exact .inr ⟨x,t,rfl,e⟩
theorem Mq (i:Int) (t:Tok):VW (.inl i) (.int i t)=true:=by simp [VW,Value.isInt]
theorem Mr (x:Str) (t:Tok):VW (.inr x) (.str x t)=true:=by simp [VW,Value.isStrOf]
theorem Ms (a b:Int):decide ((Sum.inl a:Key)=Sum.inl b)=(a==b):=by
 by_cases e:a=b
 ·subst e;simp
 ·have h:¬ (Sum.inl a:Key)=Sum.inl b:=fun q=>e (Sum.inl.inj q)
  rw [decide_eq_false h];exact (beq_eq_false_iff_ne.mpr e).symm
theorem Mt (a b:Str):decide ((Sum.inr a:Key)=Sum.inr b)=decide (a=b):=by
 by_cases e:a=b
 ·subst e;simp
 ·have h:¬ (Sum.inr a:Key)=Sum.inr b:=fun q=>e (Sum.inr.inj q)
  rw [decide_eq_false h,decide_eq_false e]
theorem Mu (a:Int) (b:Str):decide ((Sum.inl a:Key)=Sum.inr b)=false:=decide_eq_false (fun q=>nomatch q)
theorem Mv (a:Str) (b:Int):decide ((Sum.inr a:Key)=Sum.inl b)=false:=decide_eq_false (fun q=>nomatch q)
def XJ (prog:Program) (w:World):PySem.KeyKind prog w Key where
 is:=VW
 hash:=Ks w
 inj:=fun v a b ha hb=>by
  rcases Y9 ha with ⟨i,t,rfl,rfl⟩ | ⟨x,t,rfl,rfl⟩
  ·rcases Y9 hb with ⟨j,u,rfl,e⟩ | ⟨y,u,rfl,e⟩
   ·injection e with e1 _;rw [e1]
   ·exact nomatch e
  ·rcases Y9 hb with ⟨j,u,rfl,e⟩ | ⟨y,u,rfl,e⟩
   ·exact nomatch e
   ·injection e with e1 _;rw [e1]
 byValue:=fun k v h=>by
  rcases Y9 h with ⟨i,t,rfl,rfl⟩ | ⟨x,t,rfl,rfl⟩<;>rfl
 pyHash:=fun hv h=>by
  rcases Y9 hv with ⟨i,t,rfl,rfl⟩ | ⟨x,t,rfl,rfl⟩
  ·exact wpAny_pyHash_int h
  ·exact wpAny_pyHash_str h
 eqBool:=fun hu hv h=>by
  rcases Y9 hu with ⟨i,t,rfl,rfl⟩ | ⟨x,t,rfl,rfl⟩
  ·rcases Y9 hv with ⟨j,u,rfl,rfl⟩ | ⟨y,u,rfl,rfl⟩
   ·rw [Ms] at h;exact wpAny_eqBool_int h
   ·rw [Mu] at h;exact SeqAt.EqAt.int_str i t y u _ _ _ _ h
  ·rcases Y9 hv with ⟨j,u,rfl,rfl⟩ | ⟨y,u,rfl,rfl⟩
   ·rw [Mv] at h;exact SeqAt.EqAt.str_int x t j u _ _ _ _ h
   ·rw [Mt] at h;exact wpAny_eqBool_str h
 «strs»:=fun k x t v h=>by
  rcases Y9 h with ⟨i,u,rfl,e⟩ | ⟨y,u,rfl,e⟩
  ·exact nomatch e
  ·injection e with e1 _
   subst e1
   cases v<;>rfl
theorem Mw (prog:Program) (w:World) (i:Int) (t:Tok):(XJ prog w).is (.inl i) (.int i t)=true:=Mq i t
theorem Mx (prog:Program) (w:World) (x:Str) (t:Tok):(XJ prog w).is (.inr x) (.str x t)=true:=Mr x t
inductive V where
 | non | bl (b:Bool) | int (i:Int) | str (x:Str) | eU (b:Array UInt8) | flt (b:UInt64) | ref (a:Addr) | ty (n:String)
 deriving DecidableEq
def Yw:V->Value->Prop
 | .non,u=>u=Value.none
 | .bl b,u=>u=Value.bool b
 | .int i,u=>∃ t,u=Value.int i t
 | .str x,u=>∃ t,u=Value.str x t
 | .eU b,u=>∃ t,u=Value.bytes b t
 | .flt b,u=>∃ t,u=Value.float b t
 | .ref a,u=>u=Value.ref a
 | .ty n,u=>u=Value.type n
abbrev Yt:List V->List Value->Prop:=Paired Yw
theorem Yt.length {xs:List V} {us:List Value} (r:Yt xs us):xs.length=us.length:=Paired.length r
theorem Yt.get:∀ {xs:List V} {us:List Value} {i:Nat} {x:V},Yt xs us->xs[i]?=some x->∃ u,us[i]?=some u/\Yw x u
 | _,_,_,_,.nil,e=>by simp at e
 | _,_,0,_,.cons r _,e=>by simp at e;subst e;exact ⟨_,rfl,r⟩
 | _,_,i+1,x,.cons _ t,e=>by
  obtain ⟨u,h1,h2⟩:=Yt.get (i:=i) (x:=x) t (by simpa using e);exact ⟨u,by simpa using h1,h2⟩
theorem Yt.append:∀ {xs ys:List V} {us ws:List Value},Yt xs us->Yt ys ws->Yt (xs++ys) (us++ws)
 | _,_,_,_,.nil,s=>s
 | _,_,_,_,.cons r t,s => .cons r (Yt.append t s)
theorem Yt.take:∀ {xs:List V} {us:List Value} (n:Nat),Yt xs us->Yt (xs.take n) (us.take n)
 | _,_,0,_ => .nil
 | _,_,_+1,.nil => .nil
 | _,_,n+1,.cons r t => .cons r (Yt.take n t)
theorem Yt.drop:∀ {xs:List V} {us:List Value} (n:Nat),Yt xs us->Yt (xs.drop n) (us.drop n)
 | _,_,0,r=>r
 | _,_,_+1,.nil => .nil
 | _,_,n+1,.cons _ t=>Yt.drop n t
def Wc:Option V->Option Value->Prop
 | some v,some u=>Yw v u
 | none,none=>True
 | _,_=>False
def KV {κ:Type}:List (κ×V)->List (κ×Value)->Prop:=Paired fun (p:κ×V) (q:κ×Value)=>p.1=q.1/\Yw p.2 q.2
def kV:Key->V
 | .inl i => .int i
 | .inr x => .str x
inductive HO where
 /-- a list -/
 | lst (xs:List V)
 /-- a tuple (never changes) -/
 | tup (xs:List V)
 /-- a dict whose keys are ints and texts;one whose keys are tuples of ints and texts (the empty one is both) -/
 | dK (kvs:List (Key×V)) | dT (kvs:List (List Key×V))
 /-- a set of ints: its members,its size -/
 | set (S:Int->Bool) (n:Nat)
 /-- an instance of the class at C,its dict at dx,its attributes -/
 | ins (C dx:Addr) (fs:List (Str×V))
 /-- the dict of the instance at x -/
 | own (x:Addr)
 /-- the dict of an exception -/
 | xd (fs:List (Str×V))
 /-- a bound method,f of x -/
 | met (f x:Addr)
 /-- a range object lo,lo+1,.. below hi -/
 | rng (lo hi:Int)
 /-- a thing that is known to the object (the script;a dict while a loop walks it): read,never written while it is so -/
 | bC (o:Obj) (u:HO)
 /-- a code object's table -/
 | aV (ps:Array Value)
 /-- any other thing,by what is true of its one object (a def of one's own: Ku a S n:=HO.ext fun h => ..) -/
 | ext (φ:Heap->Prop)
abbrev Hp:=Addr->Option HO
def upd (H:Hp) (a:Addr) (o:HO):Hp:=fun b=>if b=a then some o else H b
theorem Yb {H:Hp} {a:Addr} {o:HO}:upd H a o a=some o:=by unfold upd;rw [if_pos rfl]
theorem Yg {H:Hp} {a b:Addr} {o:HO} (h:b≠a):upd H a o b=H b:=by unfold upd;rw [if_neg h]
theorem Xy {H:Hp} {a b:Addr} {o u:HO} (h:H a=some o) (h':H b=some u) (d:o≠u):a≠b:=by
 intro e;subst e;rw [h] at h';exact d (Option.some.inj h')
theorem Ym {H:Hp} {a b:Addr} {o:HO} (h:H a=some o) (h':H b=none):a≠b:=by
 intro e;subst e;rw [h] at h';cases h'
section
variable (P:Program) (w:World)
def YN (H:Hp) (h:Heap) (a:Addr):HO->Prop
 | .lst xs=>xs.length<=sizeLine/\∃ (its:List Value) (n:Nat),Yt xs its/\h.get? a=some { cls := .type "list",data := .seq its.toArray n }
 | .tup xs=>xs.length<=sizeLine/\∃ its:List Value,Yt xs its/\IsTup h a its.toArray
 | .dK kvs=>kvs.length<=sizeLine/\(a==sysModules)=false/\∃ vs,KV kvs vs/\h.DictOf (XJ P w) a vs
 | .dT kvs=>kvs.length<=sizeLine/\(a==sysModules)=false/\∃ xs:List (List Key×Addr×Value),
   Paired (fun (p:List Key×V) (q:List Key×Addr×Value)=>p.1=q.1/\H q.2.1=some (.tup (p.1.map kV))/\Yw p.2 q.2.2) kvs xs /\
   ∃ o es ep,h.get? a=some o/\o.ExactDict/\o.data = .dict es ep/\es.toList=xs.map (entryOfKey (tupleKind (XJ P w)))/\(xs.map (·.1)).Nodup
 | .set S n=>h.SetOf (intKind P w) a S n
 | .ins C dx fs=>H dx=some (.own a)/\fs.length<=1000/\dx≠a/\h.get? a=some (W.instObj C dx) /\
   ∃ mA,h.Ns1 dx mA/\(∀ f,Wc (fs.lookup f) (mA f))/\PySem.Within mA (fs.map (·.1))
 | .own _=>∃ o,h.get? a=some o
 | .xd fs=>∃ mA,h.Ns1 a mA/\∀ f,Wc (fs.lookup f) (mA f)
 | .rng lo hi=>∃ t u v,h.get? a=some { cls := .type "range",data := .fields #[.int lo t,.int hi u,.int 1 v] }
 | .bC o u=>h.get? a=some o/\YN H h a u
 | .aV ps=>h.get? a=some { cls := .none,data := .fields ps }
 | .met f x=>h.get? a=some (W.methodObj (.ref f) (.ref x))
 | .ext φ=>φ h/\(∃ o,h.get? a=some o)/\∀ h1 h2:Heap,φ h1->(∀ o,h1.get? a=some o->h2.get? a=some o)->φ h2
def aY (H:Hp) (h:Heap):Prop:=∀ a o,H a=some o->YN P w H h a o
end
section
variable {P:Program} {w:World} {H H':Hp} {h h':Heap} {a:Addr} {o:HO}
theorem YN.lt (x:YN P w H h a o):a<h.objs.size:=by
 cases o with
 | lst xs=>obtain ⟨_,_,_,_,e⟩:=x;exact Heap.lt_size e
 | tup xs=>obtain ⟨_,_,_,p⟩:=x;exact p.lt
 | dK kvs=>obtain ⟨_,_,_,_,o,_,_,e,_⟩:=x;exact Heap.lt_size e
 | dT kvs=>obtain ⟨_,_,_,_,o,_,_,e,_⟩:=x;exact Heap.lt_size e
 | set S n=>obtain ⟨o,_,_,_,e,_⟩:=x;exact Heap.lt_size e
 | ins C dx fs=>obtain ⟨_,_,_,e,_⟩:=x;exact Heap.lt_size e
 | own y=>obtain ⟨_,e⟩:=x;exact Heap.lt_size e
 | xd fs=>obtain ⟨_,⟨_,_,_,e,_⟩,_⟩:=x;exact Heap.lt_size e
 | rng lo hi=>obtain ⟨_,_,_,e⟩:=x;exact Heap.lt_size e
 | bC ob u=>obtain ⟨e,_⟩:=x;exact Heap.lt_size e
 | aV ps=>exact Heap.lt_size (show h.get? a=some _ from x)
 | met f y=>exact Heap.lt_size (show h.get? a=some _ from x)
 | ext φ=>obtain ⟨_,⟨_,e⟩,_⟩:=x;exact Heap.lt_size e
theorem Paired.vH {α β:Type} {F G:α->β->Prop}:∀ {l₁:List α} {l₂:List β},Paired F l₁ l₂->(∀ a b,F a b->G a b)->Paired G l₁ l₂
 | _,_,.nil,_ => .nil
 | _,_,.cons r t,f => .cons (f _ _ r) (Paired.vH t f)
theorem YN.stay (x:YN P w H h a o) (k:∀ b u,(b=a\/H b=some (.own a))->h.get? b=some u->h'.get? b=some u)
  (ho:∀ b,H b=some (.own a)->H' b=some (.own a)) (ht:∀ b xs,H b=some (.tup xs)->H' b=some (.tup xs)):YN P w H' h' a o:=by
 induction o with
 | lst xs=>obtain ⟨z,its,n,r,e⟩:=x;exact ⟨z,its,n,r,k _ _ (.inl rfl) e⟩
 | tup xs=>obtain ⟨z,its,r,ob,e,c⟩:=x;exact ⟨z,its,r,ob,k _ _ (.inl rfl) e,c⟩
 | dK kvs=>obtain ⟨z,y,vs,r,ob,es,ep,e,c⟩:=x;exact ⟨z,y,vs,r,ob,es,ep,k _ _ (.inl rfl) e,c⟩
 | dT kvs =>
  obtain ⟨z,y,xs,r,ob,es,ep,e,c⟩:=x;exact ⟨z,y,xs,Paired.vH r fun p q z=>⟨z.1,ht _ _ z.2.1,z.2.2⟩,ob,es,ep,k _ _ (.inl rfl) e,c⟩
 | set S n=>obtain ⟨ob,es,ep,t,e,c⟩:=x;exact ⟨ob,es,ep,t,k _ _ (.inl rfl) e,c⟩
 | ins C dx fs =>
  obtain ⟨d,z,ne,e,mA,⟨od,es,ep,e2,c⟩,r⟩:=x;exact ⟨ho _ d,z,ne,k _ _ (.inl rfl) e,mA,⟨od,es,ep,k _ _ (.inr d) e2,c⟩,r⟩
 | own y=>obtain ⟨ob,e⟩:=x;exact ⟨ob,k _ _ (.inl rfl) e⟩
 | xd fs=>obtain ⟨mA,⟨od,es,ep,e,c⟩,r⟩:=x;exact ⟨mA,⟨od,es,ep,k _ _ (.inl rfl) e,c⟩,r⟩
 | rng lo hi=>obtain ⟨t,u,v,e⟩:=x;exact ⟨t,u,v,k _ _ (.inl rfl) e⟩
 | bC ob u ih=>obtain ⟨e,q⟩:=x;exact ⟨k _ _ (.inl rfl) e,ih q⟩
 | aV ps =>
  have e:h.get? a=some { cls := .none,data := .fields ps }:=x
  show h'.get? a=some { cls := .none,data := .fields ps }
  exact k a _ (.inl rfl) e
 | met f y =>
  have e:h.get? a=some (W.methodObj (.ref f) (.ref y)):=x
  show h'.get? a=some (W.methodObj (.ref f) (.ref y))
  exact k a _ (.inl rfl) e
 | ext φ=>obtain ⟨p,⟨o,e⟩,st⟩:=x;exact ⟨st _ _ p fun o q=>k _ _ (.inl rfl) q,⟨o,k _ _ (.inl rfl) e⟩,st⟩
theorem aY.lt (x:aY P w H h) (e:H a=some o):a<h.objs.size:=(x a o e).lt
theorem aY.fresh (x:aY P w H h) (e:h.objs.size<=a):H a=none:=by
 cases q:H a with
 | none=>rfl
 | some u=>exact absurd (Nat.lt_of_lt_of_le (x.lt q) e) (Nat.lt_irrefl _)
theorem aY.kept (x:aY P w H h) (k:∀ b u,h.get? b=some u->h'.get? b=some u):aY P w H h':=fun a o e =>
 (x a o e).stay (fun b u _ q=>k b u q) (fun _ q=>q) fun _ _ q=>q
theorem aY.laid (x:aY P w H h) (k:∀ b u,h.get? b=some u->h'.get? b=some u) (hp:h.objs.size<=a) (new:YN P w (upd H a o) h' a o):aY P w (upd H a o) h':=fun b u e=>by
 have hn:=x.fresh hp;by_cases hb:b=a
 ·subst hb;rw [Yb] at e;cases e;exact new
 ·rw [Yg hb] at e
  exact (x b u e).stay (fun c v _ q=>k c v q) (fun c q=>by rw [Yg (Ym q hn)];exact q) fun c xs q=>by rw [Yg (Ym q hn)];exact q
end
def Rd (H:Hp) (a:Addr) (u:HO):Prop:=H a=some u\/∃ o,H a=some (.bC o u)
theorem Rd.ok {P:Program} {w:World} {H:Hp} {h:Heap} {a:Addr} {u:HO} (r:Rd H a u) (x:aY P w H h):YN P w H h a u:=by
 rcases r with r | ⟨o,r⟩
 ·exact x a u r
 ·obtain ⟨_,q⟩:=x a _ r
  exact q
def rP:Option HO->Prop
 | some (.lst _)=>True
 | some (.dK _)=>True
 | some (.dT _)=>True
 | some (.set _ _)=>True
 | some (.ins _ _ _)=>True
 | some (.ext _)=>True
 | _=>False
section
variable {P:Program} {w:World} {H:Hp} {h h':Heap} {x e:Addr} {o':HO}
theorem aY.write (ok:aY P w H h) (mu:rP (H x)) (he:e=x\/H e=some (.own x)) (k:∀ b u,b≠e->h.get? b=some u->h'.get? b=some u) (heo:∃ u,h'.get? e=some u)
  (new:YN P w (upd H x o') h' x o'):aY P w (upd H x o') h':=fun b u q=>by
 have vI:∀ c y,H c=some (.own y)->c≠x:=fun c y r z=>by subst z;rw [r] at mu;exact mu
 have Kv:∀ c xs,H c=some (.tup xs)->c≠x:=fun c xs r z=>by subst z;rw [r] at mu;exact mu
 by_cases hb:b=x
 ·subst hb;rw [Yb] at q;cases q;exact new
 ·rw [Yg hb] at q
  by_cases hbe:b=e
  ·have q':H b=some (.own x):=by
    rcases he with z | z
    ·exact absurd (hbe.trans z) hb
    ·rw [hbe];exact z
   rw [q] at q';cases q'
   obtain ⟨v,hv⟩:=heo;exact ⟨v,by rw [hbe];exact hv⟩
  ·refine (ok b u q).stay (fun c v hc r=>k c v ?_ r) (fun c r=>by rw [Yg (vI c b r)];exact r) fun c xs r=>by rw [Yg (Kv c xs r)];exact r
   rcases hc with rfl | hc
   ·exact hbe
   ·rintro rfl
    rcases he with z | z
    ·exact vI c b hc z
    ·rw [hc] at z;cases z;exact hb rfl
end
structure Un (fs ex:List Addr) (H H':Hp) (h h':Heap):Prop where
 keep:∀ b o,h.get? b=some o->H b=none->b∉fs->b∉ex->h'.get? b=some o
 slot:∀ b o,h.get? b=some o->H b=none->b∈fs->b∉ex->∃ sl,h'.get? b=some { o with slots:=sl }
 free:∀ b o,h.get? b=some o->H b=none->b∉ex->H' b=none
 there:∀ b o,h.get? b=some o->b∉ex->∃ o',h'.get? b=some o'
 tups:∀ b xs,H b=some (.tup xs)->H' b=some (.tup xs)
 bx:∀ b o u,H b=some (.bC o u)->H' b=some (.bC o u)
 bI:∀ b ps,H b=some (.aV ps)->∃ more,H' b=some (.aV (ps++more))
section
variable {fs fs' ex ex':List Addr} {H H1 H2:Hp} {h h1 h2 h':Heap} {a x e:Addr} {o:HO}
theorem Un.any (u:Un fs ex H H1 h h1) {b:Addr} {ob:Obj} (q:h.get? b=some ob) (n:H b=none) (hx:b∉ex):∃ sl,h1.get? b=some { ob with slots:=sl }:=by
 by_cases hb:b∈fs
 ·exact u.slot b ob q n hb hx
 ·exact ⟨ob.slots,u.keep b ob q n hb hx⟩
theorem Un.kept (k:∀ b u,h.get? b=some u->h'.get? b=some u):Un fs ex H H h h' :=
 ⟨fun b ob q _ _ _=>k b ob q,fun b ob q _ _ _=>⟨ob.slots,k b ob q⟩,fun _ _ _ n _=>n,fun b ob q _=>⟨ob,k b ob q⟩,fun _ _ q=>q,fun _ _ _ q=>q,fun _ ps q=>⟨#[],by rw [q];simp⟩⟩
theorem Un.refl:Un fs ex H H h h:=Un.kept fun _ _ q=>q
theorem Un.laid (k:∀ b u,h.get? b=some u->h'.get? b=some u) (hp:h.objs.size<=a) (hn:H a=none):Un fs ex H (upd H a o) h h' where
 keep:=fun b u q _ _ _=>k b u q
 slot:=fun b u q _ _ _=>⟨u.slots,k b u q⟩
 free:=fun b u q n _=>by rw [Yg (Nat.ne_of_lt (Nat.lt_of_lt_of_le (Heap.lt_size q) hp))];exact n
 there:=fun b u q _=>⟨u,k b u q⟩
 tups:=fun b xs q=>by rw [Yg (Ym q hn)];exact q
 bx:=fun b u xs q=>by rw [Yg (Ym q hn)];exact q
 bI:=fun b ps q=>⟨#[],by rw [Yg (Ym q hn),q];simp⟩
theorem Un.write (mu:rP (H x)) (he:e=x\/H e=some (.own x)) (k:∀ b u,b≠e->h.get? b=some u->h'.get? b=some u) (heo:∃ u,h'.get? e=some u):Un fs ex H (upd H x o) h h':=by
 have hx:∀ b,H b=none->b≠x:=fun b n z=>by subst z;rw [n] at mu;exact mu
 have hb:∀ b,H b=none->b≠e:=fun b n z=>by
  subst z;rcases he with r | r
  ·exact hx b n r
  ·rw [n] at r;cases r
 have hm:∀ b u,H b=some u->¬ rP (some u)->b≠x:=fun b u q nm z=>by subst z;rw [q] at mu;exact nm mu
 refine ⟨fun b u q n _ _=>k b u (hb b n) q,fun b u q n _ _=>⟨u.slots,k b u (hb b n) q⟩,fun b u q n _=>by rw [Yg (hx b n)];exact n,fun b u q _=>?_,
  fun b xs q=>by rw [Yg (hm b _ q fun z=>z)];exact q,fun b u xs q=>by rw [Yg (hm b _ q fun z=>z)];exact q,fun b ps q=>⟨#[],by rw [Yg (hm b _ q fun z=>z),q];simp⟩⟩
 by_cases hbe:b=e
 ·subst hbe;exact heo
 ·exact ⟨u,k b u hbe q⟩
end
def rQ (h:Heap) (H:Hp):List Addr:=(List.range h.objs.size).filter fun a=>(H a).isSome
def WJ (h:Heap) (H:Hp):Heap:=W.hideAll h (rQ h H)
theorem Mz (h:Heap) (H:Hp):(WJ h H).objs.size=h.objs.size:=W.hideAll_size _ _
theorem MF {h:Heap} {H:Hp} {b:Addr} {o:Obj} (e:h.get? b=some o) (n:H b=none):(WJ h H).get? b=some o :=
 W.hideAll_get _ e fun hm=>by
  have q:(H b).isSome=true:=(List.mem_filter.mp hm).2;rw [n] at q;simp at q
theorem MJ {h:Heap} {H:Hp} {b:Addr} {o:Obj} (e:(WJ h H).get? b=some o):h.get? b=some o/\H b=none:=by
 have e':h.get? b=some o:=W.of_hideAll (rQ h H) e;refine ⟨e',?_⟩
 cases q:H b with
 | none=>rfl
 | some x =>
  have hm:b∈rQ h H:=List.mem_filter.mpr ⟨List.mem_range.mpr (Heap.lt_size e'),by simp [q]⟩;have z:(WJ h H).get? b=none:=W.hideAll_none (rQ h H) hm;rw [z] at e;cases e
def MK (g h:Heap) (L:Addr):List (Addr×Obj):=(List.range h.objs.size).filterMap fun a=>if a=L\/(g.get? a).isSome=true then none else (h.get? a).map fun o=>(a,o)
def rest (g h:Heap) (L d:Addr):List (Addr×Obj):=(MK g h L).filter fun p=>decide (p.1≠d)
structure Mod (K:W.Frag) (mg:Str->Option Value) (base:Heap):Prop where
 dX:K.In base
 glob:base.Ns mainGlobals mg
 blt:∃ mb,base.Ns builtinsNs mb/\∀ x:Str,x≠"__name__"->mb x=bootBuiltins x
 nolimit:base.NoLimit
structure Cx where
 prog:Program
 w:World
 K:W.Frag
 mg:Str->Option Value
 base:Heap
 A:Around
 N:List Str
 s₀:Shared
 H₀:Hp
 env:Env
 outer:List Env
 stack:List Env
 ex:List Addr
 fn:Str->Bool
 calm:Bool
 pn:List (Addr×Obj)
 xe:Value->Shared->Prop
def frs (l:List Env):List Addr:=l.filterMap (·.frame)
abbrev Cx.fs (X:Cx):List Addr:=frs X.outer
def oU (sc:Scope) (x:Str):Prop:=sc.names.lookup x=some .local\/sc.names.lookup x=some .cell\/sc.names.lookup x=some .free
def Loc (sc:Scope) (x:Str):Prop:=sc.names.lookup x=some .local\/sc.names.lookup x=some .cell
def Look (env:Env) (h:Heap) (m:Str->Option Value) (x:Str) (u:Value):Prop :=
 (env.kindOf x=some .local/\m x=some u)\/((env.kindOf x=some .cell\/env.kindOf x=some .free)/\∃ c,env.cells.lookup x=some c/\h.IsCell c (some u))
structure Cx.Ok (X:Cx):Prop where
 mod:Mod X.K X.mg X.base
 kind:X.env.scope.kind = .function
 glob:X.env.globals=mainGlobals
 blt:X.env.builtins=builtinsNs
 above:X.s₀.heap.objs.size<=X.env.locals
 inj:∀ x y c,X.env.cells.lookup x=some c->X.env.cells.lookup y=some c->x=y
 has:∀ x,(X.env.kindOf x=some .cell\/X.env.kindOf x=some .free)->∃ c,X.env.cells.lookup x=some c
 cab:∀ x c,X.fn x=true->X.env.cells.lookup x=some c->X.s₀.heap.objs.size<=c
 hd:X.calm=true->X.A.handled=none
 frames:X.A.frames=some X.stack
 stk:X.stack=X.outer\/(X.stack=X.env::X.outer/\X.env.frame=some X.env.locals)
 rR:∀ b∈X.ex,b≠X.env.locals/\∀ x c,X.env.cells.lookup x=some c->c≠b
 bs:∀ b o,X.base.get? b=some o->X.s₀.heap.get? b=some o/\X.H₀ b=none
 dO:X.base.objs.size<=X.s₀.heap.objs.size
 gk:∀ b o,X.base.get? b=some o->b∉X.ex
 iI:∀ b∈X.ex,b∉X.fs
 bN:X.s₀.heap.FunFrames X.base X.outer
 dY:∀ b∈X.fs,X.H₀ b=none
structure Inv (X:Cx) (pins:List (Addr×Obj)) (σ:List (Option V)) (H:Hp) (s:Shared):Prop where
 ok:X.Ok
 os:s.os=X.s₀.os
 bare:AllBare s.gens
 base:Un X.fs X.ex X.H₀ H X.s₀.heap s.heap
 loc:∃ m,s.heap.Ns X.env.locals m/\∀ (i:Nat) (x:Str) (v:V),X.N[i]?=some x->σ[i]?=some (some v)->oU X.env.scope x->∃ u,Yw v u/\Look X.env s.heap m x u
 cell:∀ x c,X.env.cells.lookup x=some c->∃ v,s.heap.IsCell c v
 free:H X.env.locals=none
 aX:∀ x c,X.env.cells.lookup x=some c->H c=none
 pin:∀ p∈X.pn++pins,s.heap.get? p.1=some p.2/\H p.1=none/\p.1≠X.env.locals/\p.1∉X.fs/\∀ v,p.2.data ≠ .cell v
 hok:aY X.prog X.w H s.heap
 len:σ.length=X.N.length
section
variable {X:Cx} {pins:List (Addr×Obj)} {σ:List (Option V)} {H H':Hp} {s:Shared} {h':Heap}
theorem Cx.Ok.Kw (ok:X.Ok) {b:Addr} {o:Obj} (e:X.base.get? b=some o):b∉X.fs:=fun hb=>by
 have:=(ok.bN.mem hb).1;rw [e] at this;cases this
theorem Inv.bs (I:Inv X pins σ H s):∀ b o,X.base.get? b=some o->s.heap.get? b=some o/\H b=none:=fun b o e =>
 ⟨I.base.keep b o (I.ok.bs b o e).1 (I.ok.bs b o e).2 (I.ok.Kw e) (I.ok.gk b o e),I.base.free b o (I.ok.bs b o e).1 (I.ok.bs b o e).2 (I.ok.gk b o e)⟩
theorem Inv.bk (I:Inv X pins σ H s):∀ b o,X.base.get? b=some o->s.heap.get? b=some o:=fun b o e=>(I.bs b o e).1
theorem Inv.mod (I:Inv X pins σ H s):Mod X.K X.mg X.base:=I.ok.mod
theorem Inv.aR (I:Inv X pins σ H s):X.K.In s.heap:=I.ok.mod.dX.keeps I.bk
theorem Inv.lt (I:Inv X pins σ H s):X.env.locals<s.heap.objs.size:=let ⟨_,hn,_⟩:=I.loc;hn.lt
theorem Inv.sz (I:Inv X pins σ H s):X.s₀.heap.objs.size<=s.heap.objs.size:=Nat.le_trans I.ok.above (Nat.le_of_lt I.lt)
theorem Inv.Ky (I:Inv X pins σ H s) {a:Addr} (h:s.heap.objs.size<=a):a∉X.fs:=fun hb=>by
 obtain ⟨_,o,ho,_⟩:=I.ok.bN.mem hb;exact absurd (Nat.lt_of_lt_of_le (Heap.lt_size ho) (Nat.le_trans I.sz h)) (Nat.lt_irrefl _)
theorem Inv.iR (I:Inv X pins σ H s):∀ x c,X.env.cells.lookup x=some c->c≠X.env.locals:=fun x c e z=>by
 obtain ⟨v,o,ho,hd⟩:=I.cell x c e;obtain ⟨m,⟨o',es,ep,ho',hd',_⟩,_⟩:=I.loc;rw [z,ho'] at ho;cases ho;rw [hd'] at hd;cases hd
theorem Inv.bN (I:Inv X pins σ H s):s.heap.FunFrames X.base X.outer:=by
 have all:∀ (l:List Env),(∀ b∈frs l,b∈X.fs)->X.s₀.heap.FunFrames X.base l->s.heap.FunFrames X.base l:=by
  intro l
  induction l with
  | nil=>intro _ _;trivial
  | cons env r ih =>
   intro hs hl;obtain ⟨hk,⟨L,o,hf,hn,ho,hd⟩,hr⟩:=hl;have hL:L∈X.fs:=hs L (by unfold frs;rw [List.filterMap_cons,hf];exact List.mem_cons_self);obtain ⟨sl,e⟩:=I.base.slot L o ho (I.ok.dY L hL) hL fun z=>I.ok.iI L z hL
   exact ⟨hk,⟨L,_,hf,hn,e,hd⟩,ih (fun b hb=>hs b (by unfold frs;rw [List.filterMap_cons,hf];exact List.mem_cons_of_mem _ hb)) hr⟩
 exact all X.outer (fun _ hb=>hb) I.ok.bN
theorem Inv.stack (I:Inv X pins σ H s):s.heap.FunFrames X.base X.stack:=by
 rcases I.ok.stk with e | ⟨e,hf⟩
 ·rw [e];exact I.bN
 ·rw [e]
  obtain ⟨m,hn,_⟩:=I.loc;refine .cons (by rw [I.ok.kind];decide) hf hn ?_ I.bN;exact Heap.get?_none_of_le (Nat.le_trans I.ok.dO I.ok.above)
theorem Inv.fj (I:Inv X pins σ H s):∀ b∈frs X.stack,b∈X.env.locals::X.fs:=fun b hb=>by
 rcases I.ok.stk with e | ⟨e,hf⟩
 ·rw [e] at hb;exact List.mem_cons_of_mem _ hb
 ·rw [e] at hb
  unfold frs at hb;rw [List.filterMap_cons,hf] at hb
  exact hb
theorem Inv.dZ (I:Inv X pins σ H s):∀ b∈frs X.stack,H b=none:=fun b hb=>by
 rcases List.mem_cons.mp (I.fj b hb) with e | hb
 ·rw [e];exact I.free
 ·obtain ⟨_,o,ho,_⟩:=I.ok.bN.mem hb
  exact I.base.free b o ho (I.ok.dY b hb) fun z=>I.ok.iI b z hb
theorem Inv.step {g':Array GenState} {t':Nat} {d':Drawn} {ch:List Addr} (I:Inv X pins σ H s)
  (hch:∀ b∈ch,(b∈X.ex\/X.s₀.heap.objs.size<=b)/\b≠X.env.locals/\(∀ x c,X.env.cells.lookup x=some c->c≠b)/\∀ p∈X.pn++pins,p.1≠b)
  (keep:∀ b o,b≠X.env.locals->b∉X.fs->b∉ch->s.heap.get? b=some o->H b=none->h'.get? b=some o)
  (slot:∀ b o,b≠X.env.locals->b∈X.fs->b∉ch->s.heap.get? b=some o->H b=none->∃ sl,h'.get? b=some { o with slots:=sl }) (free:∀ b o,b∉ch->s.heap.get? b=some o->H b=none->H' b=none)
  (there:∀ b o,b∉ch->s.heap.get? b=some o->∃ o',h'.get? b=some o')
  (tups:∀ b xs,H b=some (.tup xs)->H' b=some (.tup xs)) (bx:∀ b o u,H b=some (.bC o u)->H' b=some (.bC o u)) (bI:∀ b ps,H b=some (.aV ps)->∃ more,H' b=some (.aV (ps++more)))
  (ns:∀ m,s.heap.Ns X.env.locals m->h'.Ns X.env.locals m) (hok:aY X.prog X.w H' h') (hg:AllBare g') :
  Inv X pins σ H' { s with heap:=h',gens:=g',drawn:=d',toks:=t' }:=by
 have Dk:∀ b o,X.s₀.heap.get? b=some o->b≠X.env.locals:=fun b o e=>Nat.ne_of_lt (Nat.lt_of_lt_of_le (Heap.lt_size e) I.ok.above)
 have rT:∀ b o,X.s₀.heap.get? b=some o->b∉X.ex->b∉ch:=fun b o e hx hb=>by
  rcases (hch b hb).1 with z | z
  ·exact hx z
  ·exact absurd (Nat.lt_of_lt_of_le (Heap.lt_size e) z) (Nat.lt_irrefl _)
 have cellK:∀ x c,X.env.cells.lookup x=some c->∀ v,s.heap.IsCell c v->h'.IsCell c v:=fun x c e v ⟨o,ho,hd⟩=>by
  have oV:c∉ch:=fun z=>(hch c z).2.2.1 x c e rfl
  by_cases hc:c∈X.fs
  ·obtain ⟨sl,q⟩:=slot c o (I.iR x c e) hc oV ho (I.aX x c e)
   exact ⟨_,q,hd⟩
  ·exact ⟨o,keep c o (I.iR x c e) hc oV ho (I.aX x c e),hd⟩
 refine ⟨I.ok,I.os,hg,⟨fun b o e n hb hx=>?_,fun b o e n hb hx=>?_,fun b o e n hx=>?_,fun b o e hx=>?_,fun b xs e=>tups b xs (I.base.tups b xs e),fun b o xs e=>bx b o xs (I.base.bx b o xs e),fun b ps e=>?_⟩,?_,fun x c e=>?_,?_,fun x c e=>?_,fun p hp=>?_,hok,I.len⟩
 ·exact keep b o (Dk b o e) hb (rT b o e hx) (I.base.keep b o e n hb hx) (I.base.free b o e n hx)
 ·obtain ⟨sl,e1⟩:=I.base.slot b o e n hb hx
  obtain ⟨sl',e2⟩:=slot b _ (Dk b o e) hb (rT b o e hx) e1 (I.base.free b o e n hx);exact ⟨sl',e2⟩
 ·obtain ⟨o',e1⟩:=I.base.there b o e hx
  exact free b o' (rT b o e hx) e1 (I.base.free b o e n hx)
 ·obtain ⟨o',e1⟩:=I.base.there b o e hx
  exact there b o' (rT b o e hx) e1
 ·obtain ⟨m1,e1⟩:=I.base.bI b ps e
  obtain ⟨m2,e2⟩:=bI b _ e1;exact ⟨m1++m2,by rw [e2,Array.append_assoc]⟩
 ·obtain ⟨m,hn,hl⟩:=I.loc
  refine ⟨m,ns m hn,fun i x v e1 e2 e3=>?_⟩;obtain ⟨u,r,l⟩:=hl i x v e1 e2 e3;refine ⟨u,r,?_⟩;rcases l with l | ⟨k,c,e,z⟩
  ·exact .inl l
  ·exact .inr ⟨k,c,e,cellK x c e _ z⟩
 ·obtain ⟨v,z⟩:=I.cell x c e
  exact ⟨v,cellK x c e v z⟩
 ·obtain ⟨m,⟨o,_,_,ho,_⟩,_⟩:=I.loc
  exact free _ o (fun z=>(hch _ z).2.1 rfl) ho I.free
 ·obtain ⟨v,o,ho,hd⟩:=I.cell x c e
  exact free c o (fun z=>(hch c z).2.2.1 x c e rfl) ho (I.aX x c e)
 ·obtain ⟨e,n,ne,nf,d⟩:=I.pin p hp
  have oV:p.1∉ch:=fun z=>(hch p.1 z).2.2.2 p hp rfl
  exact ⟨keep p.1 p.2 ne nf oV e n,free p.1 p.2 oV e n,ne,nf,d⟩
theorem Inv.un {t':Nat} (I:Inv X pins σ H s) (u:Un X.fs [] H H' s.heap h') (hok:aY X.prog X.w H' h'):Inv X pins σ H' { s with heap:=h',toks:=t' }:=by
 obtain ⟨m,⟨o,es,ep,ho,r⟩,_⟩:=id I.loc;obtain ⟨sl,hL⟩:=u.any ho I.free (by simp);exact I.step (g':=s.gens) (d':=s.drawn) (ch:=[]) (fun _ z=>nomatch z) (fun b o _ hb _ e n=>u.keep b o e n hb (by simp)) (fun b o _ hb _ e n=>u.slot b o e n hb (by simp)) (fun b o _ e n=>u.free b o e n (by simp)) (fun b o _ e=>u.there b o e (by simp)) u.tups u.bx u.bI (fun m' hm=>by
  obtain ⟨o',es',ep',ho',r'⟩:=hm;rw [ho] at ho';cases ho'
  exact ⟨_,es',ep',hL,r'⟩) hok I.bare
theorem Inv.call {g':Array GenState} {t':Nat} {d':Drawn} {ch:List Addr} (I:Inv X pins σ H s) (u:Un (frs X.stack) ch H H' s.heap h') (hok:aY X.prog X.w H' h') (hg:AllBare g')
  (hch:∀ b∈ch,(b∈X.ex\/X.s₀.heap.objs.size<=b)/\b≠X.env.locals/\(∀ x c,X.env.cells.lookup x=some c->c≠b)/\∀ p∈X.pn++pins,p.1≠b) :
  Inv X pins σ H' { s with heap:=h',gens:=g',drawn:=d',toks:=t' }:=by
 obtain ⟨m,⟨o,es,ep,ho,r⟩,_⟩:=id I.loc;obtain ⟨sl,hL⟩:=u.any ho I.free fun z=>(hch _ z).2.1 rfl
 exact I.step (ch:=ch) hch (fun b o hL hb hc e n=>u.keep b o e n (fun z=>(List.mem_cons.mp (I.fj b z)).elim hL hb) hc) (fun b o _ _ hc e n=>u.any e n hc) (fun b o hc e n=>u.free b o e n hc) (fun b o hc e=>u.there b o e hc) u.tups u.bx u.bI (fun m' hm=>by
  obtain ⟨o',es',ep',ho',r'⟩:=hm;rw [ho] at ho';cases ho'
  exact ⟨_,es',ep',hL,r'⟩) hok hg
theorem Inv.turned {t':Nat} {it:Addr} (I:Inv X pins σ H s) (k:∀ b o,b≠it->s.heap.get? b=some o->h'.get? b=some o) (hn:H it=none) (hL:it≠X.env.locals)
  (h1:it∈X.ex\/X.s₀.heap.objs.size<=it) (h2:∀ x c,X.env.cells.lookup x=some c->c≠it) (h3:∀ p∈X.pn++pins,p.1≠it):Inv X pins σ H { s with heap:=h',toks:=t' }:=by
 have fu:∀ b u,H b=some u->b≠it:=fun b u e z=>by rw [z,hn] at e;cases e
 refine I.step (g':=s.gens) (d':=s.drawn) (ch:=[it]) (fun b hb=>?_) (fun b o _ _ hc e _=>k b o (fun z=>hc (by simp [z])) e) (fun b o _ _ hc e _=>⟨o.slots,k b o (fun z=>hc (by simp [z])) e⟩) (fun _ _ _ _ n=>n)
  (fun b o hc e=>⟨o,k b o (fun z=>hc (by simp [z])) e⟩) (fun _ _ e=>e) (fun _ _ _ e=>e) (fun b ps e=>⟨#[],by rw [e];simp⟩) (fun m hm=>?_) (fun b u e=>?_) I.bare
 ·have e:b=it:=by simpa using hb
  subst e;exact ⟨h1,hL,h2,h3⟩
 ·obtain ⟨o,es,ep,ho,r⟩:=hm
  exact ⟨o,es,ep,k _ o (Ne.symm hL) ho,r⟩
 ·refine (I.hok b u e).stay (fun c v hc q=>k c v ?_ q) (fun _ q=>q) fun _ _ q=>q
  rcases hc with z | z
  ·rw [z];exact fu b u e
  ·exact fu c _ z
theorem Inv.tok (I:Inv X pins σ H s) (t:Nat):Inv X pins σ H { s with toks:=t }:=I.un (h':=s.heap) (t':=t) Un.refl I.hok
theorem Inv.kept {t':Nat} (I:Inv X pins σ H s) (k:∀ b u,s.heap.get? b=some u->h'.get? b=some u):Inv X pins σ H { s with heap:=h',toks:=t' }:=I.un (Un.kept k) (I.hok.kept k)
theorem Inv.laid {a:Addr} {o:HO} {t':Nat} (I:Inv X pins σ H s) (k:∀ b u,s.heap.get? b=some u->h'.get? b=some u) (hp:s.heap.objs.size<=a) (new:YN X.prog X.w (upd H a o) h' a o) :
  Inv X pins σ (upd H a o) { s with heap:=h',toks:=t' }:=I.un (Un.laid k hp (I.hok.fresh hp)) (I.hok.laid k hp new)
theorem Inv.write {x e:Addr} {o:HO} {t':Nat} (I:Inv X pins σ H s) (mu:rP (H x)) (he:e=x\/H e=some (.own x)) (k:∀ b u,b≠e->s.heap.get? b=some u->h'.get? b=some u) (heo:∃ u,h'.get? e=some u)
  (new:YN X.prog X.w (upd H x o) h' x o):Inv X pins σ (upd H x o) { s with heap:=h',toks:=t' }:=I.un (Un.write mu he k heo) (I.hok.write mu he k heo new)
theorem Inv.mj {eG:List (Addr×Obj)} (I:Inv X pins σ H s) (h:∀ p∈eG,s.heap.get? p.1=some p.2/\H p.1=none/\p.1≠X.env.locals/\p.1∉X.fs/\∀ v,p.2.data ≠ .cell v):Inv X eG σ H s :=
 ⟨I.ok,I.os,I.bare,I.base,I.loc,I.cell,I.free,I.aX,fun p hp=>(List.mem_append.mp hp).elim (fun z=>I.pin p (List.mem_append_left _ z)) (h p),I.hok,I.len⟩
theorem Dm {N:List Str} (hN:N.Nodup) {i j:Nat} {x:Str} (a:N[i]?=some x) (b:N[j]?=some x):i=j:=by
 obtain ⟨h1,e1⟩:=List.getElem?_eq_some_iff.mp a;obtain ⟨h2,e2⟩:=List.getElem?_eq_some_iff.mp b;exact (List.getElem_inj hN).mp (e1.trans e2.symm)
theorem MN {M:Model} {A:Around} {E:Value->Shared->Prop} {i:Nat} {x:Str} {v:V} {u:Value} {Q:Unit->Shared->Prop} (I:Inv X pins σ H s) (hN:X.N.Nodup) (hi:X.N[i]?=some x) (hx:Loc X.env.scope x) (r:Yw v u)
  (h:∀ s',Inv X pins (σ.set i (some v)) H s'->(∃ a,Heap.SameBut a s.heap s'.heap/\(a=X.env.locals\/X.env.cells.lookup x=some a))->Q () s') (hf:X.fn x=true\/X.env.scope.names.lookup x=some .local:=by first | exact .inl rfl | exact .inr rfl | assumption):wpAny M A (storeName X.env x u) Q E s:=by
 obtain ⟨m,hn,hl⟩:=id I.loc;have hcls:(X.env.scope.kind == .class||(X.env.scope.kind == .module&&X.env.locals != X.env.globals))=false:=by rw [I.ok.kind];rfl
 have vJ:i<σ.length:=by rw [I.len];exact (List.getElem?_eq_some_iff.mp hi).1
 have iR:=I.iR;have tracked:∀ {a:Addr} {h':Heap},(∃ o,s.heap.get? a=some o/\H a=none)->Heap.SameBut a s.heap h'->aY X.prog X.w H h':=fun {a h'} ha hs b ob e=>by
  obtain ⟨_,_,hfree⟩:=ha;refine (I.hok b ob e).stay (fun c w' hc q=>(hs.2 c ?_).trans q) (fun _ q=>q) fun _ _ q=>q
  rintro rfl;rcases hc with rfl | hc
  ·rw [hfree] at e;cases e
  ·rw [hfree] at hc;cases hc
 rcases hx with hk | hk
 ·refine wpAny_storeName_local hk hn (fun h' hn' hs=>?_) hcls
  obtain ⟨oL,_,_,hoL,_⟩:=id hn;refine h _ ⟨I.ok,I.os,I.bare,⟨fun b o e n hb hx=>?_,fun b o e n hb hx=>?_,I.base.free,fun b o e hx=>?_,I.base.tups,I.base.bx,I.base.bI⟩,⟨_,hn',fun j y v' e1 e2 e3=>?_⟩,fun y c e=>?_,I.free,I.aX,fun p hp=>?_,tracked ⟨oL,hoL,I.free⟩ hs,by simpa using I.len⟩ ⟨_,hs,.inl rfl⟩
  ·exact (hs.2 b (Nat.ne_of_lt (Nat.lt_of_lt_of_le (Heap.lt_size e) I.ok.above))).trans (I.base.keep b o e n hb hx)
  ·obtain ⟨sl,e1⟩:=I.base.slot b o e n hb hx
   exact ⟨sl,(hs.2 b (Nat.ne_of_lt (Nat.lt_of_lt_of_le (Heap.lt_size e) I.ok.above))).trans e1⟩
  ·obtain ⟨o',e1⟩:=I.base.there b o e hx
   exact ⟨o',(hs.2 b (Nat.ne_of_lt (Nat.lt_of_lt_of_le (Heap.lt_size e) I.ok.above))).trans e1⟩
  ·by_cases hj:j=i
   ·subst hj
    rw [hi] at e1;cases e1
    rw [List.getElem?_set_self vJ] at e2
    cases e2
    exact ⟨u,r,.inl ⟨hk,by simp⟩⟩
   ·rw [List.getElem?_set_ne (Ne.symm hj)] at e2
    obtain ⟨u',r',q⟩:=hl j y v' e1 e2 e3;refine ⟨u',r',?_⟩;rcases q with ⟨k,e⟩ | ⟨k,c,e,z⟩
    ·refine .inl ⟨k,?_⟩
     have:y≠x:=fun e=>hj (Dm hN e1 (e▸hi))
     simp [this,e]
    ·exact .inr ⟨k,c,e,z.sameBut hs (iR y c e)⟩
  ·obtain ⟨w',z⟩:=I.cell y c e
   exact ⟨w',z.sameBut hs (iR y c e)⟩
  ·obtain ⟨e,n,ne,nf,d⟩:=I.pin p hp
   exact ⟨(hs.2 p.1 ne).trans e,n,ne,nf,d⟩
 ·have hfn:X.fn x=true:=by
   rcases hf with z | z
   ·exact z
   ·rw [z] at hk;cases hk
  obtain ⟨c,hc⟩:=I.ok.has x (.inl hk);obtain ⟨w',z⟩:=I.cell x c hc;refine wpAny_storeName_cell I.ok.kind hk hc z (fun h' hc' hs=>?_);obtain ⟨oc,hoc,Kz⟩:=id z;refine h { s with heap:=h' } ⟨I.ok,I.os,I.bare,⟨fun b o e n hb hx=>?_,fun b o e n hb hx=>?_,I.base.free,fun b o e hx=>?_,I.base.tups,I.base.bx,I.base.bI⟩,⟨m,hn.sameBut hs (Ne.symm (iR x c hc)),fun j y v' e1 e2 e3=>?_⟩,fun y c' e=>?_,I.free,I.aX,fun p hp=>?_,tracked ⟨oc,hoc,I.aX x c hc⟩ hs,by simpa using I.len⟩ ⟨c,hs,.inr hc⟩
  ·exact (hs.2 b (Nat.ne_of_lt (Nat.lt_of_lt_of_le (Heap.lt_size e) (I.ok.cab x c hfn hc)))).trans (I.base.keep b o e n hb hx)
  ·obtain ⟨sl,e1⟩:=I.base.slot b o e n hb hx
   exact ⟨sl,(hs.2 b (Nat.ne_of_lt (Nat.lt_of_lt_of_le (Heap.lt_size e) (I.ok.cab x c hfn hc)))).trans e1⟩
  ·obtain ⟨o',e1⟩:=I.base.there b o e hx
   exact ⟨o',(hs.2 b (Nat.ne_of_lt (Nat.lt_of_lt_of_le (Heap.lt_size e) (I.ok.cab x c hfn hc)))).trans e1⟩
  ·by_cases hj:j=i
   ·subst hj
    rw [hi] at e1;cases e1
    rw [List.getElem?_set_self vJ] at e2
    cases e2
    exact ⟨u,r,.inr ⟨.inl hk,c,hc,hc'⟩⟩
   ·rw [List.getElem?_set_ne (Ne.symm hj)] at e2
    obtain ⟨u',r',q⟩:=hl j y v' e1 e2 e3;refine ⟨u',r',?_⟩;rcases q with q | ⟨k,c',e,z'⟩
    ·exact .inl q
    ·refine .inr ⟨k,c',e,z'.sameBut hs ?_⟩
     rintro rfl;exact hj (Dm hN e1 (I.ok.inj _ _ _ e hc▸hi))
  ·by_cases hcc:c'=c
   ·subst hcc;exact ⟨_,hc'⟩
   ·obtain ⟨w2,z2⟩:=I.cell y c' e
    exact ⟨w2,z2.sameBut hs hcc⟩
  ·obtain ⟨e,n,ne,nf,d⟩:=I.pin p hp
   refine ⟨(hs.2 p.1 ?_).trans e,n,ne,nf,d⟩;intro q;rw [q,hoc] at e
   have q':oc=p.2:=Option.some.inj e;exact d w' (by rw [<- q'];exact Kz)
theorem Uj {M:Model} {A:Around} {E:Value->Shared->Prop} {i:Nat} {x:Str} {v:V} {u:Value} {Q:Unit->Shared->Prop} (I:Inv X pins σ H s) (hN:X.N.Nodup) (hi:X.N[i]?=some x) (hx:Loc X.env.scope x) (r:Yw v u)
  (h:∀ s',Inv X pins (σ.set i (some v)) H s'->Q () s') (hf:X.fn x=true\/X.env.scope.names.lookup x=some .local:=by first | exact .inl rfl | exact .inr rfl | assumption):wpAny M A (storeName X.env x u) Q E s :=
 MN I hN hi hx r (fun s' I' _=>h s' I') hf
theorem Inv.call' {s':Shared} {ch:List Addr} (I:Inv X pins σ H s) (ho:s'.os=s.os) (u:Un (frs X.stack) ch H H' s.heap s'.heap) (hok:aY X.prog X.w H' s'.heap) (hg:AllBare s'.gens)
  (hch:∀ b∈ch,(b∈X.ex\/X.s₀.heap.objs.size<=b)/\b≠X.env.locals/\(∀ x c,X.env.cells.lookup x=some c->c≠b)/\∀ p∈X.pn++pins,p.1≠b):Inv X pins σ H' s':=by
 obtain ⟨h',g',d',t',o'⟩:=s';have e:o'=s.os:=ho;subst e;exact I.call (g':=g') (t':=t') (d':=d') u hok hg hch
end
abbrev XK:=Value->Option Addr->Hp->Prop
abbrev St:=List (Option V)
abbrev VK:=V->Hp->Prop
abbrev TE:=St->Hp->VK->Prop
abbrev TT:=St->Hp->(Bool->Hp->Prop)->Prop
abbrev TA:=St->Hp->(List V->Hp->Prop)->Prop
structure Ends where
 nx:St->Hp->Prop
 rt:VK
 bk:St->Hp->Prop:=fun _ _=>False
 ct:St->Hp->Prop:=fun _ _=>False
abbrev TS:=Ends->St->Hp->Prop
def EP (X:Cx) (pins:List (Addr×Obj)) (σ:St) (Q:VK) (u:Value) (s':Shared):Prop:=∃ v H',Inv X pins σ H' s'/\Yw v u/\Q v H'
def TP (X:Cx) (pins:List (Addr×Obj)) (σ:St) (Q:Bool->Hp->Prop) (b:Bool) (s':Shared):Prop:=∃ H',Inv X pins σ H' s'/\Q b H'
def AP (X:Cx) (pins:List (Addr×Obj)) (σ:St) (Q:List V->Hp->Prop) (us:List Value) (s':Shared):Prop:=∃ vs H',Inv X pins σ H' s'/\Yt vs us/\Q vs H'
def SP (X:Cx) (pins:List (Addr×Obj)) (D:Ends) (f:Flow) (s':Shared):Prop :=
 match f with
 | .next=>∃ σ' H',Inv X pins σ' H' s'/\D.nx σ' H'
 | .brk=>∃ σ' H',Inv X pins σ' H' s'/\D.bk σ' H'
 | .cont=>∃ σ' H',Inv X pins σ' H' s'/\D.ct σ' H'
 | .ret u=>∃ v σ' H',Inv X pins σ' H' s'/\Yw v u/\D.rt v H'
def PE (X:Cx) (e:Expr) (t:TE):Prop :=
 ∀ (pins:List (Addr×Obj)) (s:Shared) (σ:St) (H:Hp) (Q:VK),Inv X pins σ H s->t σ H Q->wpAny (model X.prog X.w) X.A (eval e X.env) (EP X pins σ Q) X.xe s
def PT (X:Cx) (e:Expr) (t:TT):Prop :=
 ∀ (pins:List (Addr×Obj)) (s:Shared) (σ:St) (H:Hp) (Q:Bool->Hp->Prop),Inv X pins σ H s->t σ H Q->wpAny (model X.prog X.w) X.A (isTrue e X.env (eval e X.env)) (TP X pins σ Q) X.xe s
def PW (X:Cx) (e:Expr) (t:TT):Prop :=
 ∀ (whole:Sem Value) (pins:List (Addr×Obj)) (s:Shared) (σ:St) (H:Hp) (Q:Bool->Hp->Prop),Inv X pins σ H s->t σ H Q->wpAny (model X.prog X.w) X.A (isTrue e X.env whole) (TP X pins σ Q) X.xe s
theorem PW.pt {X:Cx} {e:Expr} {t:TT} (h:PW X e t):PT X e t:=h _
def PA (X:Cx) (es:List Expr) (t:TA):Prop :=
 ∀ (pos:Pos) (pins:List (Addr×Obj)) (s:Shared) (σ:St) (H:Hp) (Q:List V->Hp->Prop),Inv X pins σ H s->t σ H Q->wpAny (model X.prog X.w) X.A (spliced (backTo pos (starEach es X.env))) (AP X pins σ Q) X.xe s
def PS (X:Cx) (st:Stmt) (t:TS):Prop :=
 ∀ (pins:List (Addr×Obj)) (s:Shared) (σ:St) (H:Hp) (D:Ends),Inv X pins σ H s->t D σ H->wpAny (model X.prog X.w) X.A (exec st X.env) (SP X pins D) X.xe s
def cD (X:Cx) (st:List Stmt) (t:TS):Prop :=
 ∀ (pins:List (Addr×Obj)) (s:Shared) (σ:St) (H:Hp) (D:Ends),Inv X pins σ H s->t D σ H->wpAny (model X.prog X.w) X.A (execs st X.env) (SP X pins D) X.xe s
theorem aM {α:Type} {t:Sem α} {Q Q':α->Shared->Prop} {M:Model} {A:Around} {E:Value->Shared->Prop} {s:Shared} (h:wpAny M A t Q E s) (hQ:∀ a s,Q a s->Q' a s):wpAny M A t Q' E s:=wpAny_mono h hQ fun _ _ x=>x
section
variable {X:Cx}
def kI (x:V) (k:Int->Prop):Prop:=match x with | .int i=>k i | _=>False
def kB (x:V) (k:Bool->Prop):Prop:=match x with | .bl i=>k i | _=>False
def kR (x:V) (k:Addr->Prop):Prop:=match x with | .ref i=>k i | _=>False
def k1 (l:List V) (k:V->Prop):Prop:=match l with | [x]=>k x | _=>False
def k2 (l:List V) (k:V->V->Prop):Prop:=match l with | [x,y]=>k x y | _=>False
theorem Dn (i:Int) (k:Int->Prop):kI (.int i) k=k i:=rfl
theorem Dp (i:Bool) (k:Bool->Prop):kB (.bl i) k=k i:=rfl
theorem Dq (i:Addr) (k:Addr->Prop):kR (.ref i) k=k i:=rfl
theorem Dr (x:V) (k:V->Prop):k1 [x] k=k x:=rfl
theorem Ds (x y:V) (k:V->V->Prop):k2 [x,y] k=k x y:=rfl
theorem U0 {x:V} {k:Int->Prop}:kI x k↔∃ i,x = .int i/\k i:=⟨fun h=>by cases x<;>first | exact ⟨_,rfl,h⟩ | exact h.elim,fun ⟨_,e,h⟩=>e▸h⟩
theorem Uk {x:V} {k:Bool->Prop}:kB x k↔∃ i,x = .bl i/\k i:=⟨fun h=>by cases x<;>first | exact ⟨_,rfl,h⟩ | exact h.elim,fun ⟨_,e,h⟩=>e▸h⟩
theorem W5 {x:V} {k:Addr->Prop}:kR x k↔∃ i,x = .ref i/\k i:=⟨fun h=>by cases x<;>first | exact ⟨_,rfl,h⟩ | exact h.elim,fun ⟨_,e,h⟩=>e▸h⟩
theorem vK {l:List V} {k:V->Prop} (h:k1 l k):∃ x,l=[x]/\k x:=by
 unfold k1 at h
 split at h
 ·exact ⟨_,rfl,h⟩
 ·exact h.elim
theorem KC {l:List V} {k:V->V->Prop} (h:k2 l k):∃ x y,l=[x,y]/\k x y:=by
 unfold k2 at h
 split at h
 ·exact ⟨_,_,rfl,h⟩
 ·exact h.elim
def fW:Nat->St->(V->Prop)->Prop
 | 0,σ,k=>match σ with | some v::_=>k v | _=>False
 | n+1,σ,k=>match σ with | _::l=>fW n l k | []=>False
theorem Dt (v:V) (l:St) (k:V->Prop):fW 0 (some v::l) k=k v:=rfl
theorem Du (n:Nat) (a:Option V) (l:St) (k:V->Prop):fW (n+1) (a::l) k=fW n l k:=rfl
theorem Dv:∀ {n:Nat} {σ:St} {k:V->Prop},fW n σ k->∃ v,σ[n]?=some (some v)/\k v
 | 0,σ,k,h=>by
  unfold fW at h
  split at h
  ·exact ⟨_,rfl,h⟩
  ·exact h.elim
 | n+1,σ,k,h=>by
  unfold fW at h
  split at h
  ·exact Dv (n:=n) h
  ·exact h.elim
theorem UA:∀ {n:Nat} {σ:St} {k:V->Prop} {v:V},σ[n]?=some (some v)->k v->fW n σ k
 | _,[],_,_,e,_=>by simp at e
 | 0,a::σ,k,v,e,h=>by
  have:a=some v:=by simpa using e
  subst this;exact h
 | n+1,a::σ,k,v,e,h=>UA (n:=n) (σ:=σ) (by simpa using e) h
def Wd (i:Nat):TE:=fun σ H Q=>fW i σ fun v=>Q v H
def tC (v:V):TE:=fun _ H Q=>Q v H
theorem vL {i:Nat} {x:Str} {pos:Pos} (hN:X.N[i]?=some x) (hv:oU X.env.scope x) (hd:(x==("__debug__":Str))=false:=by decide) (hcd:(x==("__classdict__":Str))=false:=by decide):PE X (.Name x pos) (Wd i):=by
 intro pins s σ H Q I h;obtain ⟨v,e,h⟩:=Dv h;obtain ⟨m,hn,hl⟩:=I.loc;obtain ⟨u,r,l⟩:=hl i x v hN e hv;have fin:EP X pins σ Q u s:=⟨v,H,I,r,h⟩;rcases l with ⟨hk,hm⟩ | ⟨hk,c,hc,hcell⟩
 ·exact wpAny_Name (wpAny_loadName_local I.ok.kind hk hn hm fin) hd
 ·rcases hk with hk | hk
  ·exact wpAny_Name (wpAny_loadName_cell I.ok.kind hk hc hcell fin) hd
  ·exact wpAny_Name (wpAny_loadName_free I.ok.kind hk hc hcell fin hcd) hd
theorem Yi {i j pos}:PE X (.Constant (.int i) j pos) (tC (.int i)):=fun _ _ _ H _ I h=>wpAny_Constant_int ⟨.int i,H,I.tok _,⟨_,rfl⟩,h⟩
theorem Xq {b j pos}:PE X (.Constant (.bool b) j pos) (tC (.bl b)):=fun _ _ _ H _ I h=>Constant_bool ⟨.bl b,H,I,rfl,h⟩
theorem Wo {j pos}:PE X (.Constant .none j pos) (tC .non):=fun _ _ _ H _ I h=>Constant_none ⟨.non,H,I,rfl,h⟩
theorem Yp {x j pos}:PE X (.Constant (.str x) j pos) (tC (.str x)):=fun _ _ _ H _ I h=>Calls.Constant_str ⟨.str x,H,I.tok _,⟨_,rfl⟩,h⟩
def Gl (X:Cx) (x:Str):Prop:=X.env.kindOf x=some .globalImplicit
theorem XC {E:Value->Shared->Prop} {pins:List (Addr×Obj)} {s:Shared} {σ:St} {H:Hp} {x:Str} {u:Value} {pos:Pos} {Q:Value->Shared->Prop} (I:Inv X pins σ H s) (hg:Gl X x) (hm:X.mg x=some u) (h:Q u s)
  (hd:(x==("__debug__":Str))=false:=by decide):wpAny (model X.prog X.w) X.A (eval (.Name x pos) X.env) Q E s :=
 Calls.Name_function_global I.ok.kind hg (Calls.loadGlobal_global (by rw [I.ok.glob];exact I.mod.glob.keeps I.bk) hm h) hd
theorem X4 {E:Value->Shared->Prop} {pins:List (Addr×Obj)} {s:Shared} {σ:St} {H:Hp} {x:Str} {u:Value} {pos:Pos} {Q:Value->Shared->Prop} (I:Inv X pins σ H s) (hg:Gl X x) (hm:X.mg x=none) (hv:bootBuiltins x=some u) (h:Q u s)
  (hn:x≠"__name__":=by decide) (hd:(x==("__debug__":Str))=false:=by decide):wpAny (model X.prog X.w) X.A (eval (.Name x pos) X.env) Q E s:=by
 obtain ⟨mb,h1,h2⟩:=I.mod.blt;exact Calls.Name_function_global I.ok.kind hg (Calls.loadGlobal_builtin (by rw [I.ok.glob];exact I.mod.glob.keeps I.bk) hm (by rw [I.ok.blt];exact h1.keeps I.bk) ((h2 x hn).trans hv) h) hd
theorem U3 {x:Str} {v:V} {u:Value} {pos:Pos} (hg:Gl X x) (hm:X.mg x=some u) (r:Yw v u) (hd:(x==("__debug__":Str))=false:=by decide):PE X (.Name x pos) (tC v) :=
 fun _ _ _ H _ I h=>XC I hg hm ⟨v,H,I,r,h⟩ hd
theorem MP {x:Str} {v:V} {u:Value} {pos:Pos} (hg:Gl X x) (hm:X.mg x=none) (hv:bootBuiltins x=some u) (r:Yw v u) (hn:x≠"__name__":=by decide) (hd:(x==("__debug__":Str))=false:=by decide):PE X (.Name x pos) (tC v) :=
 fun _ _ _ H _ I h=>X4 I hg hm hv ⟨v,H,I,r,h⟩ hn hd
variable {a b:Expr} {ta tb:TE} {pos:Pos}
def tB (t:TE):TT:=fun σ H Q=>t σ H fun x H1=>kB x fun c=>Q c H1
theorem Y0 {e:Expr} {t:TE} (h:PE X e t) (he:∀ whole,isTrue e X.env whole=(do let v <- whole;standAt e.pos;holding [v] (truthy v))):PT X e (tB t):=by
 intro pins s σ H Q I hw;refine isTrue_plain (aM (h pins s σ H _ I hw) fun v s1 ⟨x,H1,I1,r1,q1⟩=>?_) (he _);obtain ⟨d,rfl,q⟩:=Uk.mp q1
 cases r1
 exact wpAny_truthy_bool ⟨H1,I1,q⟩
variable {tA rW:TT} {rest:List Expr}
def qG (t u:TT):TT:=fun σ H Q=>t σ H fun c H1=>if c=true then u σ H1 Q else Q false H1
def vM (t u:TT):TT:=fun σ H Q=>t σ H fun c H1=>if c=true then Q true H1 else u σ H1 Q
def qH (t:TT):TT:=fun σ H Q=>t σ H fun c H1=>Q (!c) H1
theorem M4 (ha:PT X a tA):PW X (.BoolOp .And [a] pos) tA:=by
 intro wh pins s σ H Q I h;refine isTrue_and (aM (ha pins s σ H Q I h) fun c s1 e=>?_)
 cases c with
 | true=>exact isTrue_and_nil e
 | false=>exact e
theorem WK (ha:PT X a tA):PW X (.BoolOp .Or [a] pos) tA:=by
 intro wh pins s σ H Q I h;refine isTrue_or (aM (ha pins s σ H Q I h) fun c s1 e=>?_)
 cases c with
 | false=>exact isTrue_or_nil e
 | true=>exact e
theorem M5 (ha:PT X a tA) (hb:PW X (.BoolOp .And (b::rest) pos) rW):PW X (.BoolOp .And (a::b::rest) pos) (qG tA rW):=by
 intro wh pins s σ H Q I h;refine isTrue_and (aM (ha pins s σ H _ I h) fun c s1 ⟨H1,I1,q1⟩=>?_)
 cases c with
 | true=>exact hb wh pins s1 σ H1 Q I1 q1
 | false=>exact ⟨H1,I1,q1⟩
theorem Wz (ha:PT X a tA) (hb:PW X (.BoolOp .Or (b::rest) pos) rW):PW X (.BoolOp .Or (a::b::rest) pos) (vM tA rW):=by
 intro wh pins s σ H Q I h;refine isTrue_or (aM (ha pins s σ H _ I h) fun c s1 ⟨H1,I1,q1⟩=>?_)
 cases c with
 | true=>exact ⟨H1,I1,q1⟩
 | false=>exact hb wh pins s1 σ H1 Q I1 q1
theorem XG (ha:PT X a tA):PT X (.UnaryOp .Not a pos) (qH tA):=by
 intro pins s σ H Q I h;exact isTrue_not (ha pins s σ H (fun c H1=>Q (!c) H1) I h)
def vN (ta tb:TE):TE:=fun σ H Q=>ta σ H fun x H1=>kB x fun c=>if c=true then tb σ H1 Q else Q (.bl false) H1
def qI (ta tb:TE):TE:=fun σ H Q=>ta σ H fun x H1=>kB x fun c=>if c=true then Q (.bl true) H1 else tb σ H1 Q
def vO (ta:TE):TE:=fun σ H Q=>ta σ H fun x H1=>kB x fun c=>Q (.bl (!c)) H1
theorem Xa {op} {t:TE} (h:PE X a t):PE X (.BoolOp op [a] pos) t:=fun pins s σ H Q I hw=>BoolOp_one (h pins s σ H Q I hw)
theorem Xf (ha:PE X a ta) (hb:PE X (.BoolOp .And (b::rest) pos) tb):PE X (.BoolOp .And (a::b::rest) pos) (vN ta tb):=by
 intro pins s σ H Q I h;refine BoolOp_and (aM (ha pins s σ H _ I h) fun v s1 ⟨x,H1,I1,r1,q1⟩=>?_)
 replace q1:=Uk.mp q1
 obtain ⟨c,rfl,q1⟩:=q1
 cases r1
 refine wpAny_truthy_bool ?_
 cases c with
 | true=>exact hb pins s1 σ H1 Q I1 q1
 | false=>exact ⟨.bl false,H1,I1,rfl,q1⟩
theorem Dw (ha:PE X a ta) (hb:PE X (.BoolOp .Or (b::rest) pos) tb):PE X (.BoolOp .Or (a::b::rest) pos) (qI ta tb):=by
 intro pins s σ H Q I h;refine BoolOp_or (aM (ha pins s σ H _ I h) fun v s1 ⟨x,H1,I1,r1,q1⟩=>?_)
 replace q1:=Uk.mp q1
 obtain ⟨c,rfl,q1⟩:=q1
 cases r1
 refine wpAny_truthy_bool ?_
 cases c with
 | false=>exact hb pins s1 σ H1 Q I1 q1
 | true=>exact ⟨.bl true,H1,I1,rfl,q1⟩
theorem vP (ha:PE X a ta):PE X (.UnaryOp .Not a pos) (vO ta):=by
 intro pins s σ H Q I h;refine UnaryOp_ (aM (ha pins s σ H _ I h) fun v s1 ⟨x,H1,I1,r1,q1⟩=>?_)
 replace q1:=Uk.mp q1
 obtain ⟨c,rfl,q1⟩:=q1
 cases r1
 exact not_of (wpAny_truthy_bool ⟨.bl (!c),H1,I1,rfl,q1⟩)
def Dy (t:TT) (ta tb:TE):TE:=fun σ H Q=>t σ H fun c H1=>if c=true then ta σ H1 Q else tb σ H1 Q
end
def aJ (K:W.Frag) (H:Hp) (a:Addr) (xs:List V):Prop :=
 Rd H a (.lst xs) \/
  ∃ (o:Obj) (its:Array Value) (n:Nat),K.lookup a=some o/\o.cls = .type "list"/\o.dict=none/\o.data = .seq its n/\its.size<=sizeLine/\Yt xs its.toList
def aK (K:W.Frag) (H:Hp) (a:Addr) (xs:List V):Prop :=
 Rd H a (.tup xs) \/
  ∃ (o:Obj) (its:Array Value) (n:Nat),K.lookup a=some o/\o.cls = .type "tuple"/\o.data = .seq its n/\its.size<=sizeLine/\Yt xs its.toList
def KD:Value->Option V
 | .none=>some .non
 | .bool b=>some (.bl b)
 | .int i _=>some (.int i)
 | .str x _=>some (.str x)
 | .bytes b _=>some (.eU b)
 | .float b _=>some (.flt b)
 | .ref a=>some (.ref a)
 | .type n=>some (.ty n)
 | _=>none
theorem Yw.abs {x:V} {u:Value} (r:Yw x u):KD u=some x:=by
 cases x with
 | non=>cases r;rfl
 | bl _=>cases r;rfl
 | int _=>obtain ⟨t,rfl⟩:=r;rfl
 | str _=>obtain ⟨t,rfl⟩:=r;rfl
 | eU _=>obtain ⟨t,rfl⟩:=r;rfl
 | flt _=>obtain ⟨t,rfl⟩:=r;rfl
 | ref _=>cases r;rfl
 | ty _=>cases r;rfl
theorem Yw.inj {x y:V} {u:Value} (r:Yw x u) (q:Yw y u):x=y:=Option.some.inj (r.abs.symm.trans q.abs)
theorem Yt.inj:∀ {xs ys:List V} {us:List Value},Yt xs us->Yt ys us->xs=ys
 | _,_,_,.nil,.nil=>rfl
 | _,_,_,.cons r t,.cons r' t'=>by rw [r.inj r',Yt.inj t t']
section
variable {X:Cx} {pins:List (Addr×Obj)} {σ:St} {H:Hp} {s:Shared} {a:Addr} {xs ys:List V}
theorem aJ.of {K:W.Frag} (h:H a=some (.lst xs)):aJ K H a xs := .inl (.inl h)
theorem aK.of {K:W.Frag} (h:H a=some (.tup xs)):aK K H a xs := .inl (.inl h)
theorem Inv.list (I:Inv X pins σ H s) (h:aJ X.K H a xs):∃ its:List Value,Yt xs its/\PlainL s.heap a its.toArray/\xs.length<=sizeLine:=by
 rcases h with h | ⟨o,its,n,hk,hc,hd,hs,hz,r⟩
 ·obtain ⟨z,its,n,r,e⟩:=h.ok I.hok
  exact ⟨its,r,⟨_,n,e,rfl,rfl,rfl⟩,z⟩
 ·refine ⟨its.toList,r,⟨o,n,I.aR a o hk,hc,hd,by simpa using hs⟩,?_⟩
  have e:=r.length;simp only [Array.length_toList] at e;omega
theorem Inv.tuple (I:Inv X pins σ H s) (h:aK X.K H a xs):∃ its:List Value,Yt xs its/\IsTup s.heap a its.toArray/\xs.length<=sizeLine:=by
 rcases h with h | ⟨o,its,n,hk,hc,hs,hz,r⟩
 ·obtain ⟨z,its,r,p⟩:=h.ok I.hok
  exact ⟨its,r,p,z⟩
 ·refine ⟨its.toList,r,⟨o,I.aR a o hk,hc,n,by simpa using hs⟩,?_⟩
  have e:=r.length;simp only [Array.length_toList] at e;omega
theorem Inv.gn (I:Inv X pins σ H s) (h:aJ X.K H a xs) (h':aJ X.K H a ys):xs=ys:=by
 obtain ⟨its,r,⟨o,n,e,_,_,d⟩,_⟩:=I.list h;obtain ⟨its',r',⟨o',n',e',_,_,d'⟩,_⟩:=I.list h';rw [e] at e';cases e'
 rw [d] at d'
 injection d' with d1 _
 have:its=its':=by simpa using congrArg Array.toList d1
 subst this;exact r.inj r'
theorem Inv.iT (I:Inv X pins σ H s) (h:aK X.K H a xs) (h':aK X.K H a ys):xs=ys:=by
 obtain ⟨its,r,⟨o,e,_,n,d⟩,_⟩:=I.tuple h;obtain ⟨its',r',⟨o',e',_,n',d'⟩,_⟩:=I.tuple h';rw [e] at e';cases e'
 rw [d] at d'
 injection d' with d1 _
 have:its=its':=by simpa using congrArg Array.toList d1
 subst this;exact r.inj r'
end
abbrev Cx.wish (X:Cx) (E:Value->Shared->Prop):Cx:={ X with xe:=E }
abbrev Cx.bA (X:Cx):Cx:=X.wish fun _ _=>False
theorem Cx.Ok.wish {X:Cx} (ok:X.Ok) (E:Value->Shared->Prop):(X.wish E).Ok :=
 ⟨ok.mod,ok.kind,ok.glob,ok.blt,ok.above,ok.inj,ok.has,ok.cab,ok.hd,ok.frames,ok.stk,ok.rR,ok.bs,ok.dO,ok.gk,ok.iI,ok.bN,ok.dY⟩
theorem Cx.Ok.bO {X:Cx} {E:Value->Shared->Prop} (ok:(X.wish E).Ok):X.Ok :=
 ⟨ok.mod,ok.kind,ok.glob,ok.blt,ok.above,ok.inj,ok.has,ok.cab,ok.hd,ok.frames,ok.stk,ok.rR,ok.bs,ok.dO,ok.gk,ok.iI,ok.bN,ok.dY⟩
section
variable {X:Cx} {pins:List (Addr×Obj)} {σ:St} {H:Hp} {s:Shared} {E:Value->Shared->Prop}
theorem Inv.wish (I:Inv X pins σ H s) (E:Value->Shared->Prop):Inv (X.wish E) pins σ H s:=⟨I.ok.wish E,I.os,I.bare,I.base,I.loc,I.cell,I.free,I.aX,I.pin,I.hok,I.len⟩
theorem Inv.bO (I:Inv (X.wish E) pins σ H s):Inv X pins σ H s:=⟨I.ok.bO,I.os,I.bare,I.base,I.loc,I.cell,I.free,I.aX,I.pin,I.hok,I.len⟩
theorem SP.bO {D:Ends} {f:Flow} {s':Shared} (h:SP (X.wish E) pins D f s'):SP X pins D f s':=by
 cases f with
 | next=>obtain ⟨σ',H',I,q⟩:=h;exact ⟨σ',H',I.bO,q⟩
 | brk=>obtain ⟨σ',H',I,q⟩:=h;exact ⟨σ',H',I.bO,q⟩
 | cont=>obtain ⟨σ',H',I,q⟩:=h;exact ⟨σ',H',I.bO,q⟩
 | ret u=>obtain ⟨v,σ',H',I,r,q⟩:=h;exact ⟨v,σ',H',I.bO,r,q⟩
theorem cD.bA {st:List Stmt} {t:TS} (h:cD X.bA st t):cD X st t:=fun pins s σ H D I hw =>
 wpAny_mono (h pins s σ H D (I.wish _) hw) (fun _ _ q=>q.bO) fun _ _ z=>False.elim z
end
section
variable {X:Cx} {st:Stmt} {rest:List Stmt} {t u:TS} {e:Expr} {te:TE} {pos:Pos}
def UB:TS:=fun D σ H=>D.nx σ H
def Ul (t u:TS):TS:=fun D σ H=>t { D with nx:=u D } σ H
theorem Yl:cD X [] UB:=fun _ _ σ H _ I h=>wpAny_execs_nil ⟨σ,H,I,h⟩
theorem Yd (h1:PS X st t) (h2:cD X rest u):cD X (st::rest) (Ul t u):=by
 intro pins s σ H D I h;refine wpAny_execs_cons (aM (h1 pins s σ H { D with nx:=u D } I h) fun f s1 q=>?_)
 cases f with
 | next =>
  obtain ⟨σ',H',I',q⟩:=q;exact h2 pins s1 σ' H' D I' q
 | ret v=>exact q
 | brk=>exact q
 | cont=>exact q
theorem Ye (h1:PS X st t):cD X [st] t:=by
 intro pins s σ H D I h;refine wpAny_execs_cons (aM (h1 pins s σ H D I h) fun f s1 q=>?_)
 cases f with
 | next=>exact wpAny_execs_nil q
 | ret v=>exact q
 | brk=>exact q
 | cont=>exact q
def Dz:TS:=fun D σ H=>D.bk σ H
def DG:TS:=fun D σ H=>D.ct σ H
theorem Inv.quiet {pins:List (Addr×Obj)} {σ:St} {H:Hp} {s:Shared} (I:Inv X pins σ H s):interactive X.env=false:=by simp [interactive,I.ok.kind]
def Q0 (te:TE):TS:=fun D σ H=>te σ H fun _ H1=>D.nx σ H1
theorem Xk (he:PE X e te) (hs:swapsWith e none pos.line X.env=pure false:=by rfl):PS X (.Expr e pos) (Q0 te):=by
 intro pins s σ H D I h;exact wpAny_Expr_any (aM (he pins s σ H _ I h) fun v s1 ⟨x,H1,I1,r1,q1⟩=>⟨σ,H1,I1,q1⟩) I.quiet hs
def oW (te:TE):TS:=fun D σ H=>te σ H D.rt
theorem Yj (he:PE X e te):PS X (.Return (some e) pos) (oW te):=by
 intro pins s σ H D I h;exact wpAny_Return_some (aM (he pins s σ H _ I h) fun v s1 ⟨x,H1,I1,r1,q1⟩=>⟨x,σ,H1,I1,r1,q1⟩)
def DK:TS:=fun D _ H=>D.rt .non H
def oX (c:TT) (t u:TS):TS:=fun D σ H=>c σ H fun b H1=>if b=true then t D σ H1 else u D σ H1
theorem Yq {c:Expr} {a b:List Stmt} {tc:TT} (hc:PT X c tc) (ha:cD X a t) (hb:cD X b u):PS X (.If c a b pos) (oX tc t u):=by
 intro pins s σ H D I h;refine wpAny_If (aM (hc pins s σ H _ I h) fun d s1 ⟨H1,I1,q1⟩=>?_)
 cases d with
 | true=>exact ha pins s1 σ H1 D I1 q1
 | false=>exact hb pins s1 σ H1 D I1 q1
def vQ:TS:=fun _ _ _=>False
theorem YU:PS X st vQ:=fun _ _ _ _ _ _ h=>h.elim
end
abbrev TG:=V->St->Hp->(St->Hp->Prop)->Prop
abbrev jY:=List V->St->Hp->(St->Hp->Prop)->Prop
def PG (X:Cx) (target:Expr) (t:TG):Prop :=
 ∀ (pins:List (Addr×Obj)) (s:Shared) (σ:St) (H:Hp) (v:V) (u:Value) (Q:St->Hp->Prop),Inv X pins σ H s->Yw v u->t v σ H Q ->
  wpAny (model X.prog X.w) X.A (assign target X.env u) (fun _ s'=>∃ σ' H',Inv X pins σ' H' s'/\Q σ' H') X.xe s
def rY (X:Cx) (ts:List Expr) (t:jY):Prop :=
 ∀ (pins:List (Addr×Obj)) (s:Shared) (σ:St) (H:Hp) (vs:List V) (us:List Value) (Q:St->Hp->Prop),Inv X pins σ H s->Yt vs us->t vs σ H Q ->
  wpAny (model X.prog X.w) X.A (assignInOrder ((assignEach ts X.env).map (·.2)) us) (fun _ s'=>∃ σ' H',Inv X pins σ' H' s'/\Q σ' H') X.xe s
abbrev KH:=V->V->V->Hp->(Hp->Prop)->Prop
abbrev DN:=V->V->Hp->VK->Prop
section
variable {X:Cx} {pos:Pos}
def YJ (i:Nat):TG:=fun v σ H Q=>Q (σ.set i (some v)) H
theorem YK {i:Nat} {x:Str} (hN:X.N.Nodup) (hi:X.N[i]?=some x) (hx:Loc X.env.scope x) (hf:X.fn x=true\/X.env.scope.names.lookup x=some .local):PG X (.Name x pos) (YJ i):=by
 intro pins s σ H v u Q I r h;exact wpAny_assign_Name (Uj I hN hi hx r (fun s' I'=>⟨_,H,I',h⟩) hf)
def oY:jY:=fun vs σ H Q=>vs=[]/\Q σ H
def WX (t:TG) (u:jY):jY:=fun vs σ H Q=>∃ v r,vs=v::r/\t v σ H fun σ' H'=>u r σ' H' Q
theorem Va:rY X [] oY:=by
 intro pins s σ H vs us Q I r h;obtain ⟨e,h⟩:=h;subst e
 cases r
 exact assignInOrder_nil ⟨σ,H,I,h⟩
theorem Xo {e:Expr} {es:List Expr} {t:TG} {u:jY} (h1:PG X e t) (h2:rY X es u)
  (hs:(assignEach (e::es) X.env).map (·.2)=assign e X.env::(assignEach es X.env).map (·.2)):rY X (e::es) (WX t u):=by
 intro pins s σ H vs us Q I r h;obtain ⟨v,vr,e1,h⟩:=h;subst e1
 cases r with
 | cons r rr =>
  rw [hs];refine assignInOrder_cons (aM (h1 pins s σ H _ _ _ I r h) fun _ s1 ⟨σ1,H1,I1,q1⟩=>?_);exact h2 pins s1 σ1 H1 _ _ Q I1 rr q1
def U4 (K:W.Frag) (n:Nat) (t:jY):TG:=fun v σ H Q=>∃ a xs,v = .ref a/\aK K H a xs/\xs.length=n/\t xs σ H Q
theorem VD {es:List Expr} {k:Nat} {t:jY} {n:Nat} (hc:X.calm=true) (h:rY X es t)
  (hn:(assignEach es X.env).length=n) (hst:(assignEach es X.env).findIdx? (·.1)=none):PG X (.Tuple es k pos) (U4 X.K n t):=by
 intro pins s σ H v u Q I r hw;obtain ⟨a,xs,e1,hq,hl,hw⟩:=hw;subst e1
 cases r
 obtain ⟨its,rv,ht,hz⟩:=I.tuple hq;refine assign_Tuple_tuple (I.ok.hd hc) ht (by simp [hn,<- hl,rv.length]) hst fun h' hx=>?_
 have I1:Inv X pins σ H { s with heap:=h' }:=I.kept (t':=s.toks) fun b o e=>hx b o (Nat.ne_of_lt (Heap.lt_size e)) e
 exact h pins _ σ H xs _ Q I1 (by simpa using rv) hw
def vR (to ti:TE) (t:KH):TG:=fun v σ H Q=>to σ H fun o H1=>ti σ H1 fun i H2=>t o i v H2 fun H3=>Q σ H3
def qJ (te:TE) (g:TG):TS:=fun D σ H=>te σ H fun x H1=>g x σ H1 D.nx
theorem YD {i:Nat} {x:Str} {e:Expr} {te:TE} {pos':Pos} (hN:X.N.Nodup) (hi:X.N[i]?=some x) (hx:Loc X.env.scope x) (he:PE X e te) (hs:swapsWith e (some (.Name x pos')) pos.line X.env=pure false) (hf:X.fn x=true\/X.env.scope.names.lookup x=some .local) :
  PS X (.Assign [.Name x pos'] e pos) (qJ te (YJ i)):=by
 intro pins s σ H D I h;refine wpAny_Assign_Name (aM (he pins s σ H _ I h) fun v s1 ⟨y,H1,I1,r1,q1⟩=>?_) hs;exact Uj I1 hN hi hx r1 (fun s2 I2=>⟨_,H1,I2,q1⟩) hf
def vU (i:Nat) (te:TE) (ti:DN):TS:=fun D σ H=>fW i σ fun x=>te σ H fun y H1=>ti x y H1 fun z H2=>D.nx (σ.set i (some z)) H2
def DP (f:Int->Int->Int):DN:=fun x y H Q=>kI x fun i=>kI y fun j=>Q (.int (f i j)) H
theorem vV {x y:V} {k:Int->Int->Prop} (h:kI x fun i=>kI y fun j=>k i j):∃ i j,x = .int i/\y = .int j/\k i j:=by
 obtain ⟨i,e,h⟩:=U0.mp h;obtain ⟨j,e',h⟩:=U0.mp h;exact ⟨i,j,e,e',h⟩
def DQ (c:TT) (tb:TS):TS:=fun D σ H=>∃ W:Nat->St->Hp->Prop,(∃ m,W m σ H)/\∀ m σ H,W m σ H ->
 c σ H fun b H1=>if b=true then ∃ N:St->Hp->Prop,(∀ σ' H',N σ' H'->∃ m',m'<m/\W m' σ' H')/\tb { D with nx:=N,ct:=N,bk:=D.nx } σ H1 else D.nx σ H1
theorem DR {c:Expr} {body:List Stmt} {tc:TT} {tb:TS} (hp:PassesOwn (model X.prog X.w) X.A X.env X.xe) (hc:PT X c tc) (hb:cD X body tb):PS X (.While c body [] pos) (DQ tc tb):=by
 intro pins s σ H D I h;obtain ⟨W,⟨m0,w0⟩,turn⟩:=h;refine wpAny_While (codeAny_whileLoop (fun n s'=>∃ σ' H',Inv X pins σ' H' s'/\W n σ' H') ?_ m0 ⟨σ,H,I,w0⟩);rintro n s1 ⟨σ1,H1,I1,w1⟩;refine wpAny_passesOwn hp (aM (hc pins s1 σ1 H1 _ I1 (turn n σ1 H1 w1)) fun b s2 ⟨H2,I2,q2⟩=>?_)
 cases b with
 | true =>
  obtain ⟨N,hN,q2⟩:=q2;rw [if_pos rfl];refine wpAny_passesOwn hp (aM (hb pins s2 σ1 H2 _ I2 q2) fun f s3 q3=>?_)
  cases f with
  | next =>
   obtain ⟨σ3,H3,I3,n3⟩:=q3;obtain ⟨m',hm,w3⟩:=hN σ3 H3 n3;exact ⟨m',hm,σ3,H3,I3,w3⟩
  | cont =>
   obtain ⟨σ3,H3,I3,n3⟩:=q3;obtain ⟨m',hm,w3⟩:=hN σ3 H3 n3;exact ⟨m',hm,σ3,H3,I3,w3⟩
  | brk=>exact q3
  | ret v=>exact q3
 | false =>
  rw [if_neg Bool.false_ne_true];exact wpAny_execs_nil ⟨σ1,H2,I2,q2⟩
end
structure It where
 go:Nat->Hp->Prop
 jZ:Nat->Hp->V->Hp->Prop
 stop:Nat->Hp->Prop
def X5 (X:Cx) (pins:List (Addr×Obj)) (H:Hp) (b:Addr):Prop :=
 H b=none/\b≠X.env.locals/\b∉X.fs/\(b∈X.ex\/X.s₀.heap.objs.size<=b)/\(∀ x c,X.env.cells.lookup x=some c->c≠b)/\∀ p∈X.pn++pins,p.1≠b
theorem Inv.fB {X:Cx} {pins:List (Addr×Obj)} {σ:St} {H H':Hp} {s:Shared} {b:Addr} (I:Inv X pins σ H s) (hb:s.heap.objs.size<=b) (hn:H' b=none):X5 X pins H' b:=by
 refine ⟨hn,Nat.ne_of_gt (Nat.lt_of_lt_of_le I.lt hb),I.Ky hb,.inr (Nat.le_trans I.sz hb),fun x c e z=>?_,fun p hp z=>?_⟩
 ·obtain ⟨v,q⟩:=I.cell x c e
  exact absurd (Nat.lt_of_lt_of_le q.lt (by rw [z];exact hb)) (Nat.lt_irrefl _)
 ·exact absurd (Nat.lt_of_lt_of_le (Heap.lt_size (I.pin p hp).1) (by rw [z];exact hb)) (Nat.lt_irrefl _)
structure Turn (P:Program) (w:World) (K:W.Frag) (tg:Expr) (J:It) (fp:List Addr) (it:Addr) (tn:Nat->Heap->Prop):Prop where
 mem:it∈fp
 obj:∀ i h,tn i h->∀ b∈fp,∃ o,h.get? b=some o/\∀ v,o.data ≠ .cell v
 keep:∀ i h h',tn i h->(∀ b∈fp,∀ o,h.get? b=some o->h'.get? b=some o)->tn i h'
 item:∀ (X:Cx),X.prog=P->X.w=w->X.K=K->X.calm=true->∀ (i:Nat) (pins:List (Addr×Obj)) (s:Shared) (σ:St) (H:Hp) (E:Value->Shared->Prop),Inv X pins σ H s->(∀ b∈fp,X5 X pins H b)->tn i s.heap->J.go i H ->
  wpAny (model P w) X.A (pyNext (.ref it)) (fun r s1=>∃ u,r=some u /\
   wpAny (model P w) X.A (letOwnedTupleGo tg (.ref it) u) (fun _ s2=>∃ x H',Inv X pins σ H' s2/\Yw x u/\J.jZ i H x H'/\tn (i+1) s2.heap/\∀ b∈fp,H' b=none) E s1) E s
 done:∀ (X:Cx),X.prog=P->X.w=w->X.K=K->X.calm=true->∀ (i:Nat) (pins:List (Addr×Obj)) (s:Shared) (σ:St) (H:Hp) (E:Value->Shared->Prop),Inv X pins σ H s->(∀ b∈fp,X5 X pins H b)->tn i s.heap->J.stop i H ->
  wpAny (model P w) X.A (pyNext (.ref it)) (fun r s1=>r=none/\Inv X pins σ H s1) E s
 self:∀ (A:Around) (i:Nat) (s:Shared) (Q:Value->Shared->Prop) (E:Value->Shared->Prop),tn i s.heap->Q (.ref it) s->wpAny (model P w) A (pyIter (.ref it)) Q E s
abbrev TI:=St->Hp->(It->Hp->Prop)->Prop
def PIE (X:Cx) (pins:List (Addr×Obj)) (σ:St) (tg:Expr) (R:It->Hp->Prop) (itv:Value) (s2:Shared):Prop :=
 ∃ (it:Addr) (fp:List Addr) (tn:Nat->Heap->Prop) (J:It) (H':Hp),itv = .ref it/\Inv X pins σ H' s2/\Turn X.prog X.w X.K tg J fp it tn/\tn 0 s2.heap/\(∀ b∈fp,X5 X pins H' b)/\R J H'
def PI (X:Cx) (tg iter:Expr) (wi:TI):Prop :=
 ∀ (pins:List (Addr×Obj)) (s:Shared) (σ:St) (H:Hp) (R:It->Hp->Prop),Inv X pins σ H s->wi σ H R ->
  wpAny (model X.prog X.w) X.A (eval iter X.env) (fun v s1=>wpAny (model X.prog X.w) X.A (pyIter v) (PIE X pins σ tg R) X.xe s1) X.xe s
theorem Q1 {M:Model} {A:Around} {E:Value->Shared->Prop} {s:Shared} {tg:Expr} {it:Addr} {u:Value} {o:Obj} {n:String} {vs:Array Value} {Q:Unit->Shared->Prop} (ho:s.heap.get? it=some o) (hc:o.cls = .type n) (hd:o.data = .fields vs)
  (hn:["enumerate","zip","dict_itemiterator","dict_reverseitemiterator","odict_iterator","itertools.zip_longest","itertools.pairwise"].contains n=false) (hQ:Q () s):wpAny M A (letOwnedTupleGo tg (.ref it) u) Q E s:=by
 unfold letOwnedTupleGo
 cases tg<;>first
  | exact wpAny_pure hQ
  | (cases u<;>first
    | exact wpAny_pure hQ
    | (refine wpAny_bind (wpAny_load ho ?_)
       rw [hc,hd]
       show wpAny M A (if (["enumerate","zip","dict_itemiterator","dict_reverseitemiterator","odict_iterator","itertools.zip_longest","itertools.pairwise"].contains n&&vs[0]?==some (rawInt _))=true then _ else _) Q E s
       rw [if_neg (by intro h;rw [hn,Bool.false_and] at h;cases h)];exact wpAny_pure hQ))
def mq (K:W.Frag) (a:Addr):It :=
 ⟨fun i H=>∃ xs x,aJ K H a xs/\xs[i]?=some x,fun i H x H'=>H'=H/\∀ xs,aJ K H a xs->xs[i]?=some x,fun i H=>∃ xs,aJ K H a xs/\xs.length<=i⟩
def mz (K:W.Frag) (a:Addr):It :=
 ⟨fun i H=>∃ xs x,aK K H a xs/\xs[i]?=some x,fun i H x H'=>H'=H/\∀ xs,aK K H a xs->xs[i]?=some x,fun i H=>∃ xs,aK K H a xs/\xs.length<=i⟩
def rZ (lo:Int) (n:Nat):It:=⟨fun i _=>i<n,fun i H x H'=>H'=H/\x = .int (lo+i),fun i _=>n<=i⟩
theorem M6 {P:Program} {w:World} {K:W.Frag} {tg:Expr} (a it:Addr):Turn P w K tg (mq K a) [it] it (fun i h=>h.IsListIter it a i) where
 mem:=by simp
 obj:=fun i h st b hb=>by
  have e:b=it:=by simpa using hb
  subst e;obtain ⟨o,e,c,d⟩:=st;exact ⟨o,e,fun v z=>by rw [d] at z;cases z⟩
 keep:=fun i h h' st k=>st.at fun o e=>k it (by simp) o e
 item:=by
  intro X hP hw hK hc i pins s σ H E I hf st hg;subst hP hw hK;obtain ⟨xs,x,hq,hx⟩:=hg;obtain ⟨its,rv,p,hz⟩:=I.list hq;obtain ⟨u,hu,ru⟩:=rv.get hx;obtain ⟨f0,f1,f2,f3,f4,f5⟩:=hf it (by simp);refine wpAny_pyNext_list_item st p.isList (x:=u) (by simpa using hu) fun h' st' sb=>?_
  have I1:Inv X pins σ H { s with heap:=h' }:=I.turned (t':=s.toks) (fun b o hb e=>(sb.2 b hb).trans e) f0 f1 f3 f4 f5;obtain ⟨o,e,c,d⟩:=id st';exact ⟨u,rfl,Q1 (s:={ s with heap:=h' }) e c d (by decide) ⟨x,H,I1,ru,⟨rfl,fun ys hy=>by rw [I.gn hy hq];exact hx⟩,st',fun b hb=>(hf b hb).1⟩⟩
 done:=by
  intro X hP hw hK hc i pins s σ H E I hf st hg;subst hP hw hK;obtain ⟨xs,hq,hx⟩:=hg;obtain ⟨its,rv,p,hz⟩:=I.list hq;obtain ⟨f0,f1,f2,f3,f4,f5⟩:=hf it (by simp);have hl:=rv.length;exact wpAny_pyNext_list_end (I.ok.hd hc) st p.isList (by simp;omega) fun h' eb=>⟨rfl,I.turned (t':=s.toks) (fun b o hb e=>eb b o hb e) f0 f1 f3 f4 f5⟩
 self:=fun _ _ _ _ _ st h=>wpAny_pyIter_listiter st h
theorem M7 {P:Program} {w:World} {K:W.Frag} {tg:Expr} (a it:Addr):Turn P w K tg (mz K a) [it] it (fun i h=>h.IsTupleIter it a i) where
 mem:=by simp
 obj:=fun i h st b hb=>by
  have e:b=it:=by simpa using hb
  subst e;obtain ⟨o,e,c,d⟩:=st;exact ⟨o,e,fun v z=>by rw [d] at z;cases z⟩
 keep:=fun i h h' st k=>st.at fun o e=>k it (by simp) o e
 item:=by
  intro X hP hw hK hc i pins s σ H E I hf st hg;subst hP hw hK;obtain ⟨xs,x,hq,hx⟩:=hg;obtain ⟨its,rv,p,hz⟩:=I.tuple hq;obtain ⟨u,hu,ru⟩:=rv.get hx;obtain ⟨f0,f1,f2,f3,f4,f5⟩:=hf it (by simp);refine wpAny_pyNext_tuple_item st (show s.heap.IsTuple a its.toArray from p) (x:=u) (by simpa using hu) fun h' st' sb=>?_
  have I1:Inv X pins σ H { s with heap:=h' }:=I.turned (t':=s.toks) (fun b o hb e=>(sb.2 b hb).trans e) f0 f1 f3 f4 f5;obtain ⟨o,e,c,d⟩:=id st';exact ⟨u,rfl,Q1 (s:={ s with heap:=h' }) e c d (by decide) ⟨x,H,I1,ru,⟨rfl,fun ys hy=>by rw [I.iT hy hq];exact hx⟩,st',fun b hb=>(hf b hb).1⟩⟩
 done:=by
  intro X hP hw hK hc i pins s σ H E I hf st hg;subst hP hw hK;obtain ⟨xs,hq,hx⟩:=hg;obtain ⟨its,rv,p,hz⟩:=I.tuple hq;obtain ⟨f0,f1,f2,f3,f4,f5⟩:=hf it (by simp);have hl:=rv.length;exact wpAny_pyNext_tuple_end (I.ok.hd hc) st (show s.heap.IsTuple a its.toArray from p) (by simp;omega) fun h' eb=>⟨rfl,I.turned (t':=s.toks) (fun b o hb e=>eb b o hb e) f0 f1 f3 f4 f5⟩
 self:=fun _ _ _ _ _ st h=>wpAny_pyIter_tupleiter st h
theorem M8 {P:Program} {w:World} {K:PySem.W.Frag} {tg:Expr} (it:Addr) (lo:Int) (n:Nat):Turn P w K tg (rZ lo n) [it] it (fun i h=>IsRangeIter h it (lo+(i:Nat)*1) ((n:Int) - (i:Nat)) 1) where
 mem:=by simp
 obj:=fun i h st b hb=>by
  have e:b=it:=by simpa using hb
  subst e;exact ⟨_,st,fun v z=>by
   have z':Data.fields _=Data.cell v:=z
   cases z'⟩
 keep:=fun i h h' st k=>k it (by simp) _ st
 item:=by
  intro X hP hw hK hc i pins s σ H E I hf st hg;subst hP hw hK;obtain ⟨f0,f1,f2,f3,f4,f5⟩:=hf it (by simp);have W:=Walks.range (prog:=X.prog) (w:=X.w) (I.ok.hd hc) it lo 1 n;refine W.item i s _ _ hg st fun v h' tk hv st' kk=>?_
  obtain ⟨t,rfl⟩:=hv;have I1:Inv X pins σ H { s with heap:=h',toks:=tk }:=I.turned (fun b o hb e=>kk b o (by simpa using hb) e) f0 f1 f3 f4 f5;refine ⟨_,rfl,Q1 (s:={ s with heap:=h',toks:=tk }) (n:="range_iterator") st' rfl rfl (by decide) ⟨.int (lo+i),H,I1,⟨t,?_⟩,⟨rfl,rfl⟩,st',fun b hb=>(hf b hb).1⟩⟩;rw [Int.mul_one]
 done:=by
  intro X hP hw hK hc i pins s σ H E I hf st hg;subst hP hw hK;obtain ⟨f0,f1,f2,f3,f4,f5⟩:=hf it (by simp);exact wpAny_pyNext_range_end (I.ok.hd hc) st (by have:n<=i:=hg;omega) fun h' eb=>⟨rfl,I.turned (t':=s.toks) (fun b o hb e=>eb b o hb e) f0 f1 f3 f4 f5⟩
 self:=fun _ _ _ _ _ st h=>wpAny_pyIter_rangeiter st h
section
variable {X:Cx} {tg:Expr}
def XL (K:W.Frag) (tl:TE):TI:=fun σ H R=>tl σ H fun x H1=>∃ a,x = .ref a/\(∃ xs,aJ K H1 a xs)/\R (mq K a) H1
def qK (K:W.Frag) (tl:TE):TI:=fun σ H R=>tl σ H fun x H1=>∃ a,x = .ref a/\(∃ xs,aK K H1 a xs)/\R (mz K a) H1
theorem Y1 {l:Expr} {tl:TE} (hl:PE X l tl):PI X tg l (XL X.K tl):=by
 intro pins s σ H R I h;refine aM (hl pins s σ H _ I h) fun v s1 ⟨x,H1,I1,r1,q1⟩=>?_
 obtain ⟨a,e,⟨xs,hq⟩,q⟩:=q1;subst e
 cases r1
 obtain ⟨its,rv,p,hz⟩:=I1.list hq;refine wpAny_pyIter_list p.isList ?_;refine ⟨s1.heap.objs.size,[s1.heap.objs.size],_,_,H1,rfl,I1.kept (t':=s1.toks) fun b o e=>Heap.get?_push_of_some _ e,M6 a _,⟨_,Heap.get?_push_size _ rfl,rfl,rfl⟩,fun b hb=>?_,q⟩;have e:b=s1.heap.objs.size:=by simpa using hb
 subst e;exact I1.fB (Nat.le_refl _) (I1.hok.fresh (Nat.le_refl _))
theorem DW {l:Expr} {tl:TE} (hl:PE X l tl):PI X tg l (qK X.K tl):=by
 intro pins s σ H R I h;refine aM (hl pins s σ H _ I h) fun v s1 ⟨x,H1,I1,r1,q1⟩=>?_
 obtain ⟨a,e,⟨xs,hq⟩,q⟩:=q1;subst e
 cases r1
 obtain ⟨its,rv,p,hz⟩:=I1.tuple hq;refine wpAny_pyIter_tuple (show s1.heap.IsTuple a its.toArray from p) ?_;refine ⟨s1.heap.objs.size,[s1.heap.objs.size],_,_,H1,rfl,I1.kept (t':=s1.toks) fun b o e=>Heap.get?_push_of_some _ e,M7 a _,⟨_,Heap.get?_push_size _ rfl,rfl,rfl⟩,fun b hb=>?_,q⟩;have e:b=s1.heap.objs.size:=by simpa using hb
 subst e;exact I1.fB (Nat.le_refl _) (I1.hok.fresh (Nat.le_refl _))
theorem M9 {pins:List (Addr×Obj)} {σ:St} {H:Hp} {s:Shared} {R:It->Hp->Prop} {E:Value->Shared->Prop} {lo hi:Int} {t u v:Tok} {tk:Nat} (I:Inv X pins σ H s) (h1 : -(2^62)<=lo) (h2:lo<2^62) (h3 : -(2^62)<=hi) (h4:hi<2^62)
  (q:R (rZ lo (hi - lo).toNat) H):wpAny (model X.prog X.w) X.A (pyIter (.ref s.heap.objs.size)) (PIE X pins σ tg R) E { s with heap:=s.heap.push { cls := .type "range",data := .fields #[.int lo t,.int hi u,.int 1 v] },toks:=tk }:=by
 refine wpAny_pyIter_range (IsRange.new ..) (small_one h1 h2 h3 h4) ?_;have I1:Inv X pins σ H { s with heap:=s.heap.push { cls := .type "range",data := .fields #[.int lo t,.int hi u,.int 1 v] },toks:=tk }:=I.kept fun b o e=>Heap.get?_push_of_some _ e
 refine ⟨(s.heap.push { cls := .type "range",data := .fields #[.int lo t,.int hi u,.int 1 v] }).objs.size,[(s.heap.push { cls := .type "range",data := .fields #[.int lo t,.int hi u,.int 1 v] }).objs.size],_,_,H,rfl,
  I1.kept (t':=tk) fun b o e=>Heap.get?_push_of_some _ e,M8 _ lo (hi - lo).toNat,?_,fun b hb=>?_,q⟩
 ·have e1:lo+((0:Nat):Int)*1=lo:=by simp
  have e2:(((hi - lo).toNat:Nat):Int) - ((0:Nat):Int)=Builtin.Range.rangeSize lo hi 1:=by rw [rangeSize_one];split<;>omega
  show IsRangeIter _ _ (lo+((0:Nat):Int)*1) ((((hi - lo).toNat:Nat):Int) - ((0:Nat):Int)) 1
  rw [e1,e2];exact Heap.get?_push_size _ rfl
 ·have e:b=(s.heap.push { cls := .type "range",data := .fields #[.int lo t,.int hi u,.int 1 v] }).objs.size:=by simpa using hb
  subst e;exact I1.fB (Nat.le_refl _) (I1.hok.fresh (Nat.le_refl _))
def vW (ta:TA):TI:=fun σ H R=>ta σ H fun vs H1=>∃ j:Int,vs=[.int j] /\ -(2^62)<=j/\j<2^62/\R (rZ 0 j.toNat) H1
theorem Qw {a:Expr} {ta:TA} {p pos:Pos} (hg:Gl X "range") (hm:X.mg "range"=none) (ha:PA X [a] ta) (hs:starEach [a] X.env=[(false,eval a X.env)]):PI X tg (.Call (.Name "range" p) [a] [] pos) (vW ta):=by
 intro pins s σ H R I h;refine Call_ (X4 I hg hm boot_range (PyProof.Rows.callWith_type1 (aM (ha pos pins s σ H _ I h) fun us s1 ⟨vs,H1,I1,r1,q1⟩=>?_) hs rfl));obtain ⟨j,e,q1,q2,q⟩:=q1;subst e
 cases r1 with
 | cons r rr =>
  cases rr
  obtain ⟨t,rfl⟩:=r;exact call_range_1 (M9 I1 (by omega) (by omega) q1 q2 (by simpa using q))
def XY (wi:TI) (g:TG) (tb:TS):TS:=fun D σ H=>wi σ H fun J H1=>∃ W:Nat->Nat->St->Hp->Prop,(∃ m,W 0 m σ H1)/\∀ i m σ H,W i m σ H ->
 (J.stop i H/\D.nx σ H)\/(J.go i H/\∃ N:St->Hp->Prop,(∀ σ' H',N σ' H'->∃ m',m'<m/\W (i+1) m' σ' H')/\∀ x H',J.jZ i H x H'->g x σ H' fun σ2 H2=>tb { D with nx:=N,ct:=N,bk:=D.nx } σ2 H2)
def VE (fp:List Addr) (h:Heap):List (Addr×Obj):=fp.filterMap fun b=>(h.get? b).map fun o=>(b,o)
theorem WA {fp:List Addr} {h:Heap} {b:Addr} {o:Obj} (hb:b∈fp) (e:h.get? b=some o):(b,o)∈VE fp h:=List.mem_filterMap.mpr ⟨b,hb,by rw [e];rfl⟩
theorem Nb {fp:List Addr} {h:Heap} {p:Addr×Obj} (hp:p∈VE fp h):p.1∈fp/\h.get? p.1=some p.2:=by
 obtain ⟨b,hb,e⟩:=List.mem_filterMap.mp hp
 cases q:h.get? b with
 | none=>rw [q] at e;cases e
 | some o =>
  rw [q] at e
  have e':(b,o)=p:=Option.some.inj e;subst e';exact ⟨hb,q⟩
theorem Inv.pinned {pins:List (Addr×Obj)} {σ:St} {H:Hp} {s:Shared} {fp:List Addr} (I:Inv X pins σ H s) (hf:∀ b∈fp,X5 X pins H b) (ho:∀ b∈fp,∃ o,s.heap.get? b=some o/\∀ v,o.data ≠ .cell v):Inv X (pins++VE fp s.heap) σ H s :=
 I.mj fun p hp=>(List.mem_append.mp hp).elim (fun z=>I.pin p (List.mem_append_right _ z)) fun z=>by
  obtain ⟨hb,e⟩:=Nb z;obtain ⟨f0,f1,f2,_⟩:=hf p.1 hb;obtain ⟨o,e',d⟩:=ho p.1 hb;rw [e] at e';cases e'
  exact ⟨e,f0,f1,f2,d⟩
theorem Inv.eH {pins pl:List (Addr×Obj)} {σ:St} {H:Hp} {s:Shared} (I:Inv X (pins++pl) σ H s):Inv X pins σ H s:=I.mj fun p hp=>I.pin p (List.mem_append_right _ (List.mem_append_left _ hp))
theorem XR {iter:Expr} {body:List Stmt} {wi:TI} {g:TG} {tb:TS} {pos:Pos} (hp:PassesOwn (model X.prog X.w) X.A X.env X.xe) (hc:X.calm=true) (hi:PI X tg iter wi) (hg:PG X tg g) (hb:cD X body tb)
  (hs:∀ x,foldedSetIterable iter X.env x=pure x):PS X (.For tg iter body [] pos) (XY wi g tb):=by
 intro pins s σ H D I h;refine wpAny_For (aM (hi pins s σ H _ I h) fun v s1 h1=>aM h1 fun itv s2 h2=>?_) hs;obtain ⟨it,fp,tn,J,H2,e,I2,T,st2,f2,W,⟨m0,w0⟩,turn⟩:=h2;subst e
 -- what stays true of the iterator's objects through the loop
 have stat:∀ {H':Hp},(∀ b∈fp,H' b=none)->∀ b∈fp,X5 X pins H' b:=fun hn b hb=>⟨hn b hb,(f2 b hb).2⟩
 refine codeAny_forLoop_any (fun n s'=>∃ i σ' H',Inv X pins σ' H' s'/\tn i s'.heap/\(∀ b∈fp,H' b=none)/\W i n σ' H') ?_ m0 ⟨0,σ,H2,I2,st2,fun b hb=>(f2 b hb).1,w0⟩;rintro n s3 ⟨i,σ3,H3,I3,st3,oZ,w3⟩;rcases turn i n σ3 H3 w3 with ⟨stop,qn⟩ | ⟨go,N,hN,step⟩
 ·refine wpAny_passesOwn hp (aM (T.done X rfl rfl rfl hc i pins s3 σ3 H3 X.xe I3 (stat oZ) st3 stop) fun r s4 ⟨hr,I4⟩=>?_)
  subst hr;exact wpAny_execs_nil ⟨σ3,H3,I4,qn⟩
 ·refine wpAny_passesOwn hp (aM (T.item X rfl rfl rfl hc i pins s3 σ3 H3 X.xe I3 (stat oZ) st3 go) fun r s4 ⟨u,hr,h4⟩=>?_)
  subst hr;refine wpAny_passesOwn hp (aM h4 fun _ s5 ⟨x,H5,I5,r5,y5,mC,sy⟩=>?_);have Ng:=I5.pinned (stat sy) (T.obj _ _ mC);refine wpAny_passesOwn hp (aM (hg _ s5 σ3 H5 x u _ Ng r5 (step x H5 y5)) fun _ s6 ⟨Nh,H6,I6,q6⟩=>?_);refine wpAny_passesOwn hp (aM (hb _ s6 Nh H6 _ I6 q6) fun f s7 q7=>?_);have again:∀ {fC:St} {H7:Hp},Inv X (pins++VE fp s5.heap) fC H7 s7->N fC H7->∃ m,m<n/\∃ i σ' H',Inv X pins σ' H' s7/\tn i s7.heap/\(∀ b∈fp,H' b=none)/\W i m σ' H':=fun {fC H7} I7 n7=>by
   obtain ⟨m',hm,w7⟩:=hN fC H7 n7;refine ⟨m',hm,i+1,fC,H7,I7.eH,T.keep _ _ _ mC fun b hb o e=>(I7.pin (b,o) (List.mem_append_right _ (List.mem_append_right _ (WA hb e)))).1,fun b hb=>?_,w7⟩;obtain ⟨o,e,d⟩:=T.obj _ _ mC b hb;exact (I7.pin (b,o) (List.mem_append_right _ (List.mem_append_right _ (WA hb e)))).2.1
  cases f with
  | next=>obtain ⟨fC,H7,I7,n7⟩:=q7;exact again I7 n7
  | cont=>obtain ⟨fC,H7,I7,n7⟩:=q7;exact again I7 n7
  | brk=>obtain ⟨fC,H7,I7,q7⟩:=q7;exact ⟨fC,H7,I7.eH,q7⟩
  | ret v=>obtain ⟨x7,fC,H7,I7,r7,q7⟩:=q7;exact ⟨x7,fC,H7,I7.eH,r7,q7⟩
end
theorem Um {K:PySem.W.Frag} {a:Addr} {xs:List V} {g:TG} {tb:TS} {D:Ends} {σ:St} {H:Hp} (Pv:Nat->St->Hp->Prop) (h0:Pv 0 σ H) (hl:∀ i σ H,i<=xs.length->Pv i σ H->aJ K H a xs)
  (hs:∀ i x σ H,xs[i]?=some x->Pv i σ H->g x σ H fun σ2 H2=>tb { D with nx:=Pv (i+1),ct:=Pv (i+1),bk:=D.nx } σ2 H2) (hd:∀ σ H,Pv xs.length σ H->D.nx σ H) :
  ∃ W:Nat->Nat->St->Hp->Prop,(∃ m,W 0 m σ H)/\∀ i m σ H,W i m σ H ->
   ((mq K a).stop i H/\D.nx σ H)\/((mq K a).go i H/\∃ N:St->Hp->Prop,(∀ σ' H',N σ' H'->∃ m',m'<m/\W (i+1) m' σ' H')/\∀ x H',(mq K a).jZ i H x H'->g x σ H' fun σ2 H2=>tb { D with nx:=N,ct:=N,bk:=D.nx } σ2 H2):=by
 refine ⟨fun i m σ H=>m=xs.length - i/\i<=xs.length/\Pv i σ H,⟨xs.length,by simp,Nat.zero_le _,h0⟩,?_⟩;rintro i m σ H ⟨rfl,hi,p⟩;have q:=hl i σ H hi p;by_cases hlt:i<xs.length
 ·refine .inr ⟨⟨xs,xs[i],q,by simp [hlt]⟩,Pv (i+1),fun σ' H' p'=>⟨xs.length - (i+1),by omega,rfl,hlt,p'⟩,fun x H' y=>?_⟩
  obtain ⟨e,y⟩:=y;subst e;exact hs i x σ _ (y xs q) p
 ·have e:i=xs.length:=by omega
  subst e;exact .inl ⟨⟨xs,q,Nat.le_refl _⟩,hd σ H p⟩
theorem Ni {K:PySem.W.Frag} {a:Addr} {xs:List V} {g:TG} {tb:TS} {D:Ends} {σ:St} {H:Hp} (Pv:Nat->St->Hp->Prop) (h0:Pv 0 σ H) (hl:∀ i σ H,i<=xs.length->Pv i σ H->aK K H a xs)
  (hs:∀ i x σ H,xs[i]?=some x->Pv i σ H->g x σ H fun σ2 H2=>tb { D with nx:=Pv (i+1),ct:=Pv (i+1),bk:=D.nx } σ2 H2) (hd:∀ σ H,Pv xs.length σ H->D.nx σ H) :
  ∃ W:Nat->Nat->St->Hp->Prop,(∃ m,W 0 m σ H)/\∀ i m σ H,W i m σ H ->
   ((mz K a).stop i H/\D.nx σ H)\/((mz K a).go i H/\∃ N:St->Hp->Prop,(∀ σ' H',N σ' H'->∃ m',m'<m/\W (i+1) m' σ' H')/\∀ x H',(mz K a).jZ i H x H'->g x σ H' fun σ2 H2=>tb { D with nx:=N,ct:=N,bk:=D.nx } σ2 H2):=by
 refine ⟨fun i m σ H=>m=xs.length - i/\i<=xs.length/\Pv i σ H,⟨xs.length,by simp,Nat.zero_le _,h0⟩,?_⟩;rintro i m σ H ⟨rfl,hi,p⟩;have q:=hl i σ H hi p;by_cases hlt:i<xs.length
 ·refine .inr ⟨⟨xs,xs[i],q,by simp [hlt]⟩,Pv (i+1),fun σ' H' p'=>⟨xs.length - (i+1),by omega,rfl,hlt,p'⟩,fun x H' y=>?_⟩
  obtain ⟨e,y⟩:=y;subst e;exact hs i x σ _ (y xs q) p
 ·have e:i=xs.length:=by omega
  subst e;exact .inl ⟨⟨xs,q,Nat.le_refl _⟩,hd σ H p⟩
abbrev R2:=V->V->Hp->VK->Prop
def bF (X:Cx) (f:Value->Value->Sem Value) (r:R2):Prop :=
 ∀ (pins:List (Addr×Obj)) (s:Shared) (σ:St) (H:Hp) (x y:V) (v u:Value) (Q:VK),Inv X pins σ H s->Yw x v->Yw y u->r x y H Q ->
  wpAny (model X.prog X.w) X.A (f v u) (EP X pins σ Q) X.xe s
def vX (X:Cx) (f:Value->Sem Value) (r:V->Hp->VK->Prop):Prop :=
 ∀ (pins:List (Addr×Obj)) (s:Shared) (σ:St) (H:Hp) (x:V) (v:Value) (Q:VK),Inv X pins σ H s->Yw x v->r x H Q ->
  wpAny (model X.prog X.w) X.A (f v) (EP X pins σ Q) X.xe s
def Xl (X:Cx) (f:Value) (r:List V->Hp->VK->Prop):Prop :=
 ∀ (pins:List (Addr×Obj)) (s:Shared) (σ:St) (H:Hp) (xs:List V) (us:List Value) (Q:VK),Inv X pins σ H s->Yt xs us->r xs H Q ->
  wpAny (model X.prog X.w) X.A (call f us) (EP X pins σ Q) X.xe s
def iU (r:R2) (ta tb:TE):TE:=fun σ H Q=>ta σ H fun x H1=>tb σ H1 fun y H2=>r x y H2 Q
def vY (r:V->Hp->VK->Prop) (ta:TE):TE:=fun σ H Q=>ta σ H fun x H1=>r x H1 Q
def rI (C:Int->Int->Prop) (g:Int->Int->V):R2:=fun x y H Q=>kI x fun i=>kI y fun j=>C i j/\Q (g i j) H
def fX (g:Int->Int->V):R2:=fun x y H Q=>kI x fun i=>kI y fun j=>Q (g i j) H
def rU (g:Int->V):V->Hp->VK->Prop:=fun x H Q=>kI x fun i=>Q (g i) H
section
variable {X:Cx} {a b c:Expr} {ta tb tc:TE} {pos:Pos}
theorem qL (ha:PE X a ta) (hb:PE X b tb) {pins:List (Addr×Obj)} {s:Shared} {σ:St} {H:Hp} {R:V->V->Hp->Prop} (I:Inv X pins σ H s)
  (h:ta σ H fun x H1=>tb σ H1 fun y H2=>R x y H2) {Q:Value->Shared->Prop} {f:Value->Value->Sem Value}
  (hf:∀ v u s2 x y H2,Inv X pins σ H2 s2->Yw x v->Yw y u->R x y H2->wpAny (model X.prog X.w) X.A (f v u) Q X.xe s2) :
  wpAny (model X.prog X.w) X.A (eval a X.env) (fun v s₁=>wpAny (model X.prog X.w) X.A (eval b X.env) (fun u s₂=>wpAny (model X.prog X.w) X.A (f v u) Q X.xe s₂) X.xe s₁) X.xe s:=by
 refine aM (ha pins s σ H _ I h) fun v s1 ⟨x,H1,I1,r1,q1⟩=>?_
 refine aM (hb pins s1 σ H1 _ I1 q1) fun u s2 ⟨y,H2,I2,r2,q2⟩=>?_
 exact hf v u s2 x y H2 I2 r1 r2 q2
theorem Yx {op:Operator} {r:R2} (ho:bF X (binaryOp op) r) (ha:PE X a ta) (hb:PE X b tb):PE X (.BinOp a op b pos) (iU r ta tb):=by
 intro pins s σ H Q I h;exact wpAny_BinOp (qL ha hb I h fun v u s2 x y H2 I2 rx ry q=>ho pins s2 σ H2 x y v u Q I2 rx ry q)
theorem WB {op:UnaryOp} {r:V->Hp->VK->Prop} (ho:vX X (unaryOp op) r) (ha:PE X a ta):PE X (.UnaryOp op a pos) (vY r ta):=by
 intro pins s σ H Q I h;exact UnaryOp_ (aM (ha pins s σ H _ I h) fun v s1 ⟨x,H1,I1,r1,q1⟩=>ho pins s1 σ H1 x v Q I1 r1 q1)
theorem o8 {f:Value->Value->Sem Value} {C:Int->Int->Prop} {g:Int->Int->Int}
  (rule:∀ (i j:Int) (t u:Tok) (s:Shared) (Q:Value->Shared->Prop) (E:Value->Shared->Prop),C i j->Q (.int (g i j) s.toks) { s with toks:=s.toks+1 }->wpAny (model X.prog X.w) X.A (f (.int i t) (.int j u)) Q E s) :
  bF X f (rI C fun i j => .int (g i j)):=by
 intro pins s σ H x y v u Q I rx ry h
 replace h:=vV h
 obtain ⟨i,j,rfl,rfl,hc,q⟩:=h;obtain ⟨t,rfl⟩:=rx;obtain ⟨t',rfl⟩:=ry;exact rule i j t t' s _ _ hc ⟨.int (g i j),H,I.tok _,⟨_,rfl⟩,q⟩
theorem vZ {f:Value->Value->Sem Value} {g:Int->Int->Int}
  (rule:∀ (i j:Int) (t u:Tok) (s:Shared) (Q:Value->Shared->Prop) (E:Value->Shared->Prop),Q (.int (g i j) s.toks) { s with toks:=s.toks+1 }->wpAny (model X.prog X.w) X.A (f (.int i t) (.int j u)) Q E s) :
  bF X f (fX fun i j => .int (g i j)):=by
 intro pins s σ H x y v u Q I rx ry h
 replace h:=vV h
 obtain ⟨i,j,rfl,rfl,q⟩:=h;obtain ⟨t,rfl⟩:=rx;obtain ⟨t',rfl⟩:=ry;exact rule i j t t' s _ _ ⟨.int (g i j),H,I.tok _,⟨_,rfl⟩,q⟩
theorem sE {f:Value->Value->Sem Value} {g:Int->Int->Bool}
  (rule:∀ (i j:Int) (t u:Tok) (s:Shared) (Q:Value->Shared->Prop) (E:Value->Shared->Prop),Q (.bool (g i j)) s->wpAny (model X.prog X.w) X.A (f (.int i t) (.int j u)) Q E s) :
  bF X f (fX fun i j => .bl (g i j)):=by
 intro pins s σ H x y v u Q I rx ry h
 replace h:=vV h
 obtain ⟨i,j,rfl,rfl,q⟩:=h;obtain ⟨t,rfl⟩:=rx;obtain ⟨t',rfl⟩:=ry;exact rule i j t t' s _ _ ⟨.bl (g i j),H,I,rfl,q⟩
def v7 (i j:Int):Prop:=0<=j/\j<=1000000/\i.natAbs<2^64
def qM (i j:Int):Prop:=(-(2^64)<i/\i<2^64)\/(-(2^64)<j/\j<2^64)
theorem qM.ok {i j:Int} (h:qM i j):IntMulOk i j:=by
 rcases h with ⟨h1,h2⟩ | ⟨h1,h2⟩
 ·exact .of_left (intBits_le_64 h1 h2)
 ·exact .of_right (intBits_le_64 h1 h2)
theorem Nj (k:Nat):(0:Int)<=2^k:=by
 rw [two_pow_cast];exact Int.natCast_nonneg _
theorem Xm:bF X (binaryOp .Add) (fX fun i j => .int (i+j)):=vZ fun _ _ _ _ _ _ _ q=>add_int q
theorem VF:bF X (binaryOp .Sub) (fX fun i j => .int (i - j)):=vZ fun _ _ _ _ _ _ _ q=>sub_int q
theorem Wp:bF X (binaryOp .Mod) (rI (fun _ j=>0<j) fun i j => .int (i%j)):=o8 fun i j _ _ _ _ _ hc q=>by
 have h1:(0:Int)<j:=hc;exact mod_int' (by omega) (by rw [Int.fmod_eq_emod_of_nonneg i (by omega)];exact q)
theorem DX:bF X (binaryOp .Pow) (rI v7 fun i j => .int (i^j.toNat)):=o8 fun _ _ _ _ _ _ _ hc q=>pow_int_small hc.1 hc.2.1 hc.2.2 q
theorem Nk:bF X (binaryOp .RShift) (rI (fun _ j=>0<=j) fun i j => .int (i / 2^j.toNat)):=o8 fun i j _ _ _ _ _ hc q =>
 rshift_int hc (by rw [Int.fdiv_eq_ediv_of_nonneg i (Nj _)];exact q)
theorem Nm {f:Value->Sem Value} {g:Int->Int}
  (rule:∀ (i:Int) (t:Tok) (s:Shared) (Q:Value->Shared->Prop) (E:Value->Shared->Prop),Q (.int (g i) s.toks) { s with toks:=s.toks+1 }->wpAny (model X.prog X.w) X.A (f (.int i t)) Q E s) :
  vX X f (rU fun i => .int (g i)):=by
 intro pins s σ H x v Q I rx h;obtain ⟨i,rfl,q⟩:=U0.mp h;obtain ⟨t,rfl⟩:=rx;exact rule i t s _ _ ⟨.int (g i),H,I.tok _,⟨_,rfl⟩,q⟩
theorem X6:vX X (unaryOp .USub) (rU fun i => .int (-i)):=Nm fun _ _ _ _ _ q=>neg_int q
end
def sG:V->V->Bool
 | .non,.non=>true | .non,.int _=>true | .int _,.non=>true | .non,.bl _=>true | .bl _,.non=>true | .non,.str _=>true | .str _,.non=>true
 | .int _,.int _=>true | .bl _,.bl _=>true | .str _,.str _=>true | .eU _,.eU _=>true
 | .int _,.str _=>true | .str _,.int _=>true | .bl _,.str _=>true | .str _,.bl _=>true
 | _,_=>false
def kEq (x y:V) (k:Bool->Prop):Prop:=match x,y with
 | .int i,.int j=>k (decide (i=j))
 | .str i,.str j=>k (decide (i=j))
 | x,y=>sG x y=true/\k (decide (x=y))
theorem DY (i j:Int) (k:Bool->Prop):kEq (.int i) (.int j) k=k (decide (i=j)):=rfl
theorem Ea (i j:Str) (k:Bool->Prop):kEq (.str i) (.str j) k=k (decide (i=j)):=rfl
theorem v8 {x y:V} {k:Bool->Prop}:kEq x y k↔sG x y=true/\k (decide (x=y)):=by
 unfold kEq
 split
 ·rename_i i j
  rw [show decide (V.int i=V.int j)=decide (i=j) from by simp];exact ⟨fun h=>⟨rfl,h⟩,fun h=>h.2⟩
 ·rename_i i j
  rw [show decide (V.str i=V.str j)=decide (i=j) from by simp];exact ⟨fun h=>⟨rfl,h⟩,fun h=>h.2⟩
 ·exact Iff.rfl
def o9:R2:=fun x y H Q=>kEq x y fun b=>Q (.bl b) H
def v9:R2:=fun x y H Q=>kEq x y fun b=>Q (.bl (!b)) H
theorem Eb {i j:Int}:decide (V.int i=V.int j)=(i==j):=by
 rw [Bool.eq_iff_iff];simp
theorem Ec {i j:Bool}:decide (V.bl i=V.bl j)=(i==j):=by
 rw [Bool.eq_iff_iff];simp
theorem Ed {i j:Str}:decide (V.str i=V.str j)=(i==j):=by
 rw [Bool.eq_iff_iff];simp
theorem Ef {i j:Array UInt8}:decide (V.eU i=V.eU j)=(i.toList==j.toList):=by
 rw [Bool.eq_iff_iff]
 cases i
 cases j
 simp
section
variable {X:Cx} {a b c:Expr} {ta tb tc:TE} {pos:Pos}
theorem YL {pins:List (Addr×Obj)} {σ:St} {H:Hp} {s:Shared} {Q:VK} {k k':Bool} (I:Inv X pins σ H s) (q:Q (.bl k) H) (e:k=k'):EP X pins σ Q (.bool k') s:=by
 subst e;exact ⟨.bl k,H,I,rfl,q⟩
theorem Yz:bF X (compareOp .Eq) o9:=by
 intro pins s σ H x y v u Q I rx ry h;obtain ⟨hs,q⟩:=v8.mp h
 cases x with
 | non =>
  cases rx
  cases y with
  | non=>cases ry;exact PySem.EqNone.eq_none_none (YL I q (by simp))
  | bl j=>cases ry;exact PySem.EqNone.eq_none_bool (YL I q (by simp))
  | int j=>obtain ⟨t',rfl⟩:=ry;exact PySem.EqNone.eq_none_int (YL I q (by simp))
  | str j=>obtain ⟨t',rfl⟩:=ry;exact PySem.EqNone.eq_none_str (YL I q (by simp))
  | _=>exact absurd (show false=true from hs) Bool.false_ne_true
 | bl i =>
  cases rx
  cases y with
  | non=>cases ry;exact PySem.EqNone.eq_bool_none (YL I q (by simp))
  | bl j=>cases ry;exact eq_bool (YL I q Ec)
  | str j=>obtain ⟨t',rfl⟩:=ry;exact PySem.EqMixed.eq_bool_str (YL I q (by simp))
  | _=>exact absurd (show false=true from hs) Bool.false_ne_true
 | int i =>
  obtain ⟨t,rfl⟩:=rx
  cases y with
  | non=>cases ry;exact PySem.EqNone.eq_int_none (YL I q (by simp))
  | int j=>obtain ⟨t',rfl⟩:=ry;exact eq_int (YL I q Eb)
  | str j=>obtain ⟨t',rfl⟩:=ry;exact PySem.EqMixed.eq_int_str (YL I q (by simp))
  | _=>exact absurd (show false=true from hs) Bool.false_ne_true
 | str i =>
  obtain ⟨t,rfl⟩:=rx
  cases y with
  | non=>cases ry;exact PySem.EqNone.eq_str_none (YL I q (by simp))
  | bl j=>cases ry;exact PySem.EqMixed.eq_str_bool (YL I q (by simp))
  | int j=>obtain ⟨t',rfl⟩:=ry;exact PySem.EqMixed.eq_str_int (YL I q (by simp))
  | str j=>obtain ⟨t',rfl⟩:=ry;exact eq_str (YL I q Ed)
  | _=>exact absurd (show false=true from hs) Bool.false_ne_true
 | eU i =>
  obtain ⟨t,rfl⟩:=rx
  cases y with
  | eU j=>obtain ⟨t',rfl⟩:=ry;exact W.eq_bytes (YL I q Ef)
  | _=>exact absurd (show false=true from hs) Bool.false_ne_true
 | _=>cases y<;>exact absurd (show false=true from hs) Bool.false_ne_true
theorem Eh:bF X (compareOp .NotEq) v9:=by
 intro pins s σ H x y v u Q I rx ry h;obtain ⟨hs,q⟩:=v8.mp h
 cases x with
 | non =>
  cases rx
  cases y with
  | non=>cases ry;exact PySem.EqNone.ne_none_none (YL I q (by simp))
  | bl j=>cases ry;exact PySem.EqNone.ne_none_bool (YL I q (by simp))
  | int j=>obtain ⟨t',rfl⟩:=ry;exact PySem.EqNone.ne_none_int (YL I q (by simp))
  | str j=>obtain ⟨t',rfl⟩:=ry;exact PySem.EqNone.ne_none_str (YL I q (by simp))
  | _=>exact absurd (show false=true from hs) Bool.false_ne_true
 | bl i =>
  cases rx
  cases y with
  | non=>cases ry;exact PySem.EqNone.ne_bool_none (YL I q (by simp))
  | bl j=>cases ry;exact ne_bool (YL I q (congrArg not Ec))
  | str j=>obtain ⟨t',rfl⟩:=ry;exact PySem.EqMixed.ne_bool_str (YL I q (by simp))
  | _=>exact absurd (show false=true from hs) Bool.false_ne_true
 | int i =>
  obtain ⟨t,rfl⟩:=rx
  cases y with
  | non=>cases ry;exact PySem.EqNone.ne_int_none (YL I q (by simp))
  | int j=>obtain ⟨t',rfl⟩:=ry;exact ne_int (YL I q (congrArg not Eb))
  | str j=>obtain ⟨t',rfl⟩:=ry;exact PySem.EqMixed.ne_int_str (YL I q (by simp))
  | _=>exact absurd (show false=true from hs) Bool.false_ne_true
 | str i =>
  obtain ⟨t,rfl⟩:=rx
  cases y with
  | non=>cases ry;exact PySem.EqNone.ne_str_none (YL I q (by simp))
  | bl j=>cases ry;exact PySem.EqMixed.ne_str_bool (YL I q (by simp))
  | int j=>obtain ⟨t',rfl⟩:=ry;exact PySem.EqMixed.ne_str_int (YL I q (by simp))
  | str j=>obtain ⟨t',rfl⟩:=ry;exact ne_str (YL I q (congrArg not Ed))
  | _=>exact absurd (show false=true from hs) Bool.false_ne_true
 | eU i =>
  obtain ⟨t,rfl⟩:=rx
  cases y with
  | eU j=>obtain ⟨t',rfl⟩:=ry;exact W.ne_bytes (YL I q (congrArg not Ef))
  | _=>exact absurd (show false=true from hs) Bool.false_ne_true
 | _=>cases y<;>exact absurd (show false=true from hs) Bool.false_ne_true
theorem UC:bF X (compareOp .Lt) (fX fun i j => .bl (decide (i<j))):=sE fun _ _ _ _ _ _ _ q=>lt_int q
theorem VX:bF X (compareOp .LtE) (fX fun i j => .bl (decide (i<=j))):=sE fun _ _ _ _ _ _ _ q=>le_int q
theorem Ci:bF X (compareOp .Gt) (fX fun i j => .bl (decide (j<i))):=sE fun _ _ _ _ _ _ _ q=>gt_int q
theorem wg:bF X (compareOp .GtE) (fX fun i j => .bl (decide (j<=i))):=sE fun _ _ _ _ _ _ _ q=>ge_int q
theorem Np:bF X (compareOp .In) (fun x y H Q=>∃ i j,x = .str i/\y = .str j/\Q (.bl (!(Builtin.Str.occurrences j i 0 j.length 1).isEmpty)) H):=by
 intro pins s σ H x y v u Q I rx ry h;obtain ⟨i,j,rfl,rfl,q⟩:=h;obtain ⟨t,rfl⟩:=rx;obtain ⟨t',rfl⟩:=ry;exact in_str (YL I q rfl)
theorem VG:bF X (compareOp .Is) (fun x y H Q=>y = .non/\Q (.bl (decide (x = .non))) H):=by
 intro pins s σ H x y v u Q I rx ry h;obtain ⟨rfl,q⟩:=h
 cases ry
 refine is_none_gen (YL I q ?_)
 cases x<;>first
  | (cases rx;rfl)
  | (obtain ⟨t,rfl⟩:=rx;rfl)
theorem Ei:bF X (compareOp .IsNot) (fun x y H Q=>y = .non/\Q (.bl (!decide (x = .non))) H):=by
 intro pins s σ H x y v u Q I rx ry h;obtain ⟨rfl,q⟩:=h
 cases ry
 refine isnot_none_gen (YL I q ?_)
 cases x<;>first
  | (cases rx;rfl)
  | (obtain ⟨t,rfl⟩:=rx;rfl)
theorem Yk (b:Expr) {op:CmpOp} (h:op ≠ .In:=by decide) (h2:op ≠ .NotIn:=by decide):behindInMarks op b=false:=by
 have e1:(op==CmpOp.In)=false:=by cases op<;>first | rfl | exact absurd rfl h
 have e2:(op==CmpOp.NotIn)=false:=by cases op<;>first | rfl | exact absurd rfl h2
 cases b<;>simp [behindInMarks,e1,e2]
theorem YV {op:CmpOp} {r:R2} (ho:bF X (compareOp op) r) (ha:PE X a ta) (hb:PE X b tb) (hm:behindInMarks op b=false):PE X (.Compare a [op] [b] pos) (iU r ta tb):=by
 intro pins s σ H Q I h;exact wpAny_Compare1 (qL ha hb I h fun v u s2 x y H2 I2 rx ry q=>ho pins s2 σ H2 x y v u Q I2 rx ry q) hm
def UD (t:TE):TT:=fun σ H Q=>t σ H fun x H'=>kB x fun k=>Q k H'
theorem Yo {op:CmpOp} {r:R2} (ho:bF X (compareOp op) r) (ha:PE X a ta) (hb:PE X b tb) (hm:behindInMarks op b=false):PT X (.Compare a [op] [b] pos) (UD (iU r ta tb)):=by
 intro pins s σ H Q I h;refine wpAny_isTrue_Compare1 (aM (ha pins s σ H _ I h) fun v s1 ⟨x,H1,I1,r1,q1⟩=>aM (hb pins s1 σ H1 _ I1 q1) fun u s2 ⟨y,H2,I2,r2,q2⟩ =>
  aM (ho pins s2 σ H2 x y v u _ I2 r1 r2 q2) fun c s3 ⟨z,H3,I3,r3,q3⟩=>?_) hm
 replace q3:=Uk.mp q3
 obtain ⟨k,e,q3⟩:=q3;subst e
 cases r3
 exact wpAny_truthy_bool ⟨H3,I3,q3⟩
def wj (r r':R2) (ta tb tc:TE):TE:=fun σ H Q=>ta σ H fun x H1=>tb σ H1 fun y H2=>r x y H2 fun z H3=>kB z fun k =>
 (if k=true then tc σ H3 fun w' H4=>r' y w' H4 Q else Q (.bl false) H3)
theorem Ej {op op':CmpOp} {r r':R2} (ho:bF X (compareOp op) r) (ho':bF X (compareOp op') r') (ha:PE X a ta) (hb:PE X b tb) (hc:PE X c tc)
  (hm:lastMarks [op,op'] [b,c]=false):PE X (.Compare a [op,op'] [b,c] pos) (wj r r' ta tb tc):=by
 intro pins s σ H Q I h;refine Compare_chain (aM (ha pins s σ H _ I h) fun v s1 ⟨x,H1,I1,r1,q1⟩=>chain_link (aM (hb pins s1 σ H1 _ I1 q1) fun u s2 ⟨y,H2,I2,r2,q2⟩ =>
  aM (ho pins s2 σ H2 x y v u _ I2 r1 r2 q2) fun d s3 ⟨z,H3,I3,r3,q3⟩=>?_)) hm
 replace q3:=Uk.mp q3
 obtain ⟨k,e,q3⟩:=q3;subst e
 cases r3
 refine wpAny_truthy_bool ?_
 cases k with
 | false=>exact ite_ff ⟨.bl false,H3,I3,rfl,q3⟩
 | true=>exact ite_tt (chain_last (aM (hc pins s3 σ H3 _ I3 q3) fun w' s4 ⟨z',H4,I4,r4,q4⟩=>ho' pins s4 σ H4 y z' u w' Q I4 r2 r4 q4))
theorem UE:(sizeLine:Nat)<2^63:=by rw [sizeLine_eq];decide
theorem WY {x:V} {us:List Value} (r:Yt [x] us):∃ u,us=[u]/\Yw x u:=by
 cases r with
 | cons r1 r2=>cases r2;exact ⟨_,rfl,r1⟩
theorem Ek {x y:V} {us:List Value} (r:Yt [x,y] us):∃ u w',us=[u,w']/\Yw x u/\Yw y w':=by
 cases r with
 | cons r1 r2 =>
  cases r2 with
  | cons r3 r4=>cases r4;exact ⟨_,_,rfl,r1,r3⟩
def El:List V->Hp->VK->Prop:=fun xs H Q=>k2 xs fun x y=>kI x fun i=>kI y fun j=>Q (.int (if j>i then j else i)) H
def Em:List V->Hp->VK->Prop:=fun xs H Q=>k2 xs fun x y=>kI x fun i=>kI y fun j=>Q (.int (if j<i then j else i)) H
end
structure gq (h:Heap) (x dx C:Addr) (mA:Str->Option Value):Prop where
 obj:h.get? x=some (W.instObj C dx)
 ns:h.Ns1 dx mA
 ne:dx≠x
theorem Nq {h:Heap} {dx:Addr} {mA:Str->Option Value} (n:h.Ns1 dx mA):∃ od,h.get? dx=some od/\∀ name,W.lookIn name od=some (mA name):=by
 obtain ⟨o,es,ep,ho,hd,hk,_,hm⟩:=n;refine ⟨o,ho,fun name=>?_⟩;have e:=hm name;unfold nsFind findBy at e;rw [<- Array.find?_toList] at e
 unfold W.lookIn;rw [hd];dsimp only
 split
 ·rename_i y q
  rw [q] at e
  exact congrArg some e
 ·rename_i q
  rw [q] at e
  have a:es.toList.any (·.refKey)=false:=by
   rw [List.any_eq_false];intro y hy;obtain ⟨z,t,hkey⟩:=hk y (Array.mem_toList_iff.mp hy);simp [DictEntry.refKey,hkey]
  have a':¬ es.toList.any (·.refKey)=true:=by rw [a];exact Bool.false_ne_true
  rw [if_neg a'];exact congrArg some e
theorem gq.look {h:Heap} {x dx C:Addr} {mA:Str->Option Value} (I:gq h x dx C mA):∃ od,W.InstAt h x (W.instObj C dx) C (some od)/\∀ name,W.lookIn name od=some (mA name) :=
 let ⟨od,ho,hl⟩:=Nq I.ns
 ⟨od,⟨I.obj,rfl,rfl,ho⟩,hl⟩
section
variable {prog:Program} {w:World} {A:Around} {E:Value->Shared->Prop} {s:Shared} {K:W.Frag} {x dx C f:Addr} {mA:Str->Option Value} {name:Str} {v:Value}
theorem Nr {expr:Bool} {Q:Value->Shared->Prop} (X:K.In s.heap) (I:gq s.heap x dx C mA) (hg:W.plainGet K C name=true) (hh:W.hasDictIn K C=true)
  (ha:W.findIn K (.ref C) name=some none) (hv:mA name=some v) (hv':W.handedIn v=true) (h:Q v { s with toks:=s.toks+1 }) :
  wpAny (model prog w) A (getAttr (.ref x) name expr) Q E s:=by
 obtain ⟨od,J,hl⟩:=I.look;exact W.get_value X J (W.plainGet_of hg).1 (W.findObj_own hh ha rfl (by rw [hl,hv])) hv' h
theorem Nt {pl:Sem Bool} {Q:Value×List Value->Shared->Prop} (X:K.In s.heap) (I:gq s.heap x dx C mA) (hg:W.plainGet K C name=true)
  (hf:W.findIn K (.ref C) name=some (some (.ref f))) (ht:W.isFn K (.ref f)=true) (hv:mA name=none) (h:Q (.ref f,[.ref x]) s) :
  wpAny (model prog w) A (getMethod (.ref x) name pl) Q E s:=by
 obtain ⟨od,J,hl⟩:=I.look;exact W.method_fn X J (W.plainGet_of hg).1 (W.plainGet_of hg).2 hf (beq_iff_eq.mp ht) (by show (W.lookIn name od).map (·.isSome)=some false;rw [hl,hv];rfl) h
theorem Nu {ns:List Str} {Q:Unit->Shared->Prop} (X:K.In s.heap) (I:gq s.heap x dx C mA)
  (hs:W.findIn K (.ref C) "__setattr__"=some (some (.builtin "object.__setattr__"))) (hp:W.plainOver K C=true) (ht:W.takerIn K C name=some none) (hh:W.hasDictIn K C=true)
  (hw:PySem.Within mA ns) (hsz:ns.length<=sizeLine)
  (h:∀ h',gq h' x dx C (fun y=>if y=name then some v else mA y)->Heap.SameBut dx s.heap h'->Q () { s with heap:=h',toks:=s.toks+2 }) :
  wpAny (model prog w) A (setAttr (.ref x) name v) Q E s:=by
 obtain ⟨od,J,hl⟩:=I.look;refine W.set_plain X J hs (W.osa_open (s:={ s with toks:=s.toks+1 }) (r:=none) X J hp ht fun b=>?_);obtain ⟨cd,hc,hd'⟩:=W.any_some hh;have hx:s.heap.get? x=some ⟨.ref C,some dx,.plain,#[]⟩:=I.obj;refine wpAny_bind (wpAny_pure (wpAny_bind (wpAny_bind (wpAny_loadPart hx (wpAny_bind (W.Looks.here (s:={ s with toks:=s.toks+1 }) (W.looks_clsIn X hc) ?_))))));rw [hd'];refine wpAny_pure (a:=some dx) (wpAny_bind (wpAny_pure (wpAny_bind ?_)));refine wpAny_nsSet1 (s:={ s with toks:=s.toks+1 }) I.ns fun h' hn2 hs2=>?_
 obtain ⟨oD,esD,epD,hoD,hdD,hcD⟩:=hn2.count (PySem.Within.cons name v hw);refine wpAny_bind (wpAny_lookBehind hoD (by rw [hdD];exact pastItsLine_dict (Nat.le_trans hcD (by rw [List.length_cons];omega))) ?_);exact wpAny_pure (h _ ⟨(hs2.2 _ (Ne.symm I.ne)).trans I.obj,hn2,I.ne⟩ hs2)
theorem Nv {R:Result->Shared->Prop} {vs:List Value} {kw:List (Str×Value)} (X:K.In s.heap) (hm:W.makesIn K C=true)
  (hi:W.findIn K (.ref C) "__init__"=some (some (.ref f))) (hf:W.typeIn K (.ref f)=some (.type "function"))
  (h:codeAny (model prog w) (A.under (.builtin "type.__call__" ⟨.ref C::vs,kw⟩)) (.call (.ref f) ⟨.ref (s.heap.objs.size+1)::vs,kw⟩) (W.InitBack (s.heap.objs.size+1) R)
   { s with heap:=(s.heap.push W.emptyDict).push (W.instObj C s.heap.objs.size) }) :
  codeAny (model prog w) A (.call (.ref C) ⟨vs,kw⟩) R s:=by
 obtain ⟨hh,g,d,t,os⟩:=s;exact W.make_core (W.makes_of X hm) (W.looks_findIn X hi) (fun self=>W.bind_fn X self hf) (.inl rfl) h
end
def Xb (f:Str) (v:V):List (Str×V)->List (Str×V)
 | []=>[(f,v)]
 | (g,x)::r=>if g=f then (g,v)::r else (g,x)::Xb f v r
theorem W6 (f g:Str) (v:V):∀ fs:List (Str×V),(Xb f v fs).lookup g=if g=f then some v else fs.lookup g
 | []=>by
  show List.lookup g [(f,v)]=_
  by_cases h:g=f
  ·have hb:(g==f)=true:=beq_iff_eq.mpr h
   simp only [List.lookup,hb,if_pos h]
  ·have hb:(g==f)=false:=beq_eq_false_iff_ne.mpr h
   simp only [List.lookup,hb,if_neg h]
 | (k,x)::r=>by
  have ih:=W6 f g v r;rw [show Xb f v ((k,x)::r)=(if k=f then (k,v)::r else (k,x)::Xb f v r) from rfl];by_cases hk:k=f
  ·rw [if_pos hk]
   by_cases h:g=k
   ·have hb:(g==k)=true:=beq_iff_eq.mpr h
    simp only [List.lookup,hb,if_pos (h.trans hk)]
   ·have hb:(g==k)=false:=beq_eq_false_iff_ne.mpr h
    simp only [List.lookup,hb,if_neg (fun e:g=f=>h (e.trans hk.symm))]
  ·rw [if_neg hk]
   by_cases h:g=k
   ·have hb:(g==k)=true:=beq_iff_eq.mpr h
    simp only [List.lookup,hb,if_neg (fun e:g=f=>hk (h.symm.trans e))]
   ·have hb:(g==k)=false:=beq_eq_false_iff_ne.mpr h
    simp only [List.lookup,hb];exact ih
theorem Wq (f:Str) (v:V):∀ fs:List (Str×V),f∈(Xb f v fs).map (·.1)/\∀ g,g∈fs.map (·.1)->g∈(Xb f v fs).map (·.1)
 | []=>⟨by simp [Xb],fun g h=>by simp at h⟩
 | (k,x)::r=>by
  obtain ⟨i1,i2⟩:=Wq f v r;rw [show Xb f v ((k,x)::r)=(if k=f then (k,v)::r else (k,x)::Xb f v r) from rfl];by_cases hk:k=f
  ·rw [if_pos hk]
   subst hk;exact ⟨by simp,fun g h=>by simpa using h⟩
  ·rw [if_neg hk]
   refine ⟨?_,fun g h=>?_⟩
   ·rw [List.map_cons]
    exact List.mem_cons_of_mem _ i1
   ·rw [List.map_cons] at h ⊢
    rcases List.mem_cons.mp h with e | e
    ·exact List.mem_cons.mpr (.inl e)
    ·exact List.mem_cons_of_mem _ (i2 g e)
theorem Ue (f:Str) (v:V):∀ fs:List (Str×V),(Xb f v fs).length<=fs.length+1
 | []=>by simp [Xb]
 | (k,x)::r=>by
  have ih:=Ue f v r;rw [show Xb f v ((k,x)::r)=(if k=f then (k,v)::r else (k,x)::Xb f v r) from rfl];by_cases hk:k=f
  ·rw [if_pos hk,List.length_cons,List.length_cons];omega
  ·rw [if_neg hk,List.length_cons,List.length_cons];omega
theorem Wc.some_of {v:V} {o:Option Value} (r:Wc (some v) o):∃ u,o=some u/\Yw v u:=by
 cases o with
 | none=>exact (show False from r).elim
 | some u=>exact ⟨u,rfl,r⟩
theorem Wc.none_of {o:Option Value} (r:Wc none o):o=none:=by
 cases o with
 | none=>rfl
 | some u=>exact (show False from r).elim
theorem Nx {v:V} {u:Value} (r:Yw v u):W.handedIn u=true:=by
 cases v with
 | non=>cases (show u=Value.none from r);rfl
 | bl b=>cases (show u=Value.bool b from r);rfl
 | int i=>obtain ⟨t,e⟩:=(show ∃ t,u=Value.int i t from r);cases e;rfl
 | str x=>obtain ⟨t,e⟩:=(show ∃ t,u=Value.str x t from r);cases e;rfl
 | eU b=>obtain ⟨t,e⟩:=(show ∃ t,u=Value.bytes b t from r);cases e;rfl
 | flt b=>obtain ⟨t,e⟩:=(show ∃ t,u=Value.float b t from r);cases e;rfl
 | ref a=>cases (show u=Value.ref a from r);rfl
 | ty n=>cases (show u=Value.type n from r);rfl
section
variable {P:Program} {w:World} {H H':Hp} {h h':Heap} {a C dx:Addr} {fs fs':List (Str×V)}
theorem Vb (hok:aY P w H h) (e:H a=some (.ins C dx fs)):∃ mA,gq h a dx C mA/\(∀ f,Wc (fs.lookup f) (mA f))/\PySem.Within mA (fs.map (·.1))/\fs.length<=1000/\H dx=some (.own a):=by
 obtain ⟨d,z,ne,ob,mA,n,r,q⟩:=(show YN P w H h a (.ins C dx fs) from hok a _ e);exact ⟨mA,⟨ob,n,ne⟩,r,q,z,d⟩
end
structure Cls (K:W.Frag) (C:Addr):Prop where
 pg:W.plainGet K C Str.empty=true
 hd:W.hasDictIn K C=true
 po:W.plainOver K C=true
 sa:W.findIn K (.ref C) "__setattr__"=some (some (.builtin "object.__setattr__"))
theorem Cls.get {K:W.Frag} {C:Addr} (c:Cls K C) (f:Str):W.plainGet K C f=true:=c.pg
def YZ (K:W.Frag) (C:Addr) (f:Str):Prop:=W.findIn K (.ref C) f=some none
theorem YZ.taker {K:W.Frag} {C:Addr} {f:Str} (n:YZ K C f):W.takerIn K C f=some none:=by
 unfold W.takerIn;rw [show W.findIn K (.ref C) f=some none from n];rfl
structure Meth (K:W.Frag) (C:Addr) (m:Str) (f:Addr):Prop where
 at_:W.findIn K (.ref C) m=some (some (.ref f))
 fn:W.isFn K (.ref f)=true
 kp:W.keepIn K (.ref f)=true
section
variable {X:Cx} {pins:List (Addr×Obj)} {σ:St} {H:Hp} {s:Shared} {a C dx:Addr} {fs:List (Str×V)} {f:Str} {v:V} {A:Around} {E:Value->Shared->Prop}
theorem Ny {b:Bool} {Q:Value->Shared->Prop} (I:Inv X pins σ H s) (e:H a=some (.ins C dx fs)) (c:Cls X.K C) (n:YZ X.K C f) (l:fs.lookup f=some v)
  (h:∀ u s',Inv X pins σ H s'->Yw v u->Q u s'):wpAny (model X.prog X.w) A (getAttr (.ref a) f b) Q E s:=by
 obtain ⟨mA,O,r,_,_,_⟩:=Vb I.hok e;obtain ⟨u,hu,ru⟩:=Wc.some_of (v:=v) (o:=mA f) (by rw [<- l];exact r f);exact Nr I.aR O (c.get f) c.hd n hu (Nx ru) (h u _ (I.tok _) ru)
theorem Nz {m:Str} {g:Addr} {pl:Sem Bool} {Q:Value×List Value->Shared->Prop} (I:Inv X pins σ H s) (e:H a=some (.ins C dx fs)) (c:Cls X.K C) (k:Meth X.K C m g) (l:fs.lookup m=none)
  (h:Q (.ref g,[.ref a]) s):wpAny (model X.prog X.w) A (getMethod (.ref a) m pl) Q E s:=by
 obtain ⟨mA,O,r,_,_,_⟩:=Vb I.hok e;have hn:mA m=none:=Wc.none_of (by rw [<- l];exact r m);exact Nt I.aR O (c.get m) k.at_ k.fn hn h
theorem NK {y:V} {u:Value} {Q:Unit->Shared->Prop} (I:Inv X pins σ H s) (e:H a=some (.ins C dx fs)) (c:Cls X.K C) (n:YZ X.K C f) (hl:fs.length<1000) (ry:Yw y u)
  (h:∀ s',Inv X pins σ (upd H a (.ins C dx (Xb f y fs))) s'->Q () s'):wpAny (model X.prog X.w) A (setAttr (.ref a) f u) Q E s:=by
 obtain ⟨mA,O,r,wi,_,ho⟩:=Vb I.hok e;have hz:(fs.map (·.1)).length<=sizeLine:=by rw [List.length_map,sizeLine_eq];omega
 refine Nu I.aR O c.sa c.po n.taker c.hd wi hz fun h' O' sb=>h _ ?_
 have hd:∃ o,h'.get? dx=some o:=let ⟨o,_,_,e',_⟩:=O'.ns;⟨o,e'⟩
 refine I.write (x:=a) (e:=dx) (by rw [e];exact True.intro) (.inr ho) (fun b q hb z=>(sb.2 b hb).trans z) hd ?_;refine ⟨by rw [Yg O.ne];exact ho,?_,O.ne,O'.obj,_,O'.ns,fun g=>?_,fun g hg=>?_⟩
 ·have:=Ue f y fs;omega
 ·show Wc ((Xb f y fs).lookup g) (if g=f then some u else mA g)
  rw [W6];by_cases q:g=f
  ·rw [if_pos q,if_pos q];exact ry
  ·rw [if_neg q,if_neg q];exact r g
 ·by_cases q:g=f
  ·rw [q];exact (Wq f y fs).1
  ·refine (Wq f y fs).2 g (wi g fun z=>hg ?_)
   show (if g=f then some u else mA g)=none
   rw [if_neg q];exact z
theorem Inv.made (I:Inv X pins σ H s):Inv X pins σ (upd (upd H s.heap.objs.size (.own (s.heap.objs.size+1))) (s.heap.objs.size+1) (.ins C s.heap.objs.size []))
  { s with heap:=(s.heap.push W.emptyDict).push (W.instObj C s.heap.objs.size) }:=by
 have e1:(s.heap.push W.emptyDict).get? s.heap.objs.size=some W.emptyDict:=Heap.get?_push_size s.heap rfl;have e2:((s.heap.push W.emptyDict).push (W.instObj C s.heap.objs.size)).get? (s.heap.objs.size+1)=some (W.instObj C s.heap.objs.size):=by
  have:=Heap.get?_push_size (s.heap.push W.emptyDict) (o:=W.instObj C s.heap.objs.size) rfl
  rwa [Heap.size_push] at this
 have e3:(s.heap.push W.emptyDict).Ns s.heap.objs.size (fun _=>none):=⟨W.emptyDict,#[],_,e1,rfl,(fun e he=>absurd he (by simp)),fun _=>rfl⟩;have I1:=I.laid (a:=s.heap.objs.size) (o := .own (s.heap.objs.size+1)) (h':=s.heap.push W.emptyDict) (t':=s.toks) (fun b u q=>Heap.get?_push_of_some _ q) (Nat.le_refl _) ⟨_,e1⟩;refine I1.laid (a:=s.heap.objs.size+1) (o := .ins C s.heap.objs.size []) (t':=s.toks) (fun b u q=>Heap.get?_push_of_some _ q) (Nat.le_of_eq (Heap.size_push _ _)) ?_;have ne:s.heap.objs.size≠s.heap.objs.size+1:=Nat.ne_of_lt (Nat.lt_succ_self _);refine ⟨by rw [Yg ne,Yb],Nat.zero_le _,ne,e2,fun _=>none,(Heap.Ns1.of_empty e3).at fun o q=>Heap.get?_push_of_some _ q,fun _=>True.intro,fun y hy=>absurd rfl hy⟩
theorem NP {prog:Program} {w:World} {env:Env} {e:Expr} {f:Str} {pos:Pos} {s:Shared} {Q:Value->Shared->Prop} (hb:attributeBase e f env (eval e env)=eval e env)
  (h:wpAny (model prog w) A (eval e env) (fun o s₁=>wpAny (model prog w) A (getAttr o f true) Q E s₁) E s):wpAny (model prog w) A (eval (.Attribute e f pos) env) Q E s :=
 Attribute_any_ h (by rw [arm_eval_Attribute,hb])
end
inductive KJ (K:W.Frag) (H:Hp) (a:Addr) (f:Str) (Q:V->Prop):Prop
 | mk (C dx:Addr) (fs:List (Str×V)) (h:H a=some (.ins C dx fs)) (c:Cls K C) (n:YZ K C f) (v:V) (l:fs.lookup f=some v) (q:Q v)
inductive KN (K:W.Frag) (H:Hp) (a:Addr) (f:Str) (Q:Addr->Addr->List (Str×V)->Prop):Prop
 | mk (C dx:Addr) (fs:List (Str×V)) (h:H a=some (.ins C dx fs)) (c:Cls K C) (n:YZ K C f) (l:fs.length<1000) (q:Q C dx fs)
def qN (K:W.Frag) (ta:TE) (f:Str):TE:=fun σ H Q=>ta σ H fun x H1=>kR x fun a=>KJ K H1 a f fun v=>Q v H1
def qO (K:W.Frag) (ta tv:TE) (f:Str):TS:=fun D σ H=>tv σ H fun y H1=>ta σ H1 fun x H2=>kR x fun a=>KN K H2 a f fun C dx fs=>D.nx σ (upd H2 a (.ins C dx (Xb f y fs)))
section
variable {X:Cx} {o e value:Expr} {f:Str} {pos pos' tpos:Pos} {ta tv:TE}
theorem En (he:PE X e ta) (hb:attributeBase e f X.env (eval e X.env)=eval e X.env):PE X (.Attribute e f pos) (qN X.K ta f):=by
 intro pins s σ H Q I h;refine NP hb (aM (he pins s σ H _ I h) fun u s1 ⟨x,H1,I1,rx,q⟩=>?_)
 replace q:=W5.mp q
 obtain ⟨a,ex,C,dx,fs,ea,c,n,v,l,q⟩:=q;subst ex;obtain rfl:u=Value.ref a:=rx;exact Ny I1 ea c n l fun u' s2 I2 ru=>⟨v,H1,I2,ru,q⟩
theorem UF (ha:PE X o ta) (hv:PE X value tv) (hs:swapsWith value (some (.Attribute o f pos')) pos.line X.env=pure false):PS X (.Assign [.Attribute o f pos'] value pos) (qO X.K ta tv f):=by
 intro pins s σ H D I h;refine plainObj_wpAny_Assign_Attribute (aM (hv pins s σ H _ I h) fun u s1 ⟨y,H1,I1,ry,q⟩=>aM (ha pins s1 σ H1 _ I1 q) fun ov s2 ⟨x,H2,I2,rx,q2⟩=>?_) hs
 replace q2:=W5.mp q2
 obtain ⟨a,ex,C,dx,fs,ea,c,n,l,q2⟩:=q2;subst ex;obtain rfl:ov=Value.ref a:=rx;exact NK I2 ea c n l ry fun s3 I3=>⟨σ,_,I3,q2⟩
end
section
variable {X:Cx} {pins:List (Addr×Obj)} {σ:St} {H:Hp} {s:Shared} {A:Around} {E:Value->Shared->Prop} {Q:Value->Shared->Prop} {c:Value} {b:Bool}
inductive bW (K:W.Frag) (H:Hp):V->Value->Prop where
 | non:bW K H .non (.type "NoneType")
 | bl (x:Bool):bW K H (.bl x) (.type "bool")
 | int (i:Int):bW K H (.int i) (.type "int")
 | str (x:Str):bW K H (.str x) (.type "str")
 | flt (x:UInt64):bW K H (.flt x) (.type "float")
 | lst {a:Addr} {xs:List V} (e:H a=some (.lst xs)):bW K H (.ref a) (.type "list")
 | bC {a:Addr} {o:Obj} {xs:List V} (e:H a=some (.bC o (.lst xs))):bW K H (.ref a) (.type "list")
 | tup {a:Addr} {xs:List V} (e:H a=some (.tup xs)):bW K H (.ref a) (.type "tuple")
 | dK {a:Addr} {kvs:List (Key×V)} (e:H a=some (.dK kvs)):bW K H (.ref a) (.type "dict")
 | dT {a:Addr} {kvs:List (List Key×V)} (e:H a=some (.dT kvs)):bW K H (.ref a) (.type "dict")
 | ins {a C dx:Addr} {fs:List (Str×V)} (e:H a=some (.ins C dx fs)) (cl:Cls K C) (ha:W.findIn K (.ref C) "__class__"=some (some (.builtin "object.__class__")))
   (hn:W.specialIn K (.builtin "object.__class__") "__get__"=some (some (.builtin "getset_descriptor.__get__"))) (htk:W.takesIn K (.builtin "object.__class__")=some true)
   (hm:W.mroIn K C (.type "object")=some true):bW K H (.ref a) (.ref C)
theorem NQ {x:V} {u t:Value} (I:Inv X pins σ H s) (rx:Yw x u) (ty:bW X.K H x t) (e:W.kitOne X.K t c=some b) (h:∀ tk,Q (.bool b) { s with toks:=tk }) :
  wpAny (model X.prog X.w) A (call (.builtin "isinstance") [u,c]) Q E s:=by
 cases ty with
 | non=>cases (show u=Value.none from rx);exact W.kia_one W.kitx_none I.aR True.intro e (fun z=>nomatch z) h
 | bl y=>cases (show u=Value.bool y from rx);exact W.kia_one W.kitx_bool I.aR True.intro e (fun z=>nomatch z) h
 | int i=>obtain ⟨t,q⟩:=(show ∃ t,u=Value.int i t from rx);cases q;exact W.kia_one W.kitx_int I.aR True.intro e (fun z=>nomatch z) h
 | str y=>obtain ⟨t,q⟩:=(show ∃ t,u=Value.str y t from rx);cases q;exact W.kia_one W.kitx_str I.aR True.intro e (fun z=>nomatch z) h
 | flt y=>obtain ⟨t,q⟩:=(show ∃ t,u=Value.float y t from rx);cases q;exact W.kia_one W.kitx_float I.aR True.intro e (fun z=>nomatch z) h
 | @lst a xs ea =>
  cases (show u=Value.ref a from rx)
  obtain ⟨_,_,n,_,h1⟩:=(show YN X.prog X.w H s.heap a (.lst xs) from I.hok a _ ea);exact W.kia_one W.kitx_list I.aR ⟨_,h1,rfl⟩ e (fun z=>nomatch z) h
 | @bC a ob xs ea =>
  cases (show u=Value.ref a from rx)
  obtain ⟨_,_,_,n,_,h1⟩:=(show YN X.prog X.w H s.heap a (.bC ob (.lst xs)) from I.hok a _ ea);exact W.kia_one W.kitx_list I.aR ⟨_,h1,rfl⟩ e (fun z=>nomatch z) h
 | @tup a xs ea =>
  cases (show u=Value.ref a from rx)
  obtain ⟨_,_,_,p⟩:=(show YN X.prog X.w H s.heap a (.tup xs) from I.hok a _ ea);obtain ⟨o,h1,h2,_⟩:=p;exact W.kia_one W.kitx_tuple I.aR ⟨o,h1,h2⟩ e (fun z=>nomatch z) h
 | @dK a kvs ea =>
  cases (show u=Value.ref a from rx)
  obtain ⟨_,_,vs,_,p⟩:=(show YN X.prog X.w H s.heap a (.dK kvs) from I.hok a _ ea);obtain ⟨o,es,ep,h1,h2,_⟩:=p;exact W.kia_one W.kitx_dict I.aR ⟨o,h1,h2.1⟩ e (fun z=>nomatch z) h
 | @dT a kvs ea =>
  cases (show u=Value.ref a from rx)
  obtain ⟨_,_,xs,_,o,es,ep,h1,h2,_⟩:=(show YN X.prog X.w H s.heap a (.dT kvs) from I.hok a _ ea);exact W.kia_one W.kitx_dict I.aR ⟨o,h1,h2.1⟩ e (fun z=>nomatch z) h
 | @ins a C dx fs ea cl ha hn htk hm =>
  cases (show u=Value.ref a from rx)
  obtain ⟨mA,O,_⟩:=Vb I.hok ea;obtain ⟨od,J,_⟩:=O.look;exact W.kia_one (W.kitx_own (cl.get _) cl.hd ha hn htk hm) I.aR J e (fun z=>nomatch z) h
end
structure aQ (k:Nat) (A:Around):Prop where
 hd:A.handled=none
 dp:A.depth+3*k+5<recursionLimit
 un:A.units+16*k+200<cLine
 gd:A.guards=some []
theorem aQ.mono {j k:Nat} {A:Around} (r:aQ k A) (h:j<=k):aQ j A:=⟨r.hd,by have:=r.dp;omega,by have:=r.un;omega,r.gd⟩
theorem aQ.deeper {k:Nat} {A:Around} (r:aQ (k+1) A) (env:Env):aQ k (A.deeper env) :=
 ⟨r.hd,by have:=r.dp;show A.depth+1+3*k+5<_;omega,by have:=r.un;show A.units+3+16*k+200<_;omega,r.gd⟩
theorem NT {A:Around} {C:Addr} {us:List Value} {kw:List (Str×Value)}:(A.under (.builtin "type.__call__" ⟨.ref C::us,kw⟩)).depth=A.depth+1:=by
 first | rfl | simp [Around.under,Code.weight,Code.isCreation,Code.isGuard,Code.isCaller,Code.frames,Code.isFrame,guardIds]
theorem NZ {A:Around} {C:Addr} {us:List Value} {kw:List (Str×Value)}:(A.under (.builtin "type.__call__" ⟨.ref C::us,kw⟩)).units=A.units+1:=by
 first | rfl | simp [Around.under,Code.cUnits,Code.frames,Code.isFrame]
theorem aQ.make {k:Nat} {A:Around} (r:aQ (k+1) A) (C:Addr) (us:List Value) (kw:List (Str×Value)):aQ k (A.under (.builtin "type.__call__" ⟨.ref C::us,kw⟩)) :=
 ⟨r.hd,by have:=r.dp;rw [NT];omega,by have:=r.un;rw [NZ];omega,by first | exact r.gd | simpa [Around.under,Code.isGuard,Code.isFrame,guardIds] using r.gd⟩
theorem aQ.depth {k:Nat} {A:Around} (r:aQ k A):A.depth<recursionLimit:=by have:=r.dp;omega
theorem aQ.units {k:Nat} {A:Around} (r:aQ k A):A.units+64<cLine:=by have:=r.un;omega
def U5:TA:=fun _ H Q=>Q [] H
def Vo (ta:TE) (tr:TA):TA:=fun σ H Q=>ta σ H fun x H1=>tr σ H1 fun xs H2=>Q (x::xs) H2
section
variable {X:Cx} {e:Expr} {es:List Expr} {te:TE} {t:TA} {pos:Pos}
theorem Yc:PA X [] U5:=fun _ _ _ _ H Q I h=>Calls.spliced_nil ⟨[],H,I,.nil,h⟩
theorem Ya (ha:PE X e te) (hr:PA X es t) (hs:starEach (e::es) X.env=(false,eval e X.env)::starEach es X.env:=by rfl):PA X (e::es) (Vo te t):=by
 intro pos pins s σ H Q I h;rw [hs]
 show wpAny _ _ (spliced ((false,eval e X.env)::backTo pos (starEach es X.env))) _ _ s
 refine Calls.spliced_cons (aM (ha pins s σ H _ I h) fun u s1 ⟨x,H1,I1,r1,q1⟩=>?_);exact aM (hr pos pins s1 σ H1 _ I1 q1) fun us s2 ⟨xs,H2,I2,r2,q2⟩=>⟨x::xs,H2,I2,.cons r1 r2,q2⟩
def qP (t:TA):TE:=fun σ H Q=>t σ H fun xs H1=>xs.length<=sizeLine/\∀ p,H1 p=none->Q (.ref p) (upd H1 p (.tup xs))
def qQ (t:TA):TE:=fun σ H Q=>t σ H fun xs H1=>xs.length<=sizeLine/\∀ p,H1 p=none->Q (.ref p) (upd H1 p (.lst xs))
theorem YF {x1} (h:PA X es t):PE X (.Tuple es x1 pos) (qP t):=by
 intro pins s σ H Q I hq;refine wpAny_Tuple_spliced (aM (h pos pins s σ H _ I hq) fun us s1 ⟨xs,H1,I1,r,z,q⟩=>⟨by rw [<- r.length];exact z,?_⟩);have hf:H1 s1.heap.objs.size=none:=I1.hok.fresh (Nat.le_refl _);refine ⟨.ref s1.heap.objs.size,upd H1 s1.heap.objs.size (.tup xs),I1.laid (t':=s1.toks) (fun b u e=>Heap.get?_push_of_some _ e) (Nat.le_refl _) ?_,rfl,q _ hf⟩;exact ⟨z,us,r,⟨_,Heap.get?_push_size _ rfl,rfl,_,rfl⟩⟩
theorem YY (h:PA X es t):PE X (.List es pos) (qQ t):=by
 intro pins s σ H Q I hq;refine wpAny_List_spliced (aM (h pos pins s σ H _ I hq) fun us s1 ⟨xs,H1,I1,r,z,q⟩=>⟨by rw [<- r.length];exact z,?_⟩);have hf:H1 s1.heap.objs.size=none:=I1.hok.fresh (Nat.le_refl _);refine ⟨.ref s1.heap.objs.size,upd H1 s1.heap.objs.size (.lst xs),I1.laid (t':=s1.toks) (fun b u e=>Heap.get?_push_of_some _ e) (Nat.le_refl _) ?_,rfl,q _ hf⟩;exact ⟨z,us,0,r,Heap.get?_push_size _ rfl⟩
end
abbrev Sp:=List V->Hp->VK->XK->Prop
abbrev dD:=List Env->Hp->Shared->XK->Value->Shared->Prop
structure cY (P:Program) (w:World) (K:W.Frag) (mg:Str->Option Value) (base:Heap) (A:Around) (outer:List Env) (s:Shared) (H:Hp):Prop where
 frames:A.frames=some outer
 mod:Mod K mg base
 bs:∀ b o,base.get? b=some o->s.heap.get? b=some o/\H b=none
 dO:base.objs.size<=s.heap.objs.size
 bN:s.heap.FunFrames base outer
 dY:∀ b∈frs outer,H b=none
 hok:aY P w H s.heap
 bare:AllBare s.gens
def CE (outer:List Env) (P:Program) (w:World) (H:Hp) (s:Shared) (Q:VK) (u:Value) (s':Shared):Prop :=
 ∃ v H',s'.os=s.os/\AllBare s'.gens/\Un (frs outer) [] H H' s.heap s'.heap/\aY P w H' s'.heap/\Yw v u/\Q v H'
def CR (CX:dD) (outer:List Env) (P:Program) (w:World) (H:Hp) (s:Shared) (Q:VK) (E:XK) (r:Result) (s':Shared):Prop :=
 match r with
 | .ok (.ret u)=>CE outer P w H s Q u s'
 | .ok _=>False
 | .error e=>CX outer H s E e s'
structure aW (P:Program) (w:World) (K:W.Frag) (mg:Str->Option Value) (base:Heap) (CX:dD) (k:Nat) (f:Addr) (fd:FuncData) (ps:List Str) (sp:Sp):Prop where
 len:∀ vs H Q E,sp vs H Q E->vs.length=ps.length
 run:∀ (A:Around) (outer:List Env) (s:Shared) (H:Hp) (args:Args) (us:List Value) (vs:List V) (Q:VK) (E:XK),aQ k A->cY P w K mg base A outer s H->BindsTo s fd args (ps.zip us)->Yt vs us->sp vs H Q E ->
  codeAny (model P w) A (.call (.ref f) args) (CR CX outer P w H s Q E) s
theorem aW.mono {P:Program} {w:World} {K:PySem.W.Frag} {mg:Str->Option Value} {base:Heap} {CX:dD} {j k:Nat} {f:Addr} {fd:FuncData} {ps:List Str} {sp:Sp} (F:aW P w K mg base CX j f fd ps sp) (h:j<=k) :
  aW P w K mg base CX k f fd ps sp:=⟨F.len,fun A outer s H args us vs Q E hr=>F.run A outer s H args us vs Q E (hr.mono h)⟩
theorem cY.make {P:Program} {w:World} {K:W.Frag} {mg:Str->Option Value} {base:Heap} {A:Around} {outer:List Env} {s:Shared} {H:Hp} (e:cY P w K mg base A outer s H) (C:Addr) (us:List Value) (kw:List (Str×Value)) :
  cY P w K mg base (A.under (.builtin "type.__call__" ⟨.ref C::us,kw⟩)) outer s H:=⟨by first | exact e.frames | (simpa [Around.under,Code.envs,Code.isFrame,pushEnvs] using e.frames),e.mod,e.bs,e.dO,e.bN,e.dY,e.hok,e.bare⟩
section
variable {X:Cx} {pins:List (Addr×Obj)} {σ:St} {H:Hp} {s s':Shared}
theorem Inv.env0 (I:Inv X pins σ H s):cY X.prog X.w X.K X.mg X.base X.A X.stack s H :=
 ⟨I.ok.frames,I.ok.mod,I.bs,Nat.le_trans I.ok.dO I.sz,I.stack,I.dZ,I.hok,I.bare⟩
theorem Inv.after {Q:VK} {u:Value} (I:Inv X pins σ H s) (h:CE X.stack X.prog X.w H s Q u s'):EP X pins σ Q u s':=by
 obtain ⟨v,H',os,bare,un,hok,r,q⟩:=h;obtain ⟨hh,g,d,t,os'⟩:=s';obtain rfl:os'=s.os:=os;exact ⟨v,H',I.call (h':=hh) (g':=g) (d':=d) (t':=t) (ch:=[]) un hok bare (fun b z=>absurd z (by simp)),r,q⟩
end
def UG (sp:Sp) (bH:List V) (E:XK) (t:TA):TE:=fun σ H Q=>t σ H fun vs H1=>sp (vs++bH) H1 Q E
inductive N5 (H:Hp) (a C:Addr) (m:Str) (Q:Prop):Prop
 | mk (dx:Addr) (fs:List (Str×V)) (h:H a=some (.ins C dx fs)) (l:fs.lookup m=none) (q:Q)
def Q3 (C:Addr) (m:Str) (sp:Sp) (bH:List V) (E:XK) (ta:TE) (t:TA):TE:=fun σ H Q=>ta σ H fun x H1=>kR x fun a=>N5 H1 a C m (t σ H1 fun vs H2=>sp (.ref a::(vs++bH)) H2 Q E)
def Q4 (C:Addr) (sp:Sp) (bH:List V) (E:XK) (t:TA):TE:=fun σ H Q=>t σ H fun vs H1=>∀ x dx,H1 x=none->H1 dx=none->dx≠x ->
 sp (.ref x::(vs++bH)) (upd (upd H1 dx (.own x)) x (.ins C dx [])) (fun v H2=>v = .non/\Q (.ref x) H2) E
def Y7 (K:W.Frag) (fd:FuncData) (ps:List Str) (ds:List Value):Prop :=
 ∀ (s:Shared) (us:List Value),K.In s.heap->(us++ds).length=ps.length->BindsTo s fd ⟨us,[]⟩ (ps.zip (us++ds))
theorem Y7.all {K:W.Frag} {fd:FuncData} {ps:List Str} (h:∀ us:List Value,us.length=ps.length->bindArgs fd ⟨us,[]⟩=pure (ps.zip us)):Y7 K fd ps []:=fun s us _ hl=>by
 rw [List.append_nil] at hl ⊢
 exact .of_eq (h us hl)
def XS (CX:dD) (X:Cx) (E:XK):Prop:=∀ (pins:List (Addr×Obj)) (σ:St) (H:Hp) (s:Shared) (e:Value) (s':Shared),Inv X pins σ H s->CX X.stack H s E e s'->X.xe e s'
section
variable {X:Cx} {CX:dD} {k:Nat} {f C:Addr} {fd:FuncData} {ps:List Str} {sp:Sp} {bH:List V} {ds:List Value} {E:XK} {x m:Str} {p pos apos:Pos} {e o:Expr} {es:List Expr} {ta:TE} {t:TA}
theorem UH {pins:List (Addr×Obj)} {σ:St} {H:Hp} {s:Shared} {Q:VK} {us:List Value} {vs:List V} (F:aW X.prog X.w X.K X.mg X.base CX k f fd ps sp) (hr:aQ k X.A) (hb:Y7 X.K fd ps ds) (hd:Yt bH ds) (hx:XS CX X E)
  (I:Inv X pins σ H s) (r:Yt vs us) (h:sp (vs++bH) H Q E):wpAny (model X.prog X.w) X.A (call (.ref f) us) (EP X pins σ Q) X.xe s:=by
 have r2:Yt (vs++bH) (us++ds):=r.append hd;have hl:(us++ds).length=ps.length:=by rw [<- r2.length];exact F.len _ _ _ _ h
 refine wpAny_call (codeAny_mono (F.run X.A X.stack s H ⟨us,[]⟩ (us++ds) (vs++bH) Q E hr I.env0 (hb s us I.aR hl) r2 h) fun r s' hq=>?_)
 cases r with
 | error e=>exact hx pins σ H s e s' I hq
 | ok fl =>
  cases fl with
  | ret u=>exact I.after hq
  | next=>exact False.elim hq
  | brk=>exact False.elim hq
  | cont=>exact False.elim hq
theorem Eo (F:aW X.prog X.w X.K X.mg X.base CX k f fd ps sp) (hr:aQ k X.A) (hg:Gl X x) (hm:X.mg x=some (.ref f)) (hk:PySem.W.keepIn X.K (.ref f)=true) (hb:Y7 X.K fd ps ds) (hd:Yt bH ds) (hx:XS CX X E)
  (ha:PA X (e::es) t) (hdb:(x==("__debug__":Str))=false:=by decide) (he:starEach (e::es) X.env=(false,eval e X.env)::starEach es X.env:=by rfl) (hpl:(backTo pos (starEach es X.env)).any (·.1)=false:=by rfl) :
  PE X (.Call (.Name x p) (e::es) [] pos) (UG sp bH E t):=by
 intro pins s σ H Q I h;refine wpAny_Call_Name_kw (XC I hg hm ?_ hdb);refine PySem.W.callWith_K (h₀:=X.base) I.ok.mod.dX hk (aM (ha pos pins s σ H _ I h) fun us s1 ⟨vs,H1,I1,r,q⟩=>⟨I1.aR,?_⟩) he hpl;exact UH F hr hb hd hx I1 r q
theorem N6 {pl:Sem Bool} (he:PE X o ta) (c:Cls X.K C) (hm:Meth X.K C m f) (F:aW X.prog X.w X.K X.mg X.base CX k f fd ps sp) (hr:aQ k X.A) (hb:Y7 X.K fd ps ds) (hd:Yt bH ds) (hx:XS CX X E) (ha:PA X (e::es) t)
  (hst:starEach (e::es) X.env=(false,eval e X.env)::starEach es X.env:=by rfl) (hpl:(backTo pos (starEach es X.env)).any (·.1)=false:=by rfl)
  (ht:eval (.Call (.Attribute o m apos) (e::es) [] pos) X.env=(do
   let ov <- eval o X.env
   standAt apos.atName
   let (f,first) <- holding [ov] (getMethod ov m pl)
   callWith pos f first (backTo pos (starEach (e::es) X.env)) (backToKw pos (keywordEach [] X.env))):=by rfl) :
  PE X (.Call (.Attribute o m apos) (e::es) [] pos) (Q3 C m sp bH E ta t):=by
 intro pins s σ H Q I h;refine PySem.W.methodCall_KW (pl:=pl) (aM (he pins s σ H _ I h) fun u s1 ⟨x,H1,I1,rx,q⟩=>?_) ht
 replace q:=W5.mp q
 obtain ⟨a,ex,dx,fs,ea,l,q⟩:=q;subst ex;obtain rfl:u=Value.ref a:=rx;refine Nz I1 ea c hm l ?_;refine PySem.W.callWith_K (first:=[.ref a]) (h₀:=X.base) I.ok.mod.dX hm.kp (aM (ha pos pins s1 σ H1 _ I1 q) fun us s2 ⟨vs,H2,I2,r,q2⟩=>⟨I2.aR,?_⟩) hst hpl;exact UH (us := .ref a::us) (vs := .ref a::vs) F hr hb hd hx I2 (.cons rfl r) q2
structure Mk (K:W.Frag) (C f:Addr):Prop where
 makes:W.makesIn K C=true
 init:W.findIn K (.ref C) "__init__"=some (some (.ref f))
 fn:W.isFn K (.ref f)=true
 kp:W.keepIn K (.ref C)=true
theorem N7 {pins:List (Addr×Obj)} {σ:St} {H:Hp} {s:Shared} {Q:VK} {us:List Value} {vs:List V} (M:Mk X.K C f) (F:aW X.prog X.w X.K X.mg X.base CX k f fd ps sp) (hr:aQ (k+1) X.A) (hb:Y7 X.K fd ps ds) (hd:Yt bH ds)
  (hx:XS CX X E) (I:Inv X pins σ H s) (r:Yt vs us)
  (h:∀ x dx,H x=none->H dx=none->dx≠x->sp (.ref x::(vs++bH)) (upd (upd H dx (.own x)) x (.ins C dx [])) (fun v H2=>v = .non/\Q (.ref x) H2) E) :
  wpAny (model X.prog X.w) X.A (call (.ref C) us) (EP X pins σ Q) X.xe s:=by
 have hq:=h (s.heap.objs.size+1) s.heap.objs.size (I.hok.fresh (Nat.le_succ _)) (I.hok.fresh (Nat.le_refl _)) (Nat.ne_of_lt (Nat.lt_succ_self _));have I2:=Inv.made (C:=C) I;have r2:Yt (V.ref (s.heap.objs.size+1)::(vs++bH)) (Value.ref (s.heap.objs.size+1)::(us++ds)) := .cons rfl (r.append hd);have hl:(Value.ref (s.heap.objs.size+1)::us++ds).length=ps.length:=by
  have e:=r2.length;rw [F.len _ _ _ _ hq] at e
  exact e.symm
 refine wpAny_call (Nv (f:=f) I.aR M.makes M.init (beq_iff_eq.mp M.fn) (codeAny_mono (F.run _ X.stack _ _ ⟨Value.ref (s.heap.objs.size+1)::us,[]⟩ (Value.ref (s.heap.objs.size+1)::(us++ds)) _ _ E (hr.make C us [])
  (I2.env0.make C us []) (hb _ (Value.ref (s.heap.objs.size+1)::us) I2.aR hl) r2 hq) fun r s' hq'=>?_))
 cases r with
 | error e=>exact hx pins σ _ _ e s' I2 hq'
 | ok fl =>
  cases fl with
  | ret u =>
   obtain ⟨v,H',I3,rv,ev,q3⟩:=I2.after hq';subst ev;exact ⟨rv,⟨V.ref (s.heap.objs.size+1),H',I3,rfl,q3⟩⟩
  | next=>exact False.elim hq'
  | brk=>exact False.elim hq'
  | cont=>exact False.elim hq'
theorem N8 (M:Mk X.K C f) (F:aW X.prog X.w X.K X.mg X.base CX k f fd ps sp) (hr:aQ (k+1) X.A) (hg:Gl X x) (hm:X.mg x=some (.ref C)) (hb:Y7 X.K fd ps ds) (hd:Yt bH ds) (hx:XS CX X E)
  (ha:PA X (e::es) t) (hdb:(x==("__debug__":Str))=false:=by decide) (he:starEach (e::es) X.env=(false,eval e X.env)::starEach es X.env:=by rfl) (hpl:(backTo pos (starEach es X.env)).any (·.1)=false:=by rfl) :
  PE X (.Call (.Name x p) (e::es) [] pos) (Q4 C sp bH E t):=by
 intro pins s σ H Q I h;refine wpAny_Call_Name_kw (XC I hg hm ?_ hdb);refine PySem.W.callWith_K (h₀:=X.base) I.ok.mod.dX M.kp (aM (ha pos pins s σ H _ I h) fun us s1 ⟨vs,H1,I1,r,q⟩=>⟨I1.aR,?_⟩) he hpl;exact N7 M F hr hb hd hx I1 r q
end
structure aH (N P:List Str) (sc:Scope):Prop where
 kind:sc.kind = .function
 co:sc.isCoroutine=false
 gen:sc.isGenerator=false
 nd:N.Nodup
 pre:N.take P.length=P
 par:∀ x∈P,sc.names.lookup x=some .local\/sc.names.lookup x=some .cell
 wk:∀ y∈sc.names,y.2 ≠ .free
theorem Qx {kindOf:Str->Option NameKind} {x:Str}:∀ {binds:List (Str×Value)} {m:Str->Option Value},(∀ v,(x,v)∉binds)->bindL kindOf binds m x=m x
 | [],_,_=>rfl
 | (n,v)::r,m,h=>by
  unfold bindL;rw [Qx fun w hw=>h w (List.mem_cons_of_mem _ hw)]
  split
  ·have:x≠n:=by rintro rfl;exact h v List.mem_cons_self
   simp [this]
  ·rfl
theorem Qy {kindOf:Str->Option NameKind} {x:Str}:∀ {binds:List (Str×Value)} {m:Str->Option Value},(∀ v,(x,v)∉binds)->bindC kindOf binds m x=m x
 | [],_,_=>rfl
 | (n,v)::r,m,h=>by
  unfold bindC;rw [Qy fun w hw=>h w (List.mem_cons_of_mem _ hw)]
  split
  ·rfl
  ·have:x≠n:=by rintro rfl;exact h v List.mem_cons_self
   simp [this]
theorem Qz {kindOf:Str->Option NameKind} {x:Str} {v:Value}:∀ {P:List Str} {vs:List Value} {i:Nat} {m:Str->Option Value},P.Nodup->P[i]?=some x->vs[i]?=some v->kindOf x=some .local ->
  bindL kindOf (P.zip vs) m x=some v
 | [],_,_,_,_,h,_,_=>by simp at h
 | _::_,[],_,_,_,_,h,_=>by simp at h
 | p::P,w::vs,0,m,nd,h1,h2,hk=>by
  simp at h1 h2;subst h1;subst h2
  show bindL kindOf ((p,w)::P.zip vs) m p=_
  unfold bindL;rw [Qx fun v hv=>(List.nodup_cons.mp nd).1 (List.of_mem_zip hv).1,if_pos hk];simp
 | p::P,w::vs,i+1,m,nd,h1,h2,hk=>by
  show bindL kindOf ((p,w)::P.zip vs) m x=_
  unfold bindL;exact Qz (i:=i) (List.nodup_cons.mp nd).2 (by simpa using h1) (by simpa using h2) hk
theorem QA {kindOf:Str->Option NameKind} {x:Str} {v:Value}:∀ {P:List Str} {vs:List Value} {i:Nat} {m:Str->Option Value},P.Nodup->P[i]?=some x->vs[i]?=some v->kindOf x≠some .local ->
  bindC kindOf (P.zip vs) m x=some v
 | [],_,_,_,_,h,_,_=>by simp at h
 | _::_,[],_,_,_,_,h,_=>by simp at h
 | p::P,w::vs,0,m,nd,h1,h2,hk=>by
  simp at h1 h2;subst h1;subst h2
  show bindC kindOf ((p,w)::P.zip vs) m p=_
  unfold bindC;rw [Qy fun v hv=>(List.nodup_cons.mp nd).1 (List.of_mem_zip hv).1,if_neg hk];simp
 | p::P,w::vs,i+1,m,nd,h1,h2,hk=>by
  show bindC kindOf ((p,w)::P.zip vs) m x=_
  unfold bindC;exact QA (i:=i) (List.nodup_cons.mp nd).2 (by simpa using h1) (by simpa using h2) hk
def Xi (N:List Str) (vs:List V):St:=vs.map some++List.replicate (N.length - vs.length) none
def We (CX:dD) (P:Program) (w:World) (K:W.Frag) (mg:Str->Option Value) (base:Heap) (N:List Str) (qual:Str) (scope:Scope) (f:Addr) (cd:Value) (A:Around) (outer:List Env) (s:Shared) (H:Hp) (E:XK):Cx where
 prog:=P
 w:=w
 K:=K
 mg:=mg
 base:=base
 A:=A.deeper (envOfC qual scope s.heap.objs.size f cd)
 N:=N
 s₀:=s
 H₀:=H
 env:=envOfC qual scope s.heap.objs.size f cd
 outer:=outer
 stack:=envOfC qual scope s.heap.objs.size f cd::outer
 ex:=[]
 calm:=true
 fn:=fun _=>true
 pn:=[]
 xe:=fun e s'=>wpAny (model P w) (A.deeper (envOfC qual scope s.heap.objs.size f cd)) (leaving (envOfC qual scope s.heap.objs.size f cd) e) (fun _ s''=>CX outer H s E e s'') (fun e' s''=>CX outer H s E e' s'') s'
theorem Ep {sc:Scope} {n:Nat} {x:Str} (h:sc.names.lookup x=some .cell):∃ c,(cellsFrom n sc.names []).lookup x=some c:=by
 have q:=W.cellsFrom_some sc.names n [] (.inl h);exact Option.isSome_iff_exists.mp q
theorem QB {CX:dD} {P:Program} {w:World} {K:W.Frag} {mg:Str->Option Value} {base:Heap} {N ps:List Str} {qual:Str} {scope:Scope} {f:Addr} {cd:Value} {A:Around} {outer:List Env} {s s1:Shared} {H:Hp} {E:XK} {us:List Value} {vs:List V}
  (S:aH N ps scope) (hd:A.handled=none) (e0:cY P w K mg base A outer s H) (hl:vs.length=ps.length) (r:Yt vs us)
  (x:InCallC s s.heap.objs.size (bindL (envOfC qual scope s.heap.objs.size f cd).kindOf (ps.zip us) fun _=>none) (cellsFrom (s.heap.objs.size+1) scope.names []) (bindC (envOfC qual scope s.heap.objs.size f cd).kindOf (ps.zip us) fun _=>none) s1) :
  Inv (We CX P w K mg base N qual scope f cd A outer s H E) [] (Xi N vs) H s1:=by
 have hpl:ps.length<=N.length:=by have:=congrArg List.length S.pre;rw [List.length_take] at this;omega
 obtain ⟨h1,tk,rfl,hk⟩:=x.done;have gP:∀ b:Addr,b∉(We CX P w K mg base N qual scope f cd A outer s H E).ex:=fun b z=>absurd (show b∈([]:List Addr) from z) (by simp)
 refine ⟨⟨e0.mod,S.kind,rfl,rfl,Nat.le_refl _,fun y z c h1 h2=>?_,fun y hy=>?_,fun y c _ h=>?_,fun _=>hd,Around.frames_deeper e0.frames,.inr ⟨rfl,rfl⟩,fun b z=>absurd z (gP b),e0.bs,e0.dO,fun b _ _=>gP b,fun b z=>absurd z (gP b),e0.bN,e0.dY⟩,
  rfl,e0.bare,Un.kept hk,⟨_,x.toInCall.ns,fun i y v h1 h2 h3=>?_⟩,fun y c h=>⟨_,x.cell y c h⟩,e0.hok.fresh (Nat.le_refl _),fun y c h=>?_,fun p hp=>absurd (show p∈([]:List (Addr×Obj)) from hp) (by simp),e0.hok.kept hk,?_⟩
 ·exact name_of_addr x.apart (PySem.mem_of_lookup h1) (PySem.mem_of_lookup h2)
 ·have hy:scope.names.lookup y=some .cell\/scope.names.lookup y=some .free:=hy
  rcases hy with hy | hy
  ·exact Ep hy
  ·exact absurd rfl (S.wk _ (PySem.mem_of_lookup hy))
 ·exact Nat.le_of_lt (x.above y c (PySem.mem_of_lookup h))
 ·have hi:i<vs.length:=by
   unfold Xi at h2;by_cases hi:i<vs.length
   ·exact hi
   ·rw [List.getElem?_append_right (by simpa using hi)] at h2
    rw [List.getElem?_replicate] at h2
    split at h2<;>cases h2
  have ha:vs[i]?=some v:=by
   unfold Xi at h2;rw [List.getElem?_append_left (by simpa using hi),List.getElem?_map] at h2
   cases e:vs[i]? with
   | none=>rw [e] at h2;cases h2
   | some a=>rw [e] at h2;cases h2;rfl
  obtain ⟨u,hu,rv⟩:=r.get ha;have hp:ps[i]?=some y:=by
   rw [<- S.pre,List.getElem?_take_of_lt (by omega)];exact h1
  have sH:ps.Nodup:=by rw [<- S.pre];exact S.nd.sublist (List.take_sublist _ _)
  refine ⟨u,rv,?_⟩;rcases S.par y (List.mem_of_getElem? hp) with k | k
  ·exact .inl ⟨k,Qz sH hp hu k⟩
  ·obtain ⟨c,e⟩:=Ep (n:=s.heap.objs.size+1) k
   refine .inr ⟨.inl k,c,e,?_⟩;have q:=x.cell y c e;rw [QA sH hp hu (by show scope.names.lookup y≠_;rw [k];decide)] at q
   exact q
 ·exact e0.hok.fresh (Nat.le_of_lt (x.above y c (PySem.mem_of_lookup h)))
 ·unfold Xi
  show _=N.length
  rw [List.length_append,List.length_map,List.length_replicate];omega
theorem Q5 {CX:dD} {P:Program} {w:World} {K:W.Frag} {mg:Str->Option Value} {base:Heap} {k:Nat} {f:Addr} {name qual:Str} {params:Arguments} {body:List Stmt} {scope:Scope} {dV kV doc pm cdv ct oc:Value} {an od:Option Addr}
  {osl:Array (Option Value)} {N ps:List Str} {sp:Sp} (lk:K.lookup f=some ⟨oc,od,.func (W.fnOf name qual params body scope dV kV doc pm an cdv ct),osl⟩) (hcd:W.codeIn K cdv qual=true) (S:aH N ps scope)
  (len:∀ vs H Q E,sp vs H Q E->vs.length=ps.length)
  (hbody:∀ (A:Around) (outer:List Env) (s:Shared) (H:Hp) (vs:List V) (Q:VK) (E:XK),aQ k (A.deeper (envOfC qual scope s.heap.objs.size f cdv))->sp vs H Q E ->
   ∃ t,cD (We CX P w K mg base N qual scope f cdv A outer s H E) body t/\t { nx:=fun _ H'=>Q .non H',rt:=Q } (Xi N vs) H) :
  aW P w K mg base CX (k+1) f (W.fnOf name qual params body scope dV kV doc pm an cdv ct) ps sp:=by
 refine ⟨len,fun A outer s H args us vs Q E hr e0 hb r hsp=>?_⟩;have hl:=len _ _ _ _ hsp;have KX:K.In s.heap:=e0.mod.dX.keeps fun b o e=>(e0.bs b o e).1
 have lim:s.heap.NoLimit:=e0.mod.nolimit.keeps fun b o e=>(e0.bs b o e).1
 have hkind:∀ y∈ps.zip us,scope.names.lookup y.1=some .local\/(scope.names.lookup y.1=some .cell/\((cellsFrom (s.heap.objs.size+1) scope.names []).lookup y.1).isSome=true):=fun ⟨n,v⟩ hy=>by
  rcases S.par n (List.of_mem_zip hy).1 with q | q
  ·exact .inl q
  ·exact .inr ⟨q,W.cellsFrom_some _ _ _ (.inl q)⟩
 refine codeAny_call_function hr.depth (KX _ _ lk) rfl S.co S.gen rfl (W.codeRec_of KX hcd) (hb _ _ _ _ ?_);refine wpAny_newFunctionEnv_cells S.kind hkind fun env he s1 x=>?_
 subst he;refine ⟨lim.keeps x.toInCall.keep,codeAny_func ?_⟩;obtain ⟨t,ht,hq⟩:=hbody A outer s H vs Q E (hr.deeper _) hsp;have I:Inv (We CX P w K mg base N qual scope f cdv A outer s H E) [] (Xi N vs) H s1:=QB S hr.hd e0 hl r x;refine wpAny_mono (ht [] s1 (Xi N vs) H _ I hq) (fun fl s' hs=>?_) fun e s' hs=>hs
 have fin:∀ {σ':St} {H':Hp} {v:V} {u:Value},Inv (We CX P w K mg base N qual scope f cdv A outer s H E) [] σ' H' s'->Yw v u->Q v H'->CE outer P w H s Q u s' :=
  fun {σ' H' v u} J rv q=>⟨v,H',J.os,J.bare,J.base,J.hok,rv,q⟩
 cases fl with
 | ret u =>
  obtain ⟨v,σ',H',J,rv,q⟩:=hs;exact fin J rv q
 | next =>
  obtain ⟨σ',H',J,q⟩:=hs;exact fin (v:=V.non) (u:=Value.none) J rfl q
 | brk =>
  obtain ⟨_,_,_,q⟩:=hs;exact False.elim q
 | cont =>
  obtain ⟨_,_,_,q⟩:=hs;exact False.elim q
section
variable {X:Cx} {x:Str} {p pos:Pos} {e:Expr} {es:List Expr} {t:TA} {id T:String} {r:List V->Hp->VK->Prop}
def mD (r:List V->Hp->VK->Prop) (t:TA):TE:=fun σ H Q=>t σ H fun vs H1=>r vs H1 Q
theorem Oa (hc:Xl X (.builtin id) r) (hg:Gl X x) (hm:X.mg x=none) (hv:bootBuiltins x=some (.builtin id)) (ha:PA X (e::es) t) (hn:x≠"__name__":=by decide) (hdb:(x==("__debug__":Str))=false:=by decide)
  (he:starEach (e::es) X.env=(false,eval e X.env)::starEach es X.env:=by rfl) (hpl:(backTo pos (starEach es X.env)).any (·.1)=false:=by rfl):PE X (.Call (.Name x p) (e::es) [] pos) (mD r t):=by
 intro pins s σ H Q I h;refine wpAny_Call_Name_kw (X4 I hg hm hv ?_ hn hdb);exact PyProof.Rows.callWith_builtin1 (aM (ha pos pins s σ H _ I h) fun us s1 ⟨vs,H1,I1,r1,q1⟩=>hc pins s1 σ H1 vs us Q I1 r1 q1) he hpl
theorem Ob (hc:Xl X (.type T) r) (hg:Gl X x) (hm:X.mg x=none) (hv:bootBuiltins x=some (.type T)) (ha:PA X (e::es) t) (hn:x≠"__name__":=by decide) (hdb:(x==("__debug__":Str))=false:=by decide)
  (he:starEach (e::es) X.env=(false,eval e X.env)::starEach es X.env:=by rfl) (hpl:(backTo pos (starEach es X.env)).any (·.1)=false:=by rfl):PE X (.Call (.Name x p) (e::es) [] pos) (mD r t):=by
 intro pins s σ H Q I h;refine wpAny_Call_Name_kw (X4 I hg hm hv ?_ hn hdb);exact PyProof.Rows.callWith_type1 (aM (ha pos pins s σ H _ I h) fun us s1 ⟨vs,H1,I1,r1,q1⟩=>hc pins s1 σ H1 vs us Q I1 r1 q1) he hpl
end
end L2
namespace HT
open PySem PyProof.Rows
section
variable {prog:Program} {w:World} {A:Around} {E:Value->Shared->Prop} {s:Shared}
def cT (n d:Nat):Option Int->Nat
 | none=>d
 | some v=>if v<0 then (v+(n:Int)).toNat else min v.toNat n
theorem j4 (n d:Nat):cT n d none=d:=rfl
theorem fL (n d k:Nat):cT n d (some (k:Int))=min k n:=by
 show (if (k:Int)<0 then ((k:Int)+(n:Int)).toNat else min (k:Int).toNat n)=min k n
 rw [if_neg (by omega),Int.toNat_natCast]
end
end HT
namespace L2
open PySem PySem.Spec PyProof.Rows
abbrev TO:=St->Hp->(Option Int->Hp->Prop)->Prop
def PO (X:Cx) (e:Option Expr) (t:TO):Prop :=
 ∀ (pins:List (Addr×Obj)) (s:Shared) (σ:St) (H:Hp) (Q:Option Int->Hp->Prop),Inv X pins σ H s->t σ H Q ->
  wpAny (model X.prog X.w) X.A (evalPart e X.env) (fun u s'=>∃ o H',Inv X pins σ H' s'/\IsPart u o/\Q o H') X.xe s
def U6:TO:=fun _ H Q=>Q none H
def wu (t:TE):TO:=fun σ H Q=>t σ H fun x H1=>kI x fun i=>Q (some i) H1
theorem Oc {ns:List Int}:∀ {us:List Value},Yt (ns.map V.int) us->IntsAre us ns:=by
 induction ns with
 | nil=>intro us r;rw [List.map_nil] at r;cases r;exact .nil
 | cons n ns ih =>
  intro us r;rw [List.map_cons] at r
  cases r with
  | cons r1 r2 =>
   obtain ⟨t,e⟩:=r1;subst e;exact .cons n t (ih r2)
section
variable {X:Cx} {e:Expr} {te:TE} {lo hi:Option Expr} {tl th:TO} {pos p2:Pos}
theorem VY:PO X none U6:=by
 intro pins s σ H Q I h;rw [evalPart_none];exact wpAny_pure ⟨none,H,I,.none,h⟩
theorem WF (h:PE X e te):PO X (some e) (wu te):=by
 intro pins s σ H Q I hw;rw [evalPart_some];refine aM (h pins s σ H _ I hw) fun u s1 ⟨x,H1,I1,r1,q1⟩=>?_
 obtain ⟨i,rfl,q⟩:=U0.mp q1;obtain ⟨t,rfl⟩:=r1;exact ⟨some i,H1,I1,.int i t,q⟩
def wz (X:Cx) (r:V->Option Int->Option Int->Hp->VK->Prop):Prop :=
 ∀ (pins:List (Addr×Obj)) (s:Shared) (σ:St) (H:Hp) (x:V) (v vl vu:Value) (lo hi:Option Int) (sl:Addr) (Q:VK),Inv X pins σ H s->Yw x v->s.heap.IsSliceOf sl vl vu .none->IsPart vl lo->IsPart vu hi->r x lo hi H Q ->
  ∃ T id,typeLookup (.type T) "__getitem__"=pure (some (.builtin id))/\s.TypeIs v T/\wpAny (model X.prog X.w) X.A (getItem v (.ref sl)) (EP X pins σ Q) X.xe s
def wA (r:V->Option Int->Option Int->Hp->VK->Prop) (te:TE) (tl th:TO):TE:=fun σ H Q=>te σ H fun x H1=>tl σ H1 fun l H2=>th σ H2 fun u H3=>r x l u H3 Q
theorem WL {r:V->Option Int->Option Int->Hp->VK->Prop} (hr:wz X r) (he:PE X e te) (hl:PO X lo tl) (hu:PO X hi th):PE X (.Subscript e (.Slice lo hi none p2) pos) (wA r te tl th):=by
 intro pins s σ H Q I h;refine Subscript_ (aM (he pins s σ H _ I h) fun v s1 ⟨x,H1,I1,r1,q1⟩=>?_);refine wpAny_Slice (aM (hl pins s1 σ H1 _ I1 q1) fun vl s2 ⟨l,H2,I2,pl,q2⟩=>aM (hu pins s2 σ H2 _ I2 q2) fun vu s3 ⟨u,H3,I3,pu,q3⟩=>?_);rw [evalPart_none];refine wpAny_pure ?_;have I4:Inv X pins σ H3 { s3 with heap:=s3.heap.push { cls := .type "slice",data := .fields #[vl,vu,.none] } }:=I3.kept (t':=s3.toks) fun b ob q=>Heap.get?_push_of_some _ q
 obtain ⟨T,id,hT,ht,hg⟩:=hr pins { s3 with heap:=s3.heap.push { cls := .type "slice",data := .fields #[vl,vu,.none] } } σ H3 x v vl vu l u s3.heap.objs.size Q I4 r1 (Heap.IsSliceOf.new ..) pl pu q3
 show wpAny (model X.prog X.w) X.A (subscriptTail e (.Slice lo hi none p2) v (.ref s3.heap.objs.size)) (EP X pins σ Q) X.xe { s3 with heap:=s3.heap.push { cls := .type "slice",data := .fields #[vl,vu,.none] } }
 exact tail_any (ops:=[.ref s3.heap.objs.size,v]) ht hT hg (by with_unfolding_all rfl)
def W7 (xs:List V) (lo hi:Option Int):List V:=(xs.drop (HT.cT xs.length 0 lo)).take (HT.cT xs.length xs.length hi - HT.cT xs.length 0 lo)
theorem Od (xs:List V) (lo hi:Option Int):(W7 xs lo hi).length<=xs.length:=by
 unfold W7;rw [List.length_take,List.length_drop];omega
end
def gQ (n:Nat) (i:Int):Option Nat:=if 0<=i then (if i<n then some i.toNat else none) else if -(n:Int)<=i then some (i+n).toNat else none
def fY {α:Type} (xs:List α) (i:Int):Option α:=(gQ xs.length i).bind fun j=>xs[j]?
theorem Oe {n:Nat} {i:Int} {j:Nat} (h:gQ n i=some j):seqIndex? i n=some j/\j<n /\ -(n:Int)<=i/\i<n:=by
 unfold gQ at h;by_cases h0:0<=i
 ·rw [if_pos h0] at h
  by_cases h1:i<n
  ·rw [if_pos h1] at h
   have e:i.toNat=j:=Option.some.inj h;exact ⟨by rw [seqIndex_of h0 h1,e],by omega,by omega,h1⟩
  ·rw [if_neg h1] at h;cases h
 ·rw [if_neg h0] at h
  by_cases h1 : -(n:Int)<=i
  ·rw [if_pos h1] at h
   have e:(i+n).toNat=j:=Option.some.inj h;exact ⟨by rw [seqIndex_neg (by omega) h1,e],by omega,h1,by omega⟩
  ·rw [if_neg h1] at h;cases h
theorem Er {α:Type} {xs:List α} {i:Int} {v:α} (h:fY xs i=some v):∃ j,seqIndex? i xs.length=some j/\xs[j]?=some v/\j<xs.length /\ -(xs.length:Int)<=i/\i<xs.length:=by
 unfold fY at h
 cases e:gQ xs.length i with
 | none=>rw [e] at h;cases h
 | some j =>
  rw [e] at h
  obtain ⟨h1,h2,h3,h4⟩:=Oe e;exact ⟨j,h1,h,h2,h3,h4⟩
theorem Ys {α:Type} {xs:List α} {j:Nat} {v:α} (h:xs[j]?=some v):fY xs (j:Int)=some v:=by
 have hj:j<xs.length:=(List.getElem?_eq_some_iff.mp h).1;have e:gQ xs.length (j:Int)=some j:=by
  unfold gQ;rw [if_pos (by omega),if_pos (by omega)];simp
 unfold fY;rw [e];exact h
def Og (b:Expr):Prop:=∀ o i,subscripted b false o i=operate [o,i] (getItem o i)
def sJ (X:Cx) (r:R2):Prop :=
 ∀ (value slice:Expr) (pins:List (Addr×Obj)) (s:Shared) (σ:St) (H:Hp) (x y:V) (v u:Value) (Q:VK),Inv X pins σ H s->Yw x v->Yw y u->r x y H Q ->
  subscripted slice false v u=operate [v,u] (getItem v u)->wpAny (model X.prog X.w) X.A (subscriptTail value slice v u) (EP X pins σ Q) X.xe s
def j5 (X:Cx) (id:String) (r:V->List V->Hp->VK->Prop):Prop :=
 ∀ (pins:List (Addr×Obj)) (s:Shared) (σ:St) (H:Hp) (x:V) (xs:List V) (v:Value) (us:List Value) (Q:VK),Inv X pins σ H s->Yw x v->Yt xs us->r x xs H Q ->
  wpAny (model X.prog X.w) X.A (call (.builtin id) (v::us)) (EP X pins σ Q) X.xe s
section
variable {X:Cx} {a b:Expr} {ta tb:TE} {pos:Pos}
theorem Yy {r:R2} (hr:sJ X r) (ha:PE X a ta) (hb:PE X b tb) (hs:Og b):PE X (.Subscript a b pos) (iU r ta tb):=by
 intro pins s σ H Q I h;exact Subscript_ (qL ha hb I h fun v u s2 x y H2 I2 rx ry q=>hr a b pins s2 σ H2 x y v u Q I2 rx ry q (hs _ _))
inductive mF (S:List V->Prop) (i:Int) (Q:V->Prop):Prop
 | mk (xs:List V) (h:S xs) (v:V) (e:fY xs i=some v) (q:Q v)
def qR (K:W.Frag):R2:=fun x y H Q=>kR x fun p=>kI y fun i=>mF (aJ K H p) i fun v=>Q v H
theorem mF.e {S:Addr->List V->Prop} {x y:V} {Q:V->Prop} (h:kR x fun p=>kI y fun i=>mF (S p) i Q):∃ p xs i v,x = .ref p/\y = .int i/\S p xs/\fY xs i=some v/\Q v:=by
 obtain ⟨p,e1,h⟩:=W5.mp h;obtain ⟨i,e2,xs,h1,v,h2,h3⟩:=U0.mp h;exact ⟨p,xs,i,v,e1,e2,h1,h2,h3⟩
def sO (K:W.Frag):R2:=fun x y H Q=>kR x fun p=>kI y fun i=>mF (aK K H p) i fun v=>Q v H
theorem Y8:sJ X (qR X.K):=by
 intro value slice pins s σ H x y v u Q I rx ry h hs
 replace h:=mF.e h
 obtain ⟨p,xs,i,z,rfl,rfl,hq,he,q⟩:=h
 cases rx
 obtain ⟨t,rfl⟩:=ry;obtain ⟨its,r,pl,hz⟩:=I.list hq;obtain ⟨j,h1,h2,h3,h4,h5⟩:=Er he;obtain ⟨w,ew,mG⟩:=r.get h2;have hl:=r.length;have hn:=UE;have fin:EP X pins σ Q w s:=⟨z,H,I,mG,q⟩;by_cases h0:0<=i
 ·have hj:i.toNat=j:=by
   rw [seqIndex_of h0 h5] at h1
   exact Option.some.inj h1
  exact item_listR pl.isList h0 (by omega) (by rw [hj];simpa using ew) fin hs
 ·have hj:(i+(its.toArray.size:Int)).toNat=j:=by
   rw [seqIndex_neg (by omega) h4] at h1
   rw [List.size_toArray,<- hl];exact Option.some.inj h1
  exact subscriptTail_builtinR (x:=w) pl.isList.typeIs slot_list_getitem.lookup
   (wpAny_getItem_list_neg (Q:=fun r s'=>r=w/\EP X pins σ Q r s') pl.isList (by omega) (by rw [List.size_toArray]<;>omega) (by omega) (by rw [hj];simpa using ew) ⟨rfl,fin⟩) hs
theorem YM:sJ X (sO X.K):=by
 intro value slice pins s σ H x y v u Q I rx ry h hs
 replace h:=mF.e h
 obtain ⟨p,xs,i,z,rfl,rfl,hq,he,q⟩:=h
 cases rx
 obtain ⟨t,rfl⟩:=ry;obtain ⟨its,r,pl,hz⟩:=I.tuple hq;obtain ⟨j,h1,h2,h3,h4,h5⟩:=Er he;obtain ⟨w,ew,mG⟩:=r.get h2;have hl:=r.length;have hn:=UE;have fin:EP X pins σ Q w s:=⟨z,H,I,mG,q⟩;exact subscriptTail_builtinR (x:=w) pl.typeIs slot_tuple_getitem.lookup
  (getItem_tuple (j:=j) (Q:=fun r s'=>r=w/\EP X pins σ Q r s') pl (by omega) (by omega) (by rw [List.size_toArray,<- hl];exact h1) (by simpa using ew) ⟨rfl,fin⟩) hs
def Es:V->V->V->Hp->(Hp->Prop)->Prop:=fun o i v H Q=>∃ p xs k j,o = .ref p/\i = .int k/\H p=some (.lst xs)/\gQ xs.length k=some j/\Q (upd H p (.lst (xs.set j v)))
theorem Oh (lo hi:Option Int) (n:Nat):(sliceBounds lo hi none n).1=((HT.cT n 0 lo:Nat):Int)/\(sliceBounds lo hi none n).2.1=((HT.cT n n hi:Nat):Int)/\(sliceBounds lo hi none n).2.2=1:=by
 refine ⟨?_,?_,rfl⟩
 ·cases lo with
  | none=>simp [sliceBounds,HT.cT]
  | some i =>
   simp only [sliceBounds,HT.cT,Option.getD_none,show (1:Int)>0 by decide,if_true];by_cases h:i<0
   ·simp only [h,if_true]<;>omega
   ·simp only [h,if_false]<;>omega
 ·cases hi with
  | none=>simp [sliceBounds,HT.cT]
  | some i =>
   simp only [sliceBounds,HT.cT,Option.getD_none,show (1:Int)>0 by decide,if_true];by_cases h:i<0
   ·simp only [h,if_true]<;>omega
   ·simp only [h,if_false]<;>omega
theorem QQ (its:List Value) (lo hi:Option Int):slicePick its.toArray lo hi none=((its.drop (HT.cT its.length 0 lo)).take (HT.cT its.length its.length hi - HT.cT its.length 0 lo)).toArray:=by
 obtain ⟨h1,h2,h3⟩:=Oh lo hi its.toArray.size;unfold slicePick;rw [h1,h2,h3];simp only [sliceRange_one,pick_run,List.size_toArray]<;>rfl
inductive Oi (K:W.Frag) (H:Hp) (a:Addr) (Q:List V->Prop):Prop
 | mk (xs:List V) (h:aJ K H a xs) (q:Q xs)
def sS (K:W.Frag):V->Option Int->Option Int->Hp->VK->Prop:=fun x lo hi H Q=>kR x fun a=>Oi K H a fun xs=>∀ p,H p=none->Q (.ref p) (upd H p (.lst (W7 xs lo hi)))
theorem Et:wz X (sS X.K):=by
 intro pins s σ H x v vl vu lo hi sl Q I rx hs pl pu h;obtain ⟨a,rfl,xs,hx,q⟩:=W5.mp h
 cases rx
 obtain ⟨its,r,ht,hz⟩:=I.list hx;have hlen:=r.length;refine ⟨"list",_,slot_list_getitem.lookup,ht.isList.typeIs,?_⟩;refine wpAny_getItem_list_slice ht.isList hs pl pu .none (by simp) ?_ (by rw [List.size_toArray]<;>omega);rw [QQ,<- hlen];refine ⟨.ref s.heap.objs.size,_,I.laid (t':=s.toks) (o := .lst (W7 xs lo hi)) (fun b ob q=>Heap.get?_push_of_some _ q) (Nat.le_refl _) ?_,rfl,q _ (I.hok.fresh (Nat.le_refl _))⟩;exact ⟨Nat.le_trans (Od xs lo hi) hz,_,0,(r.drop (HT.cT xs.length 0 lo)).take (HT.cT xs.length xs.length hi - HT.cT xs.length 0 lo),Heap.get?_push_size _ rfl⟩
def WZ:V->Bool
 | .non=>true
 | .bl _=>true
 | .int _=>true
 | .str _=>true
 | _=>false
def iV:V->V->Bool
 | .non,.non=>true
 | .bl a,.bl b=>a==b
 | .bl a,.int b=>(if a then 1 else 0)==b
 | .int a,.bl b=>a==(if b then 1 else 0)
 | .int a,.int b=>a==b
 | .str a,.str b=>a==b
 | _,_=>false
theorem Oj {A:Around} {s:Shared} {y x:V} {u v:Value} (ry:Yw y u) (rx:Yw x v) (fy:WZ y=true) (fx:WZ x=true):SeqAt.EqAt A s u v (iV y x):=by
 cases y with
 | non =>
  cases ry
  cases x with
  | non=>cases rx;exact SeqAt.EqAt.same _
  | bl b=>cases rx;exact SeqAt.EqAt.none_bool b
  | int b=>obtain ⟨t,rfl⟩:=rx;exact SeqAt.EqAt.none_int b t
  | str b=>obtain ⟨t,rfl⟩:=rx;exact SeqAt.EqAt.none_str b t
  | _=>exact absurd (show false=true from fx) Bool.false_ne_true
 | bl a =>
  cases ry
  cases x with
  | non=>cases rx;exact SeqAt.EqAt.bool_none a
  | bl b=>cases rx;exact SeqAt.EqAt.bool_bool a b
  | int b=>obtain ⟨t,rfl⟩:=rx;exact SeqAt.EqAt.bool_int a b t
  | str b=>obtain ⟨t,rfl⟩:=rx;exact SeqAt.EqAt.bool_str a b t
  | _=>exact absurd (show false=true from fx) Bool.false_ne_true
 | int a =>
  obtain ⟨t',rfl⟩:=ry
  cases x with
  | non=>cases rx;exact SeqAt.EqAt.int_none a t'
  | bl b=>cases rx;exact SeqAt.EqAt.int_bool a t' b
  | int b=>obtain ⟨t,rfl⟩:=rx;exact SeqAt.EqAt.int_int a t' b t
  | str b=>obtain ⟨t,rfl⟩:=rx;exact SeqAt.EqAt.int_str a t' b t
  | _=>exact absurd (show false=true from fx) Bool.false_ne_true
 | str a =>
  obtain ⟨t',rfl⟩:=ry
  cases x with
  | non=>cases rx;exact SeqAt.EqAt.str_none a t'
  | bl b=>cases rx;exact SeqAt.EqAt.str_bool a t' b
  | int b=>obtain ⟨t,rfl⟩:=rx;exact SeqAt.EqAt.str_int a t' b t
  | str b=>obtain ⟨t,rfl⟩:=rx;exact SeqAt.EqAt.str_str a t' b t
  | _=>exact absurd (show false=true from fx) Bool.false_ne_true
 | _=>exact absurd (show false=true from fy) Bool.false_ne_true
def gU (x:V) (u:Value):Bool:=match u with
 | .none=>iV .non x
 | .bool b=>iV (.bl b) x
 | .int i _=>iV (.int i) x
 | .str z _=>iV (.str z) x
 | _=>false
theorem Eu {x y:V} {u:Value} (r:Yw y u) (f:WZ y=true):gU x u=iV y x:=by
 cases y with
 | non=>cases r;rfl
 | bl b=>cases r;rfl
 | int i=>obtain ⟨t,rfl⟩:=r;rfl
 | str z=>obtain ⟨t,rfl⟩:=r;rfl
 | _=>exact absurd (show false=true from f) Bool.false_ne_true
theorem U7 {x:V}:∀ {xs:List V} {us:List Value},Yt xs us->xs.all WZ=true->us.any (gU x)=xs.any fun y=>iV y x
 | _,_,.nil,_=>rfl
 | y::xs,u::us,.cons r t,f=>by
  rw [List.all_cons,Bool.and_eq_true] at f
  rw [List.any_cons,List.any_cons,Eu r f.1,U7 t f.2]
theorem Uo {A:Around} {s:Shared} {x:V} {v:Value} (rx:Yw x v) (fx:WZ x=true):∀ {xs:List V} {us:List Value},Yt xs us->xs.all WZ=true->∀ u∈us,SeqAt.EqAt A s u v (gU x u)
 | _,_,.nil,_=>fun u hu=>by cases hu
 | y::xs,u::us,.cons r t,f=>fun u' hu=>by
  rw [List.all_cons,Bool.and_eq_true] at f
  rcases List.mem_cons.mp hu with rfl | hu
  ·rw [Eu r f.1];exact Oj r rx f.1 fx
  ·exact Uo rx fx t f.2 u' hu
def inV (x:V) (xs:List V):Bool:=xs.any fun y=>iV y x
def wB (K:W.Frag) (neg:Bool):R2:=fun x y H Q=>∃ p xs,y = .ref p/\(aJ K H p xs\/aK K H p xs)/\WZ x=true/\xs.all WZ=true/\Q (.bl (if neg then !inV x xs else inV x xs)) H
theorem QC:bF X (compareOp .In) (wB X.K false):=by
 intro pins s σ H x y v u Q I rx ry h;obtain ⟨p,xs,rfl,hq,fx,fs,q⟩:=h
 cases ry
 rcases hq with hq | hq
 ·obtain ⟨its,r,pl,hz⟩:=I.list hq
  refine SeqAt.in_listAt (gU x) pl.isList (fun w hw=>Uo rx fx r fs w (by simpa using hw)) ⟨.bl _,H,I,rfl,?_⟩;rw [show its.toArray.any (gU x)=its.any (gU x) by simp,U7 r fs];exact q
 ·obtain ⟨its,r,pl,hz⟩:=I.tuple hq
  refine SeqAt.in_tupleAt (gU x) pl (fun w hw=>Uo rx fx r fs w (by simpa using hw)) ⟨.bl _,H,I,rfl,?_⟩;rw [show its.toArray.any (gU x)=its.any (gU x) by simp,U7 r fs];exact q
inductive KQ (K:W.Frag) (H:Hp) (p:Addr) (Q:Int->Prop):Prop
 | mk (ys:List V) (h:aJ K H p ys\/aK K H p ys) (q:Q ys.length)
def qT (K:W.Frag):List V->Hp->VK->Prop:=fun xs H Q=>k1 xs fun x=>kR x fun p=>KQ K H p fun n=>Q (.int n) H
theorem YW:Xl X (.builtin "len") (qT X.K):=by
 intro pins s σ H xs us Q I r h;obtain ⟨x,rfl,h1⟩:=vK h;obtain ⟨p,rfl,ys,hq,q⟩:=W5.mp h1;obtain ⟨u,rfl,rx⟩:=WY r
 cases rx
 have hn:=UE;rcases hq with hq | hq
 ·obtain ⟨its,r',pl,hz⟩:=I.list hq
  have hlen:=r'.length;exact Calls.call_len_list pl.isList (by simp only [List.size_toArray]<;>omega) ⟨.int ys.length,H,I.tok _,⟨s.toks+1,by rw [List.size_toArray,hlen]⟩,q⟩
 ·obtain ⟨its,r',pl,hz⟩:=I.tuple hq
  have hlen:=r'.length;exact len_tuple pl (by simp only [List.size_toArray]<;>omega) ⟨.int ys.length,H,I.tok _,⟨s.toks+1,by rw [List.size_toArray,hlen]⟩,q⟩
theorem WM:Xl X (.builtin "len") (fun xs H Q=>∃ z,xs=[.str z]/\z.length<=sizeLine/\Q (.int z.length) H):=by
 intro pins s σ H xs us Q I r h;obtain ⟨z,rfl,hz,q⟩:=h;obtain ⟨u,rfl,t,rfl⟩:=WY r;have hn:=UE;exact len_str (by omega) ⟨.int z.length,H,I.tok _,⟨_,rfl⟩,q⟩
theorem VH:Xl X (.type "list") (fun xs H Q=>∃ p ys,xs=[.ref p]/\(aJ X.K H p ys\/aK X.K H p ys)/\∀ l,H l=none->Q (.ref l) (upd H l (.lst ys))):=by
 intro pins s σ H xs us Q I r h;obtain ⟨p,ys,rfl,hq,q⟩:=h;obtain ⟨u,rfl,rx⟩:=WY r
 cases rx
 have fin:∀ (its:List Value),Yt ys its->ys.length<=sizeLine->∀ (h':Heap) (c':Nat),(∀ b o',s.heap.get? b=some o'->h'.get? b=some o') ->
   h'.get? s.heap.objs.size=some { cls := .type "list",dict:=none,data := .seq its.toArray c',slots:=#[] }->EP X pins σ Q (.ref s.heap.objs.size) { s with heap:=h' }:=fun its r' hz h' c' kp e =>
  ⟨.ref s.heap.objs.size,_,I.laid (t':=s.toks) kp (Nat.le_refl _) (show YN X.prog X.w _ h' _ (.lst ys) from ⟨hz,its,c',r',e⟩),rfl,q _ (I.hok.fresh (Nat.le_refl _))⟩
 rcases hq with hq | hq
 ·obtain ⟨its,r',pl,hz⟩:=I.list hq
  have hlen:=r'.length;obtain ⟨o,ho,hc,n,hd⟩:=pl.isList;exact call_list_seq p (.inl rfl) ho hc hd (fun h' c' kp e=>fin its r' hz h' c' kp e) (by simp only [List.size_toArray]<;>omega)
 ·obtain ⟨its,r',pl,hz⟩:=I.tuple hq
  have hlen:=r'.length;obtain ⟨o,ho,hc,n,hd⟩:=pl;exact call_list_seq p (.inr rfl) ho hc hd (fun h' c' kp e=>fin its r' hz h' c' kp e) (by simp only [List.size_toArray]<;>omega)
theorem XA:Xl X (.type "tuple") (fun xs H Q=>∃ p ys,xs=[.ref p]/\((aJ X.K H p ys/\∀ l,H l=none->Q (.ref l) (upd H l (.tup ys)))\/(aK X.K H p ys/\Q (.ref p) H))):=by
 intro pins s σ H xs us Q I r h;obtain ⟨p,ys,rfl,h⟩:=h;obtain ⟨u,rfl,rx⟩:=WY r
 cases rx
 rcases h with ⟨hq,q⟩ | ⟨hq,q⟩
 ·obtain ⟨its,r',pl,hz⟩:=I.list hq
  have hlen:=r'.length;refine call_tuple_list pl.isList (fun h' kp=>?_) (by simp only [List.size_toArray]<;>omega);have I1:Inv X pins σ H { s with heap:=h' }:=I.kept (t':=s.toks) kp;have I2:Inv X pins σ (upd H h'.objs.size (.tup ys)) { s with heap:=h'.push { cls := .type "tuple",data := .seq its.toArray } } :=
   I1.laid (t':=s.toks) (fun b o e=>Heap.get?_push_of_some _ e) (Nat.le_refl _) (show YN X.prog X.w _ _ _ (.tup ys) from ⟨hz,its,r',IsTup.new _ _⟩)
  exact ⟨.ref h'.objs.size,_,I2,rfl,q _ (I1.hok.fresh (Nat.le_refl _))⟩
 ·obtain ⟨its,r',pl,hz⟩:=I.tuple hq
  exact call_tuple_same pl ⟨.ref p,H,I,rfl,q⟩
def wC (K:W.Frag) (T:String) (x:V) (H:Hp):Prop:=match x with
 | .str _=>T="str"
 | .int _=>T="int"
 | .ref p=>(T="list"/\∃ xs,aJ K H p xs)\/(T="tuple"/\∃ o,K.lookup p=some o/\o.cls = .type "tuple"/\o.dict=none) \/
   (T="dict"/\((∃ kvs,H p=some (.dK kvs))\/∃ kvs,H p=some (.dT kvs)))\/(T="set"/\∃ S n,H p=some (.set S n))
 | _=>False
theorem Ew {pins:List (Addr×Obj)} {σ:St} {H:Hp} {s:Shared} {T:String} {x:V} {v:Value} (I:Inv X pins σ H s) (r:Yw x v) (ty:wC X.K T x H) :
  s.TypeIs v T/\∀ a,v = .ref a->∃ ob,s.heap.get? a=some ob/\ob.dict=none:=by
 cases x with
 | str z =>
  obtain ⟨t,rfl⟩:=r
  cases (show T="str" from ty)
  exact ⟨typeIs_str s z t,fun _ e=>nomatch e⟩
 | int i =>
  obtain ⟨t,rfl⟩:=r
  cases (show T="int" from ty)
  exact ⟨typeIs_int s i t,fun _ e=>nomatch e⟩
 | ref p =>
  cases r
  rcases ty with ⟨rfl,xs,hq⟩ | ⟨rfl,o,hk,hc,hd⟩ | ⟨rfl,hk⟩ | ⟨rfl,S,n,hk⟩
  ·obtain ⟨its,_,pl,_⟩:=I.list hq
   refine ⟨pl.isList.typeIs,fun a e=>?_⟩
   cases e
   obtain ⟨o,n,e,c,hd,_⟩:=pl;exact ⟨o,e,hd⟩
  ·refine ⟨⟨o,I.aR p o hk,hc⟩,fun a e=>?_⟩
   cases e
   exact ⟨o,I.aR _ o hk,hd⟩
  ·have z:∃ o,s.heap.get? p=some o/\o.ExactDict:=by
    rcases hk with ⟨kvs,hk⟩ | ⟨kvs,hk⟩
    ·obtain ⟨_,_,_,_,o,_,_,e,ex,_⟩:=I.hok p _ hk
     exact ⟨o,e,ex⟩
    ·obtain ⟨_,_,_,_,o,_,_,e,ex,_⟩:=I.hok p _ hk
     exact ⟨o,e,ex⟩
   obtain ⟨o,e,ex⟩:=z;refine ⟨⟨o,e,ex.1⟩,fun a e2=>?_⟩
   cases e2
   exact ⟨o,e,ex.2.1⟩
  ·obtain ⟨o,_,_,_,e,ex,_⟩:=I.hok p _ hk
   refine ⟨⟨o,e,ex.1⟩,fun a e2=>?_⟩
   cases e2
   exact ⟨o,e,ex.2.1⟩
 | _=>exact False.elim ty
def sU (K:W.Frag) (T:String) (r:V->List V->Hp->VK->Prop) (to:TE):TE:=fun σ H Q=>to σ H fun x H1=>wC K T x H1/\r x [] H1 Q
def sV (K:W.Frag) (T:String) (r:V->List V->Hp->VK->Prop) (to:TE) (t:TA):TE:=fun σ H Q=>to σ H fun x H1=>wC K T x H1/\t σ H1 fun xs H2=>r x xs H2 Q
variable {o e:Expr} {es:List Expr} {to:TE} {t:TA} {name:Str} {apos cpos:Pos} {T id:String} {r:V->List V->Hp->VK->Prop}
theorem Ey (pa:PlainAttrs T) (slot:Slot T name id) (hty:typeOf (.builtin id)=pure (.type "method_descriptor")) (hm:j5 X id r) (ho:PE X o to)
  (hbase:attributeBase o name X.env (eval o X.env)=eval o X.env:=by rfl) (hline:(apos.endLine==cpos.line)=true:=by rfl):PE X (.Call (.Attribute o name apos) [] [] cpos) (sU X.K T r to):=by
 intro pins s σ H Q I h;refine wpAny_Call_method0_late hbase hline (aM (ho pins s σ H _ I h) fun v s1 ⟨x,H1,I1,r1,ty,q1⟩=>?_);obtain ⟨h1,h2⟩:=Ew I1 r1 ty;exact ⟨T,id,pa,slot,hty,h1,h2,Calls.callWith_builtin rfl (PySem.evalArgs_none (hm pins s1 σ H1 x [] v [] Q I1 r1 .nil q1))⟩
theorem WC (pa:PlainAttrs T) (slot:Slot T name id) (hty:typeOf (.builtin id)=pure (.type "method_descriptor")) (hm:j5 X id r) (ho:PE X o to) (ha:PA X (e::es) t)
  (hbase:attributeBase o name X.env (eval o X.env)=eval o X.env:=by rfl)
  (hfew:((backTo cpos (starEach (e::es) X.env)).all (fun x => !x.1)&&(backToKw cpos (keywordEach [] X.env)).all (fun x=>x.1.isSome)
   && decide ((e::es).length+([]:List Keyword).length+(if ([]:List Keyword).isEmpty then 0 else 1)<30))=true:=by rfl)
  (hline:(apos.endLine==cpos.line)=true:=by rfl) (hs:starEach (e::es) X.env=(false,eval e X.env)::starEach es X.env:=by rfl) (hplain:(backTo cpos (starEach es X.env)).any (·.1)=false:=by rfl) :
  PE X (.Call (.Attribute o name apos) (e::es) [] cpos) (sV X.K T r to t):=by
 intro pins s σ H Q I h;refine wpAny_Call_method_late hbase hfew hline rfl (aM (ho pins s σ H _ I h) fun v s1 ⟨x,H1,I1,r1,ty,q1⟩=>?_);obtain ⟨h1,h2⟩:=Ew I1 r1 ty;refine ⟨T,id,pa,slot,hty,h1,h2,?_⟩;have hA:=ha cpos pins s1 σ H1 _ I1 q1;rw [hs] at hA ⊢
 refine Calls.callWith_builtin (by show (false||(backTo cpos (starEach es X.env)).any (·.1))=false;rw [hplain]<;>rfl) (Calls.evalArgs_plain ?_);exact aM hA fun us s2 ⟨vs,H2,I2,r2,q2⟩=>hm pins s2 σ H2 x vs v us Q I2 r1 r2 q2
/- xs.append(e),list.index on a module's tuple .. are j5 facts of 06m -/
end
def Ez (X:Cx) (id:String) (r:V->List V->Hp->VK->Prop):Prop :=
 ∀ (pins:List (Addr×Obj)) (s:Shared) (σ:St) (H:Hp) (x:V) (xs:List V) (v:Value) (us:List Value) (Q:VK),Inv X pins σ H s->Yw x v->Yt xs us->r x xs H Q ->
  wpAny (model X.prog X.w) X.A (call (.builtin id) (v::us)) (EP X pins σ Q) X.xe s
theorem Yt.one:∀ {x:V} {us:List Value},Yt [x] us->∃ u,us=[u]/\Yw x u
 | _,_,.cons r .nil=>⟨_,rfl,r⟩
theorem Yt.two:∀ {x y:V} {us:List Value},Yt [x,y] us->∃ u v,us=[u,v]/\Yw x u/\Yw y v
 | _,_,_,.cons r (.cons q .nil)=>⟨_,_,rfl,r,q⟩
theorem Yt.zero:∀ {us:List Value},Yt [] us->us=[]
 | _,.nil=>rfl
theorem Yt.reverse {xs:List V} {us:List Value} (h:Yt xs us):Yt xs.reverse us.reverse:=by
 induction h with
 | nil=>exact .nil
 | cons r t ih=>rw [List.reverse_cons,List.reverse_cons];exact Yt.append ih (.cons r .nil)
theorem Yt.rep {xs:List V} {us:List Value} (h:Yt xs us):∀ k:Nat,Yt (List.replicate k xs).flatten (List.replicate k us).flatten
 | 0 => .nil
 | k+1=>by
  rw [List.replicate_succ,List.replicate_succ,List.flatten_cons,List.flatten_cons];exact Yt.append h (Yt.rep h k)
theorem QD (its:List Value):∀ (k:Nat) (acc:List Value),
  List.foldl (fun x1 x2=>x1++x2) acc.toArray (List.replicate k its.toArray)=(acc++(List.replicate k its).flatten).toArray
 | 0,acc=>by simp
 | k+1,acc=>by
  have e:acc.toArray++its.toArray=(acc++its).toArray:=by simp
  have e2:(acc++its)++(List.replicate k its).flatten=acc++(List.replicate (k+1) its).flatten:=by
   rw [List.replicate_succ,List.flatten_cons,List.append_assoc]
  rw [<- e2,<- QD its k (acc++its),<- e,List.replicate_succ,List.foldl_cons]
section
variable {X:Cx} {pins:List (Addr×Obj)} {σ:St} {H:Hp} {s:Shared} {l b:Addr} {xs ys zs:List V}
theorem Inv.wD {its its':List Value} {n:Nat} {f:Array Value->Array Value} {t':Nat} (I:Inv X pins σ H s) (hH:H l=some (.lst xs))
  (e:s.heap.get? l=some { cls := .type "list",data := .seq its.toArray n }) (hf:f its.toArray=its'.toArray) (hv:Yt ys its') (hz:ys.length<=sizeLine) :
  Inv X pins σ (upd H l (.lst ys)) { s with heap:=s.heap.update l (Obj.mapSeq f),toks:=t' }:=by
 have q:=PySem.IsL.update e f;rw [hf] at q
 refine I.write (x:=l) (e:=l) (by rw [hH];exact trivial) (.inl rfl) (fun b' u hb hu=>(Heap.get?_update_other s.heap (Obj.mapSeq f) (Ne.symm hb)).trans hu) ⟨_,q⟩ ?_;exact ⟨hz,its',_,hv,q⟩
theorem Inv.qU {its:List Value} {t':Nat} (I:Inv X pins σ H s) (hv:Yt ys its) (hz:ys.length<=sizeLine) :
  Inv X pins σ (upd H s.heap.objs.size (.lst ys)) { s with heap:=s.heap.push { cls := .type "list",data := .seq its.toArray },toks:=t' } :=
 I.laid (fun _ _ q=>Heap.get?_push_of_some _ q) (Nat.le_refl _) ⟨hz,its,0,hv,Heap.get?_push_size _ rfl⟩
theorem Inv.fresh (I:Inv X pins σ H s):H s.heap.objs.size=none:=I.hok.fresh (Nat.le_refl _)
theorem Inv.iJ (I:Inv X pins σ H s) (hH:H l=some (.lst xs)):xs.length<=sizeLine/\∃ (its:List Value) (n:Nat),Yt xs its/\xs.length=its.length/\s.heap.get? l=some { cls := .type "list",data := .seq its.toArray n }:=by
 obtain ⟨z,its,n,r,e⟩:=I.hok l _ hH;exact ⟨z,its,n,r,r.length,e⟩
theorem EY {n:Nat} (h:n<=sizeLine):Builtin.List.listTooLong n=false:=by
 unfold Builtin.List.listTooLong;exact decide_eq_false (by omega)
end
section
variable {X:Cx}
inductive KR (H:Hp) (l:Addr) (Q:List V->Prop):Prop
 | mk (xs:List V) (h:H l=some (.lst xs)) (hz:xs.length<sizeLine) (q:Q xs)
def U8:V->List V->Hp->VK->Prop:=fun x vs H Q=>kR x fun l=>k1 vs fun y=>KR H l fun xs=>Q .non (upd H l (.lst (xs++[y])))
theorem XH:Ez X "list.append" U8:=by
 intro pins s σ H x vs v us Q I rx rv h;obtain ⟨l,rfl,h1⟩:=W5.mp h;obtain ⟨y,rfl,xs,hH,hz,q⟩:=vK h1
 cases rx
 obtain ⟨u,rfl,ru⟩:=rv.one;obtain ⟨z,its,n,r,hl,e⟩:=I.iJ hH;refine call_meets F.slot_list_append ⟨_,e,rfl⟩ F.entry_list_append (F.args_list_append_2 _ _) (PySem.list_append l its.toArray n u (by rw [List.size_toArray];omega)) ⟨e,?_⟩;refine ⟨.non,_,I.wD (its':=its++[u]) hH e (by simp) (r.append (.cons ru .nil)) ?_,rfl,q⟩;rw [List.length_append,List.length_singleton];omega
def Ol:V->List V->Hp->VK->Prop:=fun x vs H Q=>∃ l b xs zs,x = .ref l/\vs=[.ref b]/\H l=some (.lst xs)/\H b=some (.lst zs)/\xs.length+zs.length<=sizeLine/\Q .non (upd H l (.lst (xs++zs)))
theorem QE:Ez X "list.extend" Ol:=by
 intro pins s σ H x vs v us Q I rx rv h;obtain ⟨l,b,xs,zs,rfl,rfl,hH,hB,hz,q⟩:=h
 cases rx
 obtain ⟨u,rfl,ru⟩:=rv.one
 cases ru
 obtain ⟨z,its,n,r,hl,e⟩:=I.iJ hH;obtain ⟨z2,its2,n2,r2,hl2,e2⟩:=I.iJ hB;have hsz:its.toArray.size+its2.toArray.size<=sizeLine:=by rw [List.size_toArray,List.size_toArray];omega
 have nF:¬ (!its.toArray.isEmpty&&Builtin.List.listTooLong (its.toArray.size+its2.toArray.size))=true:=by
  rw [EY hsz,Bool.and_false];exact Bool.false_ne_true
 refine call_meets F.slot_list_extend ⟨_,e,rfl⟩ F.entry_list_extend (F.args_list_extend_2 _ _)
  (AutoSeq1.list_extend_list_list_0 l its.toArray n b its2.toArray n2 nF (by rw [List.size_toArray];omega) (by omega)) ⟨e,e2,?_⟩
 refine ⟨.non,_,I.wD (its':=its++its2) hH e (by simp) (r.append r2) ?_,rfl,q⟩;rw [List.length_append];omega
def Fb:V->List V->Hp->VK->Prop:=fun x vs H Q=>∃ l xs,x = .ref l/\vs=[]/\H l=some (.lst xs)/\Q .non (upd H l (.lst xs.reverse))
inductive KY (H:Hp) (l b:Addr) (Q:List V->List V->Prop):Prop
 | mk (xs:List V) (h:H l=some (.lst xs)) (zs:List V) (h':H b=some (.lst zs)) (hz:xs.length+zs.length<=sizeLine) (q:Q xs zs)
def qW:R2:=fun x y H Q=>kR x fun l=>kR y fun b=>KY H l b fun xs zs=>∀ p,H p=none->Q (.ref p) (upd H p (.lst (xs++zs)))
theorem XB:bF X (binaryOp .Add) qW:=by
 intro pins s σ H x y v u Q I rx ry h;obtain ⟨l,rfl,h1⟩:=W5.mp h;obtain ⟨b,rfl,xs,hH,zs,hB,hz,q⟩:=W5.mp h1
 cases rx
 cases ry
 obtain ⟨z,its,n,r,hl,e⟩:=I.iJ hH;obtain ⟨z2,its2,n2,r2,hl2,e2⟩:=I.iJ hB;refine PySem.P.add_list e e2 ?_ (by rw [List.size_toArray,List.size_toArray];omega);have ea:its.toArray++its2.toArray=(its++its2).toArray:=by simp
 rw [ea];exact ⟨.ref _,_,I.qU (t':=s.toks) (r.append r2) (by rw [List.length_append];omega),rfl,q _ I.fresh⟩
def KZ:R2:=fun x y H Q=>∃ l k xs,x = .ref l/\y = .int k/\H l=some (.lst xs) /\ -(2^63)<=k/\k<2^63/\xs.length*k.toNat<=sizeLine /\
 ∀ p,H p=none->Q (.ref p) (upd H p (.lst (List.replicate k.toNat xs).flatten))
theorem Om {α:Type} (xs:List α) (k:Nat):(List.replicate k xs).flatten.length=k*xs.length:=by
 induction k with
 | zero=>simp
 | succ k ih=>rw [List.replicate_succ,List.flatten_cons,List.length_append,ih,Nat.succ_mul,Nat.add_comm]
theorem Oo:bF X (binaryOp .Mult) KZ:=by
 intro pins s σ H x y v u Q I rx ry h;obtain ⟨l,k,xs,rfl,rfl,hH,h1,h2,hz,q⟩:=h
 cases rx
 obtain ⟨t,rfl⟩:=ry;obtain ⟨z,its,n,r,hl,e⟩:=I.iJ hH;have hlen:its.toArray.size*k.toNat<=sizeLine:=by rw [List.size_toArray,<- hl];exact hz
 have hcap:¬ its.toArray.size*k.toNat>(2^63 - 1) / 8:=by
  have:(sizeLine:Nat)<=(2^63 - 1) / 8:=by decide
  omega
 have hfit:¬ (!Builtin.List.listFitsIndex k)=true:=by
  rw [fitsIndex_both h1 h2];exact Bool.false_ne_true
 have nF:¬ Builtin.List.listTooLong (its.toArray.size*k.toNat)=true:=by
  rw [EY hlen];exact Bool.false_ne_true
 have hnew:List.foldl (fun x1 x2=>x1++x2) #[] (List.replicate (if its.toArray.isEmpty=true then 0 else k.toNat) its.toArray)=(List.replicate k.toNat its).flatten.toArray:=by
  have f0:∀ m:Nat,List.foldl (fun x1 x2=>x1++x2) #[] (List.replicate m its.toArray)=(List.replicate m its).flatten.toArray:=fun m=>by
   have:=QD its m [];rw [List.nil_append] at this
   exact this
  rw [f0]
  cases its with
  | nil=>simp
  | cons a r'=>rw [if_neg (by simp)]
 refine wpAny_binaryOp_repeat_ref (T:="list") (U:="int") (by decide) ⟨_,e,rfl⟩ (fun s'=>typeIs_int s' k t) noFill_list_mul F.fills_int_mul F.slot_int_rmul repeat_list F.slot_int_index.lookup
  (call_meets F.slot_int_rmul (typeIs_int s k t) F.entry_int_rmul (F.args_int_rmul_2 _ _) (int___rmul___int_list k t l its.toArray n)
   ⟨e,rfl,⟨_,e,rfl⟩,call_meets F.slot_list_mul ⟨_,e,rfl⟩ F.entry_list_mul (F.args_list_mul_2 _ _) (AutoListH.list___mul___list_int_3 l its.toArray n k t hfit hcap nF) ⟨e,?_⟩⟩)
 rw [hnew];exact ⟨.ref _,_,I.qU (t':=s.toks) (r.rep k.toNat) (by rw [Om,Nat.mul_comm];exact hz),rfl,q _ I.fresh⟩
end
end L2
namespace Fd
open PySem PySem.W PySem.Calls PyProof.Rows
theorem UI {P:Params} {h:Heap}:∀ (ns:List Int) (vs:List Value),WellAll P h vs (ns.map WData.int)->IntsAre vs ns:=by
 intro ns
 induction ns with
 | nil =>
  intro vs w;rw [List.map_nil] at w
  cases w
  exact .nil
 | cons n ns ih =>
  intro vs w;rw [List.map_cons] at w
  cases w with
  | cons a b =>
   cases a
   exact .cons _ _ (ih _ b)
theorem Oq {l:OpenLaw} {n:Nat} (hn:l.most=some n) {P:Params} {h:Heap} {args:List WData} {vals:List Value}
  (hpre:l.row.toRowW.claim.pre args=true) (hwl:WellAll P h vals args) :
  ∃ a vs ns,vals=[Value.ref a]/\args=[WData.list (ns.map WData.int)]/\h.get? a=some { cls := .type "list",data := .seq vs.toArray }/\IntsAre vs ns/\ns.length<=n:=by
 have hsh:WShape.hasAll [] args [.list .int]=true:=(pre_splitW hpre).1;have hc:l.pre.holds [] { args:=args }=true:=(pre_splitW hpre).2;obtain ⟨d,r,rfl,h1,h2⟩:=hasAllW_cons hsh;obtain rfl:=hasAllW_nil h2;obtain ⟨xs,rfl,h3⟩:=hasW_list h1;obtain ⟨ns,rfl⟩:=items_int h3;have hlen:ns.length<=n:=by
  unfold OpenLaw.pre at hc;have h4:(WTm.not (.lt (.lit (.int (n:Int))) (.len (.arg 0)))).holds [] { args:=[.list (ns.map .int)] }=true:=by
   have h4:=(holds_andW hc).1;rw [hn] at h4
   exact h4
  have h5:=condW_of h4 (w_not (w_lt w_lit (w_len_list (w_arg rfl))));rw [List.length_map] at h5
  refine Nat.le_of_not_lt fun q=>?_
  have q':(n:Int)<((ns.length:Nat):Int):=by omega
  first
   | (rw [decide_eq_true q'] at h5;exact absurd h5 (by decide))
   | (simp at h5;omega)
 cases hwl with
 | cons w1 w2 =>
  cases w2
  cases w1 with
  | list ho hall=>exact ⟨_,_,ns,rfl,rfl,ho,UI ns _ hall,hlen⟩
theorem Ot (l:OpenLaw) (args:List WData):l.row.toRowW.claim.post args (.bool true) args=true :=
 postW_of (r:=l.row.toRowW) (X:=(true==true))
  (show WShape.has [] (.bool true) .bool=true by first | rfl | decide | simp [WShape.has,WShape.arms,WShape.armsAll])
  (show (WTm.eq .res (.lit (.bool true))).value [] { args:=args,res:=some (.bool true),after:=args }=some (.bool (true==true)) from w_eq_bool (w_res rfl) w_lit) rfl
theorem lM {l:OpenLaw} {n:Nat} {q:Program} {loose:List Str} {XP:(Str->Option Value)->Heap->Prop} {YP:World->Heap->Prop} {d:DefRec}
  (hn:l.most=some n) (hdf:d.params.defaults=[])
  (call:∀ (w:World) (s₀ s₁:Shared) (mg mb:Str->Option Value) (fa:Addr) (o:Obj) (pm cd doc:Value) (a:Addr) (vs:List Value) (ns:List Int),
   Ground q loose [] XP w s₀ mg mb s₁.heap->YP w s₁.heap ->
   s₁.heap.get? fa=some o->o.data = .func (docDef d.name d.params d.body d.scope pm cd doc)->s₁.heap.CodeRec cd d.name->mg d.name=some (.ref fa) ->
   s₁.heap.get? a=some { cls := .type "list",data := .seq vs.toArray }->IntsAre vs ns->ns.length<=n->s₁.gens=#[] ->
   codeAny (model l.prog w) callerA (.call (.ref fa) ⟨[.ref a],[]⟩) (fun r s'=>r = .ok (.ret (.bool true))/\OldK s₁.heap s'.heap/\s'.os=s₁.os/\AllBare s'.gens) s₁) :
  WalkO q loose XP YP l.row.toRowW d [] (fun f vs=>PySem.call f vs):=by
 intro w s₀ s₁ mg mb G Y fa o pm cd doc dV kV ho hd hcd hD hmg hg args vals as hpre hlay hrd hwl hlo;obtain rfl:dV = .none:=Dflts.none hD hdf;obtain rfl:kV = .none:=Dflts.noKw hD;obtain ⟨a,vs,ns,rfl,rfl,hobj,hints,hlen⟩:=Oq hn hpre hwl;refine enter_call (codeAny_mono (call w s₀ s₁ mg mb fa o pm cd doc a vs ns G Y ho (fd_plain hd) hcd hmg hobj hints hlen hg) fun r s' hq=>?_);obtain ⟨rfl,h2,h3,h4⟩:=hq;exact ⟨.inl ⟨.bool true,.bool true,[],rfl,fun _=>rfl,.bool true,Ot l _,fun _=>⟨List.Pairwise.nil,fun _ hm=>(nomatch hm)⟩⟩,h2,h3,h4⟩
section
variable {prog:Program} {w:World} {A:Around} {E:Value->Shared->Prop} {s:Shared} {K:Frag}
def ledger (h:Heap) (L d:Addr):List (Addr×Obj):=(List.range h.objs.size).filterMap fun a=>if a=L\/a=d then none else (h.get? a).map fun o=>(a,o)
end
end Fd
namespace L2
open PySem PySem.Spec PyProof.Rows
theorem QF:∀ {vs:List Value} {ns:List Int},IntsAre vs ns->Yt (ns.map V.int) vs
 | _,_,.nil => .nil
 | _,_,.cons n t h => .cons ⟨t,rfl⟩ (QF h)
def Vc (s:Stmt) (j:Nat):Stmt:=match s with
 | .ClassDef _ _ _ body _ _ _ _ _ _ _=>body.getD j (.Pass ⟨0,0,0,0⟩)
 | _ => .Pass ⟨0,0,0,0⟩
def Y2 (s:Stmt):Arguments:=match s with
 | .FunctionDef _ a _ _ _ _ _ _ _ _=>a
 | _=>{ posonlyargs:=[],args:=[],vararg:=none,kwonlyargs:=[],kw_defaults:=[],kwarg:=none,defaults:=[] }
def YR (s:Stmt):List Stmt:=match s with
 | .FunctionDef _ _ b _ _ _ _ _ _ _=>b
 | _=>[]
def Yh (s:Stmt):Scope:=match s with
 | .FunctionDef _ _ _ _ _ _ sc _ _ _=>sc
 | _=>{ kind := .function,names:=[],isGenerator:=false,isCoroutine:=false }
abbrev bL:dD:=fun _ _ _ _ _ _=>False
abbrev E0:XK:=fun _ _ _=>False
theorem VZ {X:Cx}:XS bL X E0:=fun _ _ _ _ _ _ _ h=>h.elim
structure dF (K:W.Frag) (x qual:Str) (st:Stmt) (f:Addr) (fd:FuncData):Prop where
 ex:∃ (oc:Value) (od:Option Addr) (kV doc pm:Value) (an:Option Addr) (cdv ct:Value) (osl:Array (Option Value)),
  fd=W.fnOf x qual (Y2 st) (YR st) (Yh st) .none kV doc pm an cdv ct/\K.lookup f=some ⟨oc,od,.func fd,osl⟩/\W.codeIn K cdv qual=true
 kp:W.keepIn K (.ref f)=true
section
variable {P:Program} {w:World} {K:W.Frag} {mg:Str->Option Value} {base:Heap}
theorem dF.ok {x qual:Str} {st:Stmt} {f:Addr} {fd:FuncData} {N ps:List Str} {k:Nat} {sp:Sp} (F:dF K x qual st f fd) (S:aH N ps (Yh st)) (len:∀ vs H Q E,sp vs H Q E->vs.length=ps.length)
  (hbody:∀ (cdv:Value) (A:Around) (outer:List Env) (s:Shared) (H:Hp) (vs:List V) (Q:VK) (E:XK),aQ k (A.deeper (envOfC qual (Yh st) s.heap.objs.size f cdv))->sp vs H Q E ->
   ∃ t,cD (We bL P w K mg base N qual (Yh st) f cdv A outer s H E).bA (YR st) t/\t { nx:=fun _ H'=>Q .non H',rt:=Q } (Xi N vs) H):aW P w K mg base bL (k+1) f fd ps sp:=by
 obtain ⟨oc,od,kV,doc,pm,an,cdv,ct,osl,rfl,lk,hcd⟩:=F.ex;refine Q5 lk hcd S len fun A outer s H vs Q E hr hsp=>?_
 obtain ⟨t,h,q⟩:=hbody cdv A outer s H vs Q E hr hsp;exact ⟨t,h.bA,q⟩
theorem dF.binds {x qual:Str} {st:Stmt} {f:Addr} {fd:FuncData} {ps:List Str} (F:dF K x qual st f fd)
  (h:∀ (kV doc pm:Value) (an:Option Addr) (cdv ct:Value) (us:List Value),us.length=ps.length->bindArgs (PySem.W.fnOf x qual (Y2 st) (YR st) (Yh st) .none kV doc pm an cdv ct) ⟨us,[]⟩=pure (ps.zip us)):Y7 K fd ps []:=by
 obtain ⟨oc,od,kV,doc,pm,an,cdv,ct,osl,rfl,lk,hcd⟩:=F.ex;exact .all (h kV doc pm an cdv ct)
theorem Vd {x qual:Str} {st:Stmt} {f:Addr} {oc:Value} {od an:Option Addr} {osl:Array (Option Value)} {kV doc pm cdv ct:Value} (l:K.lookup f=some ⟨oc,od,.func (W.fnOf x qual (Y2 st) (YR st) (Yh st) .none kV doc pm an cdv ct),osl⟩)
  (c:W.codeIn K cdv qual=true) (k:W.keepIn K (.ref f)=true):dF K x qual st f (W.fnOf x qual (Y2 st) (YR st) (Yh st) .none kV doc pm an cdv ct):=⟨⟨oc,od,kV,doc,pm,an,cdv,ct,osl,rfl,l,c⟩,k⟩
end
section
variable {X:Cx}
theorem pv (i:Nat) {x:Str} {pos:Pos} (hN:X.N[i]?=some x:=by rfl) (hv:oU X.env.scope x:=by first | exact .inl rfl | exact .inr (.inl rfl) | exact .inr (.inr rfl)) (hd:(x==("__debug__":Str))=false:=by decide)
  (hcd:(x==("__classdict__":Str))=false:=by decide):PE X (.Name x pos) (Wd i):=vL hN hv hd hcd
end
theorem qX {A B:Prop} (h:B):if false=true then A else B:=by
 rw [if_neg Bool.false_ne_true];exact h
theorem U9 {A B:Prop} (h:A):if true=true then A else B:=by
 rw [if_pos rfl];exact h
theorem tu {c A B:Prop} [Decidable c] (h1:c->A) (h2:¬ c->B):if c then A else B:=by
 by_cases h:c
 ·rw [if_pos h]
  exact h1 h
 ·rw [if_neg h]
  exact h2 h
def Yf (H H':Hp):Prop:=∀ b o,H b=some o->H' b=some o
theorem Yf.refl (H:Hp):Yf H H:=fun _ _ h=>h
theorem Yf.trans {H H1 H2:Hp} (a:Yf H H1) (b:Yf H1 H2):Yf H H2:=fun c o h=>b c o (a c o h)
theorem Yf.free {H H':Hp} (e:Yf H H') {l:Addr} (h:H' l=Option.none):H l=Option.none:=by
 cases q:H l with
 | none=>rfl
 | some o =>
  rw [e l o q] at h
  cases h
theorem Yf.seq {K:W.Frag} {H H':Hp} {a:Addr} {xs:List V} (e:Yf H H') (h:aJ K H a xs):aJ K H' a xs:=by
 rcases h with (h | ⟨o,h⟩) | h
 ·exact .inl (.inl (e _ _ h))
 ·exact .inl (.inr ⟨o,e _ _ h⟩)
 ·exact .inr h
section
variable {κ:Type} [DecidableEq κ]
def wF (kvs:List (κ×V)) (k:κ):Option V:=(kvs.find? fun kv=>decide (kv.1=k)).map (·.2)
def putK (kvs:List (κ×V)) (k:κ) (v:V):List (κ×V) :=
 if (kvs.any fun kv=>decide (kv.1=k))=true then kvs.map (fun kv=>if kv.1=k then (kv.1,v) else kv) else kvs++[(k,v)]
end
theorem Fe {P:Program} {w:World} {k:Key} {u:Value} (r:Yw (kV k) u):(XJ P w).is k u=true:=by
 cases k with
 | inl i=>obtain ⟨t,e⟩:=(show ∃ t,u=Value.int i t from r);subst e;exact Mw P w i t
 | inr x=>obtain ⟨t,e⟩:=(show ∃ t,u=Value.str x t from r);subst e;exact Mx P w x t
def qY (H:Hp) (a:Addr) (y:V) (r:Option V):Prop :=
 (∃ kvs k,Rd H a (.dK kvs)/\y=kV k/\r=wF kvs k)\/∃ kvs k b,Rd H a (.dT kvs)/\y = .ref b/\H b=some (.tup (k.map kV))/\r=wF kvs k
def K7 (H:Hp) (a:Addr) (y v:V) (H':Hp):Prop :=
 (∃ kvs k,H a=some (.dK kvs)/\y=kV k/\kvs.length<sizeLine/\H'=upd H a (.dK (putK kvs k v))) \/
 ∃ kvs k b,H a=some (.dT kvs)/\y = .ref b/\H b=some (.tup (k.map kV))/\kvs.length<sizeLine/\H'=upd H a (.dT (putK kvs k v))
section
variable {X:Cx} {pins:List (Addr×Obj)} {σ:St} {H:Hp} {s:Shared} {a:Addr} {y v:V} {u r:Value} {o:Option V} {A:Around} {E:Value->Shared->Prop}
theorem Inv.big (I:Inv X pins σ H s):sysModules<s.heap.objs.size:=by
 have h:mainGlobals<s.heap.objs.size:=(I.mod.glob.keeps I.bk).lt;exact Nat.lt_trans (by decide) h
end
def Fg (td ty:TE):TE:=fun σ H Q=>td σ H fun x H1=>ty σ H1 fun y H2=>∃ a v,x = .ref a/\qY H2 a y (some v)/\Q v H2
def Fi (td ty tv:TE):TS:=fun D σ H=>tv σ H fun v H1=>td σ H1 fun x H2=>ty σ H2 fun y H3=>∃ a H4,x = .ref a/\K7 H3 a y v H4/\D.nx σ H4
def Fj:TE:=fun _ H Q=>∀ p,H p=none->Q (.ref p) (upd H p (.dT []))
theorem WN (env:Env):∀ (names:List (Str×NameKind)) (cs:List (Str×Addr)),(∀ x,(x,NameKind.free)∈names->∃ c,env.cells.lookup x=some c) ->
  ∃ cl,(forIn names cs fun (p:Str×NameKind) (cs:List (Str×Addr))=>(if (p.2==NameKind.free)=true then (do let c <- cellOf env p.1;pure (ForInStep.yield ((p.1,c)::cs))) else pure (ForInStep.yield cs):Sem (ForInStep (List (Str×Addr)))))=pure cl /\
   (∀ x c,cl.lookup x=some c->env.cells.lookup x=some c\/cs.lookup x=some c)/\(∀ x,(x,NameKind.free)∈names->∃ c,cl.lookup x=some c)/\(∀ x c,cs.lookup x=some c->∃ d,cl.lookup x=some d)
 | [],cs,_=>⟨cs,by simp,fun _ _ h => .inr h,(fun _ h=>nomatch h),fun x c h=>⟨c,h⟩⟩
 | (n,k)::r,cs,h=>by
  by_cases hk:k=NameKind.free
  ·subst hk
   obtain ⟨c,hc⟩:=h n (List.mem_cons_self ..);obtain ⟨cl,e,a,b,d⟩:=WN env r ((n,c)::cs) (fun x hx=>h x (List.mem_cons_of_mem _ hx));have hcell:cellOf env n=pure c:=by unfold cellOf;rw [hc]
   refine ⟨cl,?_,fun x c' hx=>?_,fun x hx=>?_,fun x c' hx=>?_⟩
   ·rw [List.forIn_cons]
    simp only [beq_self_eq_true,if_true,hcell,pure_bind];exact e
   ·rcases a x c' hx with q | q
    ·exact .inl q
    ·rw [List.lookup_cons] at q
     by_cases hxn:(x==n)=true
     ·rw [hxn] at q
      have hx':x=n:=by simpa using hxn
      subst hx';have:c=c':=by simpa using q
      subst this;exact .inl hc
     ·rw [Bool.eq_false_iff.mpr hxn] at q
      exact .inr q
   ·rcases List.mem_cons.mp hx with q | q
    ·have hx':x=n:=congrArg Prod.fst q
     subst hx';exact d x c (by rw [List.lookup_cons];simp)
    ·exact b x q
   ·have:∃ d',((n,c)::cs).lookup x=some d':=by
     rw [List.lookup_cons];by_cases hxn:(x==n)=true
     ·rw [hxn];exact ⟨c,rfl⟩
     ·rw [Bool.eq_false_iff.mpr hxn];exact ⟨c',hx⟩
    obtain ⟨d',hd'⟩:=this;exact d x d' hd'
  ·obtain ⟨cl,e,a,b,d⟩:=WN env r cs (fun x hx=>h x (List.mem_cons_of_mem _ hx))
   have hkf:(k==NameKind.free)=false:=by simpa using hk
   refine ⟨cl,?_,a,fun x hx=>?_,d⟩
   ·rw [List.forIn_cons]
    simp only [hkf,Bool.false_eq_true,if_false,pure_bind];exact e
   ·rcases List.mem_cons.mp hx with q | q
    ·exact absurd (congrArg Prod.snd q).symm hk
    ·exact b x q
theorem Ou (env:Env) (scope:Scope) (h:∀ x,(x,NameKind.free)∈scope.names->∃ c,env.cells.lookup x=some c) :
  ∃ cl,closureFor scope env=pure cl/\(∀ x c,cl.lookup x=some c->env.cells.lookup x=some c)/\(∀ x,(x,NameKind.free)∈scope.names->∃ c,cl.lookup x=some c):=by
 obtain ⟨cl,e,a,b,_⟩:=WN env scope.names [] h;refine ⟨cl,?_,fun x c hx=>(a x c hx).elim id (fun z=>by simp at z),b⟩;unfold closureFor;simp only [bind_pure];exact e
def cJ (X:Cx) (scope:Scope) (N':List Str) (cl:List (Str×Addr)) (C:Addr) (s₀:Shared) (H₀:Hp) (fp:List Addr) (pn:List (Addr×Obj)):Cx :=
 { X with N:=N',s₀:=s₀,H₀:=H₀,env:=compEnvC scope cl C X.env,outer:=X.stack,ex:=fp,fn:=fun _=>false,pn:=pn,xe:=fun _ _=>False }
inductive eV (X:Cx) (scope:Scope):List (Option Nat)->List Str->Prop
 | nil:eV X scope [] []
 | own {x src N'}:eV X scope src N'->eV X scope (none::src) (x::N')
 | cap {x i src N'}:X.N[i]?=some x->scope.names.lookup x=some NameKind.free->(X.env.scope.names.lookup x=some NameKind.cell\/X.env.scope.names.lookup x=some NameKind.free)->eV X scope src N'->eV X scope (some i::src) (x::N')
def YH (src:List (Option Nat)) (σ:St):St:=src.map fun o=>match o with | none=>none | some i=>σ.getD i none
theorem eV.length {X:Cx} {scope:Scope}:∀ {src:List (Option Nat)} {N':List Str},eV X scope src N'->src.length=N'.length
 | _,_,.nil=>rfl
 | _,_,.own h=>congrArg (·+1) h.length
 | _,_,.cap _ _ _ h=>congrArg (·+1) h.length
theorem eV.get {X:Cx} {scope:Scope} {σ:St}:∀ {src:List (Option Nat)} {N':List Str},eV X scope src N'->∀ (j:Nat) (x:Str) (v:V),N'[j]?=some x->(YH src σ)[j]?=some (some v) ->
  ∃ i:Nat,X.N[i]?=some x/\σ[i]?=some (some v)/\scope.names.lookup x=some NameKind.free/\(X.env.scope.names.lookup x=some NameKind.cell\/X.env.scope.names.lookup x=some NameKind.free)
 | _,_,.nil,j,x,v,h,_=>by simp at h
 | _,_,.own h,0,x,v,_,e=>by simp [YH] at e
 | _,_,.own h,j+1,x,v,e1,e2=>h.get j x v (by simpa using e1) (by simpa [YH] using e2)
 | _,_,.cap (x:=y) (i:=i) hN hf hk h,0,x,v,e1,e2=>by
  have ex:y=x:=by simpa using e1
  subst ex;refine ⟨i,hN,?_,hf,hk⟩;simp only [YH,List.map_cons,List.getElem?_cons_zero,Option.some.injEq] at e2;rw [List.getD_eq_getElem?_getD] at e2
  cases q:σ[i]? with
  | none=>rw [q] at e2;simp at e2
  | some o=>rw [q] at e2;simp at e2;rw [e2]
 | _,_,.cap hN hf hk h,j+1,x,v,e1,e2=>h.get j x v (by simpa using e1) (by simpa [YH] using e2)
theorem Ve (env:Env) (x:Str):∀ {names:List (Str×NameKind)},
  (names.map fun (n,k)=>if (k==NameKind.free&&env.scope.kind == .function&&env.kindOf n==some .cell) then (n,NameKind.cell) else (n,k)).lookup x =
   (names.lookup x).map fun k=>if (k==NameKind.free&&env.scope.kind == .function&&env.kindOf x==some .cell) then NameKind.cell else k
 | []=>rfl
 | (n,k)::r=>by
  have ih:=@Ve env x r;rw [List.map_cons];dsimp only;by_cases hx:(x==n)=true
  ·have e:x=n:=by simpa using hx
   subst e;by_cases hc:(k==NameKind.free&&env.scope.kind == .function&&env.kindOf x==some .cell)=true
   ·rw [if_pos hc,List.lookup_cons,List.lookup_cons,hx]
    simp only [Option.map_some];rw [if_pos hc]
   ·rw [if_neg hc,List.lookup_cons,List.lookup_cons,hx]
    simp only [Option.map_some];rw [if_neg hc]
  ·have hx':=Bool.eq_false_iff.mpr hx
   by_cases hc:(k==NameKind.free&&env.scope.kind == .function&&env.kindOf n==some .cell)=true
   ·rw [if_pos hc];simp only [List.lookup_cons,hx'];exact ih
   ·rw [if_neg hc];simp only [List.lookup_cons,hx'];exact ih
theorem W0 {names:List (Str×NameKind)} {x:Str} (h:names.lookup x=some NameKind.free):(x,NameKind.free)∈names:=PySem.mem_of_lookup h
section
variable {X:Cx}
theorem Ov {scope:Scope} {N':List Str} {src:List (Option Nat)} {cl:List (Str×Addr)} {pins:List (Addr×Obj)} {σ:St} {H:Hp} {s s':Shared} {h':Heap} {tk:Nat} {fp:List Addr} {m:Str->Option Value}
  (hk:scope.kind = .function) (hcell:∀ y∈scope.names,y.2 ≠ .cell) (hcap:eV X scope src N')
  (a:∀ x c,cl.lookup x=some c->X.env.cells.lookup x=some c) (b:∀ x,(x,NameKind.free)∈scope.names->∃ c,cl.lookup x=some c)
  (I:Inv X pins σ H s) (hf:∀ b∈fp,X5 X pins H b) (hfl:∀ b∈fp,b<s.heap.objs.size) (es':s'={ s with heap:=h',toks:=tk })
  (keep:∀ b o,s.heap.get? b=some o->h'.get? b=some o) (hn:h'.Ns s.heap.objs.size m) :
  Inv (cJ X scope N' cl s.heap.objs.size s H fp (X.pn++pins)) [] (YH src σ) H s':=by
 subst es';have kindOf:∀ x,(compEnvC scope cl s.heap.objs.size X.env).kindOf x=(scope.names.lookup x).map fun k=>if (k==NameKind.free&&X.env.scope.kind == .function&&X.env.kindOf x==some .cell) then NameKind.cell else k:=fun x=>Ve X.env x
 have freeOf:∀ x,((compEnvC scope cl s.heap.objs.size X.env).kindOf x=some .cell\/(compEnvC scope cl s.heap.objs.size X.env).kindOf x=some .free)->scope.names.lookup x=some .free:=fun x h=>by
  rw [kindOf] at h
  cases q:scope.names.lookup x with
  | none=>rw [q] at h;simp at h
  | some k =>
   rw [q] at h
   by_cases hkf:k=NameKind.free
   ·rw [hkf]
   ·have K8:(k==NameKind.free)=false:=by simpa using hkf
    simp only [Option.map_some,K8,Bool.false_and,Bool.false_eq_true,if_false] at h;rcases h with h | h
    ·exact absurd (Option.some.inj h) (hcell _ (PySem.mem_of_lookup q))
    ·exact absurd (Option.some.inj h) hkf
 refine ⟨⟨I.ok.mod,hk,I.ok.glob,I.ok.blt,Nat.le_refl _,fun x y c h1 h2=>I.ok.inj x y c (a x c h1) (a y c h2),fun x hx=>b x (W0 (freeOf x hx)),(fun x c z _=>nomatch z),I.ok.hd,I.ok.frames,.inl rfl,fun b' hb=>?_,I.bs,Nat.le_trans I.ok.dO I.sz,fun b' o e hb=>?_,fun b' hb z=>?_,I.stack,I.dZ⟩,
  rfl,I.bare,Un.kept keep,⟨m,hn,fun j x v h1 h2 h3=>?_⟩,fun x c h=>?_,I.hok.fresh (Nat.le_refl _),fun x c h=>I.aX x c (a x c h),fun p hp=>?_,I.hok.kept keep,?_⟩
 ·obtain ⟨f0,f1,f2,f3,f4,f5⟩:=hf b' hb
  exact ⟨Nat.ne_of_lt (hfl b' hb),fun x c h=>f4 x c (a x c h)⟩
 ·obtain ⟨f0,f1,f2,f3,f4,f5⟩:=hf b' hb
  rcases f3 with z | z
  ·exact I.ok.gk b' o e z
  ·exact absurd (Nat.lt_of_lt_of_le (Heap.lt_size e) (Nat.le_trans I.ok.dO z)) (Nat.lt_irrefl _)
 ·obtain ⟨f0,f1,f2,f3,f4,f5⟩:=hf b' hb
  rcases List.mem_cons.mp (I.fj b' z) with e | e
  ·exact f1 e
  ·exact f2 e
 ·obtain ⟨i,e1,e2,e3,e4⟩:=hcap.get j x v h1 h2
  obtain ⟨m0,hn0,hl⟩:=I.loc;obtain ⟨u,r,l⟩:=hl i x v e1 e2 (by rcases e4 with e4 | e4;exact .inr (.inl e4);exact .inr (.inr e4));refine ⟨u,r,?_⟩;rcases l with ⟨l,_⟩ | ⟨k,c,e,z⟩
  ·have l':X.env.scope.names.lookup x=some NameKind.local:=l
   rcases e4 with e4 | e4<;>(rw [e4] at l';cases l')
  ·refine .inr ⟨?_,?_⟩
   ·show (compEnvC scope cl s.heap.objs.size X.env).kindOf x=some .cell\/(compEnvC scope cl s.heap.objs.size X.env).kindOf x=some .free
    rw [kindOf,e3];simp only [Option.map_some]
    split
    ·exact .inl rfl
    ·exact .inr rfl
   ·obtain ⟨c',hc'⟩:=b x (W0 e3)
    have:=a x c' hc';rw [e] at this
    cases this
    obtain ⟨o,ho,hd⟩:=z;exact ⟨c,hc',o,keep _ _ ho,hd⟩
 ·obtain ⟨v,o,ho,hd⟩:=I.cell x c (a x c h)
  exact ⟨v,o,keep _ _ ho,hd⟩
 ·have hp':p∈X.pn++pins:=by simpa [cJ] using hp
  obtain ⟨e,n,ne,nf,d⟩:=I.pin p hp';refine ⟨keep _ _ e,n,Nat.ne_of_lt (Heap.lt_size e),fun z=>?_,d⟩;rcases List.mem_cons.mp (I.fj p.1 z) with q | q
  ·exact ne q
  ·exact nf q
 ·show (YH src σ).length=N'.length
  rw [<- hcap.length];simp [YH]
end
section
variable {prog:Program} {w:World} {A:Around} {R:Result->Shared->Prop} {s:Shared}
theorem Ow {elt tg iter:Expr} {ifs:List Expr} {scope:Scope} {pos:Pos} {it acc:Value} {env:Env} (J:Nat->Shared->Prop)
  (turn:∀ n s,J n s->wpAny (model prog w) A (pyNext it) (fun r s₁=>match r with
    | none=>R (.ok .next) s₁
    | some v=>wpAny (model prog w) A (letOwnedTupleGo tg it v) (fun _ z₁=>wpAny (model prog w) A (assign tg env v) (fun _ s₂ =>
      wpAny (model prog w) A (forIn ifs true fun c r=>if r=true then do let ok <- isTrue c env (eval c env);pure (ForInStep.yield ok) else pure (ForInStep.yield r))
       (fun ok s₃=>if ok=true then wpAny (model prog w) A (eval elt env) (fun x s₄=>wpAny (model prog w) A (call (.builtin "list.append") [acc,x]) (fun _ s₅=>∃ m,m<n/\J m s₅) (fun _ _=>False) s₄) (notedBy (model prog w) A env fun e s'=>R (.error e) s') s₃
        else ∃ m,m<n/\J m s₃) (fun _ _=>False) s₂) (fun _ _=>False) z₁) (fun _ _=>False) s₁) (fun _ _=>False) s)
  (n:Nat) (h:J n s):codeAny (model prog w) A (.compLoop (.ListComp elt [⟨tg,iter,ifs,0⟩] scope pos) 0 it acc env) R s:=by
 refine codeAny_loop rfl J (fun n s hJ=>?_) n h
 show wpAny _ A (Sem.onRaise (compTurn (.ListComp elt [⟨tg,iter,ifs,0⟩] scope pos) 0 it acc env) (fun x=>do noteFrame x env;theTreesLotGoes x)) _ _ s
 refine wpAny_noted ?_;rw [compTurn_list];have no:∀ {E:Value->Shared->Prop},∀ (e:Value) (s':Shared),False->E e s':=fun _ _ f=>f.elim
 refine wpAny_bind (wpAny_standAt (wpAny_bind (wpAny_mono (turn n s hJ) (fun r s₁ h₁=>?_) no)))
 cases r with
 | none=>exact wpAny_pure h₁
 | some v =>
  refine wpAny_bind (wpAny_mono h₁ (fun _ z₁ hz=>?_) no);refine wpAny_bind (wpAny_mono hz (fun _ s₂ h₂=>wpAny_bind (wpAny_mono h₂ (fun ok s₃ h₃=>?_) no)) no)
  cases ok with
  | false=>exact wpAny_pure ⟨rfl,h₃⟩
  | true =>
   exact wpAny_bind (wpAny_bind (wpAny_mono h₃ (fun x s₄ h₄=>wpAny_bind (wpAny_mono h₄ (fun _ s₅ h₅=>wpAny_pure (wpAny_pure ⟨rfl,h₅⟩)) no)) fun _ _ z=>z))
end
def tD (X:Cx) (ifs:List Expr) (t:TT):Prop :=
 ∀ (pins:List (Addr×Obj)) (s:Shared) (σ:St) (H:Hp) (Q:Bool->Hp->Prop),Inv X pins σ H s->t σ H Q ->
  wpAny (model X.prog X.w) X.A (forIn ifs true fun c r=>if r=true then do let ok <- isTrue c X.env (eval c X.env);pure (ForInStep.yield ok) else pure (ForInStep.yield r)) (TP X pins σ Q) X.xe s
def XO:TT:=fun _ H Q=>Q true H
theorem Xs {X:Cx}:tD X [] XO:=fun _ _ _ H _ I h=>wpAny_tests_nil ⟨H,I,h⟩
theorem Qa {X:Cx} {c:Expr} {t:TT} (h:PT X c t):tD X [c] t:=fun pins s σ H Q I q=>wpAny_tests_one (h pins s σ H Q I q)
def LC (src:List (Option Nat)) (J:It) (g:TG) (tt:TT) (te:TE) (σ:St) (H1:Hp) (Q:VK) (D:Addr):Prop:=∃ W:Nat->Nat->List V->St->Hp->Prop,(∃ m,W 0 m [] (YH src σ) (upd H1 D (.lst []))) /\
 ∀ i m ys σ' H2,W i m ys σ' H2->H2 D=some (.lst ys)/\((J.stop i H2/\Q (.ref D) H2)\/(J.go i H2/\∃ N:List V->St->Hp->Prop,(∀ ys' σ3 H3,N ys' σ3 H3->∃ m',m'<m/\W (i+1) m' ys' σ3 H3)/\∀ x H3,J.jZ i H2 x H3->g x σ' H3 fun σ2 H4=>tt σ2 H4 fun b H5 =>
  if b=true then te σ2 H5 fun y H6=>H6 D=some (.lst ys)/\ys.length<sizeLine/\N (ys++[y]) σ2 (upd H6 D (.lst (ys++[y])))
  else N ys σ2 H5))
def eX (src:List (Option Nat)) (wi:TI) (g:TG) (tt:TT) (te:TE):TE:=fun σ H Q=>wi σ H fun J H1=>∀ D,H1 D=none->LC src J g tt te σ H1 Q D
section
variable {X:Cx}
theorem Ox {elt tg iter:Expr} {ifs:List Expr} {scope:Scope} {pos:Pos} {src:List (Option Nat)} {N':List Str} {g:TG} {tt:TT} {te:TE} {cl:List (Str×Addr)} {pins:List (Addr×Obj)} {σ:St} {Q:VK} {itv:Value} {s2:Shared} {Po:Value->Addr->Result->Shared->Prop} {Z:Addr->Shared->Hp->List Addr->List (Addr×Obj)->Value->Shared->Prop}
  (hcap:eV X scope src N') (hc:X.calm=true) (hg:∀ C s₀ H₀ fp pn,PG (cJ X scope N' cl C s₀ H₀ fp pn) tg g) (ht:∀ C s₀ H₀ fp pn,tD (cJ X scope N' cl C s₀ H₀ fp pn) ifs tt)
  (he:∀ C s₀ H₀ fp pn,PE ((cJ X scope N' cl C s₀ H₀ fp pn).wish (Z C s₀ H₀ fp pn)) elt te) (hk:scope.kind = .function) (hcell:∀ y∈scope.names,y.2 ≠ .cell) (a:∀ x c,cl.lookup x=some c->X.env.cells.lookup x=some c) (b:∀ x,(x,NameKind.free)∈scope.names->∃ c,cl.lookup x=some c)
  (h2:PIE X pins σ tg (fun J H1=>∀ D,H1 D=none->LC src J g tt te σ H1 Q D) itv s2)
  (done:∀ (D C:Addr) (s6:Shared) (H5:Hp),(∀ h',Heap.SameBut C s6.heap h'->Inv X pins σ H5 { s6 with heap:=h' })->(∃ m,s6.heap.Ns C m)->H5 C=none->(∀ {H':Hp},H' C=none->X5 X pins H' C)->Q (.ref D) H5->Po (.ref D) C (.ok .next) s6)
  (gone:∀ (D:Addr) (s3:Shared) (H3:Hp) (fp:List Addr),Inv X pins σ H3 s3->(∀ {H':Hp} {s':Shared} {σ':St} {eG:List (Addr×Obj)},Inv (cJ X scope N' cl s3.heap.objs.size s3 H3 fp (X.pn++pins)) eG σ' H' s'->∀ h',Heap.SameBut s3.heap.objs.size s'.heap h'->Inv X pins σ H' { s' with heap:=h' }) ->
   ∀ e s',Z s3.heap.objs.size s3 H3 fp (X.pn++pins) e s'->notedBy (model X.prog X.w) X.A (compEnvC scope cl s3.heap.objs.size X.env) (fun e s'=>Po (.ref D) s3.heap.objs.size (.error e) s') e s') :
  wpAny (model X.prog X.w) X.A (newList []) (fun acc s₃=>wpAny (model X.prog X.w) X.A (newFunctionEnv scope X.env.globals cl [] X.env.qual none Value.none (some X.env)) (fun cenv s₄ =>
   codeAny (model X.prog X.w) X.A (.compStart (.ListComp elt [⟨tg,iter,ifs,0⟩] scope pos) 0 itv acc { cenv with scope:=relabel scope X.env }) (Po acc cenv.locals) s₄) X.xe s₃) X.xe s2:=by
 obtain ⟨it,fp,tn,J,H2,e,I2,T,st2,f2,q⟩:=h2;subst e;have hD:H2 s2.heap.objs.size=none:=I2.hok.fresh (Nat.le_refl _);obtain ⟨W,⟨m0,w0⟩,turn⟩:=q s2.heap.objs.size hD;have I3:=I2.qU (t':=s2.toks) (ys:=[]) (its:=[]) .nil (Nat.zero_le _);have Oz:∀ b∈fp,b<s2.heap.objs.size:=fun b hb=>by
  obtain ⟨o,e,_⟩:=T.obj _ _ st2 b hb;exact Heap.lt_size e
 refine wpAny_newObj_type ?_;generalize Fl:({ s2 with heap:=s2.heap.push { cls := .type "list",dict:=none,data := .seq ([]:List Value).toArray } }:Shared)=s3;have pq:Inv X pins σ (upd H2 s2.heap.objs.size (.lst [])) s3:=Fl▸I3
 have Cj:∀ b o,s2.heap.get? b=some o->s3.heap.get? b=some o:=fun b o e=>by rw [<- Fl];exact Heap.get?_push_of_some _ e
 have st3:tn 0 s3.heap:=T.keep _ _ _ st2 fun b _ o e=>Cj b o e
 have Fo:∀ b∈fp,b<s3.heap.objs.size:=fun b hb=>by
  obtain ⟨o,e,_⟩:=T.obj _ _ st3 b hb;exact Heap.lt_size e
 have f3:∀ b∈fp,X5 X pins (upd H2 s2.heap.objs.size (.lst [])) b:=fun b hb=>⟨by rw [Yg (Nat.ne_of_lt (Oz b hb))];exact (f2 b hb).1,(f2 b hb).2⟩
 generalize eD:s2.heap.objs.size=D at *;generalize eH3:upd H2 D (.lst [])=H3 at *;refine wpAny_newFunctionEnv hcell (by intro y hy;simp at hy) (fun h₁ hns₁ hsb₁=>?_) hk;have nG:∀ b o,s3.heap.get? b=some o->h₁.get? b=some o:=fun b o e=>hsb₁.extBut b o (Nat.ne_of_lt (Heap.lt_size e)) (Heap.get?_push_of_some _ e)
 have I4:=Ov (N':=N') (src:=src) (tk:=s3.toks+([]:List (Str×Value)).length) hk hcell hcap a b pq f3 Fo rfl nG hns₁;have stat:∀ {H':Hp},(∀ b∈fp,H' b=none)->∀ b∈fp,X5 (cJ X scope N' cl s3.heap.objs.size s3 H3 fp (X.pn++pins)) [] H' b:=fun hn b' hb=>by
  obtain ⟨f0,f1,fs,fe,f4,f5⟩:=f3 b' hb;refine ⟨hn b' hb,Nat.ne_of_lt (Fo b' hb),fun z=>?_,.inl hb,fun x c h=>f4 x c (a x c h),fun p hp=>f5 p (by simpa [cJ] using hp)⟩;rcases List.mem_cons.mp (pq.fj b' z) with e | e
  ·exact f1 e
  ·exact fs e
 have fin:∀ {H':Hp} {s':Shared} {σ':St} {eG:List (Addr×Obj)},Inv (cJ X scope N' cl s3.heap.objs.size s3 H3 fp (X.pn++pins)) eG σ' H' s'->∀ h',Heap.SameBut s3.heap.objs.size s'.heap h'->Inv X pins σ H' { s' with heap:=h' }:=fun {H' s' σ' eG} J' h' sb=>by
  have same:∀ b o,b≠s3.heap.objs.size->s'.heap.get? b=some o->h'.get? b=some o:=fun b o hb e=>sb.extBut b o hb e
  have u:Un (frs X.stack) fp H3 H' s3.heap s'.heap:=J'.base;refine pq.call' (s':={ s' with heap:=h' }) (ch:=fp) J'.os ⟨fun b o e n hb hx=>?_,fun b o e n hb hx=>?_,u.free,fun b o e hx=>?_,u.tups,u.bx,u.bI⟩ (fun b o e=>?_) J'.bare fun b hb=>?_
  ·exact same b o (Nat.ne_of_lt (Heap.lt_size e)) (u.keep b o e n hb hx)
  ·obtain ⟨sl,z⟩:=u.slot b o e n hb hx
   exact ⟨sl,same b _ (Nat.ne_of_lt (Heap.lt_size e)) z⟩
  ·obtain ⟨o',z⟩:=u.there b o e hx
   exact ⟨o',same b o' (Nat.ne_of_lt (Heap.lt_size e)) z⟩
  ·have nC:∀ c v,H' c=some v->c≠s3.heap.objs.size:=fun c v z q=>by
    have:=J'.free;rw [show (cJ X scope N' cl s3.heap.objs.size s3 H3 fp (X.pn++pins)).env.locals=s3.heap.objs.size from rfl,<- q,z] at this
    cases this
   refine (J'.hok b o e).stay (fun c v hc q=>same c v ?_ q) (fun _ q=>q) fun _ _ q=>q
   rcases hc with z | z
   ·rw [z];exact nC b o e
   ·exact nC c _ z
  ·obtain ⟨f0,f1,fs,fe,f4,f5⟩:=f3 b hb
   exact ⟨fe,f1,f4,f5⟩
 have loop:codeAny (model X.prog X.w) X.A (.compLoop (.ListComp elt [⟨tg,iter,ifs,0⟩] scope pos) 0 (.ref it) (.ref D) (compEnvC scope cl s3.heap.objs.size X.env))
   (Po (.ref D) s3.heap.objs.size) { s3 with heap:=h₁,toks:=s3.toks+([]:List (Str×Value)).length }:=by
  refine Ow (fun n s'=>∃ i ys σ' H',Inv (cJ X scope N' cl s3.heap.objs.size s3 H3 fp (X.pn++pins)) [] σ' H' s'/\tn i s'.heap/\(∀ b∈fp,H' b=none)/\W i n ys σ' H') ?_ m0 ⟨0,[],YH src σ,H3,I4,T.keep _ _ _ st3 fun b _ o e=>nG b o e,fun b hb=>(f3 b hb).1,w0⟩;rintro n s5 ⟨i,ys,tE,H5,I5,mC,sy,w5⟩;obtain ⟨hDs,stop | go⟩:=turn i n ys tE H5 w5
  ·obtain ⟨stop,qn⟩:=stop
   refine aM (T.done (cJ X scope N' cl s3.heap.objs.size s3 H3 fp (X.pn++pins)) rfl rfl rfl hc i [] s5 tE H5 _ I5 (stat sy) mC stop) fun r s6 ⟨hr,I6⟩=>?_
   subst hr;obtain ⟨m,hn,_⟩:=id I6.loc;exact done D _ s6 H5 (fun h' sb=>fin I6 h' sb) ⟨m,hn⟩ I6.free (fun z=>pq.fB (Nat.le_refl _) z) qn
  ·obtain ⟨go,N,hN,step⟩:=go
   refine aM (T.item (cJ X scope N' cl s3.heap.objs.size s3 H3 fp (X.pn++pins)) rfl rfl rfl hc i [] s5 tE H5 _ I5 (stat sy) mC go) fun r s6 ⟨u,hr,h6⟩=>?_
   subst hr;refine aM h6 fun _ s7 ⟨x,H7,I7,r7,y7,wG,OD⟩=>?_
   have OJ:=I7.pinned (stat OD) (T.obj _ _ wG);have again:∀ {s8:Shared} {iW:St} {H8:Hp} {ys':List V},Inv (cJ X scope N' cl s3.heap.objs.size s3 H3 fp (X.pn++pins)) ([]++VE fp s7.heap) iW H8 s8->(∃ m',m'<n/\W (i+1) m' ys' iW H8) ->
     ∃ m,m<n/\∃ i ys σ' H',Inv (cJ X scope N' cl s3.heap.objs.size s3 H3 fp (X.pn++pins)) [] σ' H' s8/\tn i s8.heap/\(∀ b∈fp,H' b=none)/\W i m ys σ' H':=fun {s8 iW H8 ys'} I8 ⟨m',hm,w8⟩=>by
    refine ⟨m',hm,i+1,ys',iW,H8,I8.eH,T.keep _ _ _ wG fun b hb o e=>(I8.pin (b,o) (List.mem_append_right _ (List.mem_append_right _ (WA hb e)))).1,fun b hb=>?_,w8⟩;obtain ⟨o,e,d⟩:=T.obj _ _ wG b hb;exact (I8.pin (b,o) (List.mem_append_right _ (List.mem_append_right _ (WA hb e)))).2.1
   refine aM (hg _ s3 H3 fp _ _ s7 tE H7 x u _ OJ r7 (step x H7 y7)) fun _ s8 ⟨iW,H8,I8,q8⟩=>?_
   refine aM (ht _ s3 H3 fp _ _ s8 iW H8 _ I8 q8) fun ok s9 ⟨H9,I9,q9⟩=>?_
   cases ok with
   | false=>exact again I9 (hN _ _ _ q9)
   | true =>
    rw [if_pos rfl];refine wpAny_mono (he _ s3 H3 fp _ _ s9 iW H9 _ (I9.wish _) q9) (fun y fZ ⟨yv,pA,K9,r10,O1⟩=>?_) (gone D s3 H3 fp pq fin);have O2:=K9.bO;obtain ⟨O4,hlen,w10⟩:=O1;refine aM (XH (X:=cJ X scope N' cl s3.heap.objs.size s3 H3 fp (X.pn++pins)) _ fZ iW pA (.ref D) [yv] (.ref D) [y] (fun _ H'=>H'=upd pA D (.lst (ys++[yv]))) O2 rfl (.cons r10 .nil) ⟨ys,O4,hlen,rfl⟩) fun _ s11 ⟨_,wH,O5,_,O6⟩=>?_
    subst O6;exact again O5 (hN _ _ _ w10)
 exact codeAny_compStart_list loop (T.self _ 0 _ _ _ (T.keep _ _ _ st3 fun b _ o e=>nG b o e) loop)
theorem XF {elt tg iter:Expr} {ifs:List Expr} {scope:Scope} {pos:Pos} {src:List (Option Nat)} {N':List Str} {wi:TI} {g:TG} {tt:TT} {te:TE} (hcap:eV X scope src N') (hc:X.calm=true) (hi:PI X tg iter wi)
  (hg:∀ cl C s₀ H₀ fp pn,PG (cJ X scope N' cl C s₀ H₀ fp pn) tg g) (ht:∀ cl C s₀ H₀ fp pn,tD (cJ X scope N' cl C s₀ H₀ fp pn) ifs tt) (he:∀ cl C s₀ H₀ fp pn,PE (cJ X scope N' cl C s₀ H₀ fp pn) elt te)
  (hfree:∀ x,(x,NameKind.free)∈scope.names->X.env.scope.names.lookup x=some NameKind.cell\/X.env.scope.names.lookup x=some NameKind.free)
  (hk:scope.kind = .function) (hcell:∀ y∈scope.names,y.2 ≠ .cell) (hnames:∀ y∈scope.names,y.2 = .local->scope.names.lookup y.1=some .local)
  (hs:∀ x,foldedSetIterable iter X.env x=pure x):PE X (.ListComp elt [⟨tg,iter,ifs,0⟩] scope pos) (eX src wi g tt te):=by
 intro pins s σ H Q I h;obtain ⟨cl,hcl,a,b⟩:=Ou X.env scope fun x hx=>I.ok.has x (hfree x hx)
 rw [eval_ListComp];refine wpAny_comprehension_free (use:=none) rfl hs hcl hk hnames (aM (hi pins s σ H _ I h) fun v s1 h1=>aM h1 fun itv s2 h2=>?_);exact Ox (Po:=fun v C=>compPost (model X.prog X.w) X.A X.xe none (EP X pins σ Q) v C) (Z:=fun _ _ _ _ _ _ _=>False) hcap hc (hg cl) (ht cl) (he cl) hk hcell a b h2 (fun D C s6 H5 fi ⟨m,hn⟩ _ _ qn=>⟨m,hn,fun h' sb=>⟨.ref D,H5,fi h' sb,rfl,qn⟩⟩) fun _ _ _ _ _ _ _ _ z=>z.elim
def Its (x:Str):It:=⟨fun i _=>i<x.length,fun i H v H'=>H'=H/\∃ c,x.cps.toList[i]?=some c/\v = .str ⟨#[c]⟩,fun i _=>x.length<=i⟩
theorem O7 {P:Program} {w:World} {K:PySem.W.Frag} {tg:Expr} (x:Str) (t:Tok) (it:Addr):Turn P w K tg (Its x) [it] it (fun i h=>h.IsStrIter it "str_ascii_iterator" x t i\/h.IsStrIter it "str_iterator" x t i) where
 mem:=by simp
 obj:=fun i h st b hb=>by
  have e:b=it:=by simpa using hb
  subst e;rcases st with ⟨o,e,c,d⟩ | ⟨o,e,c,d⟩<;>exact ⟨o,e,fun v z=>by rw [d] at z;cases z⟩
 keep:=fun i h h' st k=>by
  rcases st with ⟨o,e,c⟩ | ⟨o,e,c⟩
  ·exact .inl ⟨o,k it (by simp) o e,c⟩
  ·exact .inr ⟨o,k it (by simp) o e,c⟩
 item:=by
  intro X hP hw hK hc i pins s σ H E I hf st hg;subst hP hw hK;have hi:i<x.cps.size:=hg;have hx:x.cps[i]?=some x.cps[i]:=by simp [hi]
  obtain ⟨f0,f1,f2,f3,f4,f5⟩:=hf it (by simp);have fin:∀ (ty:String) (h':Heap),["enumerate","zip","dict_itemiterator","dict_reverseitemiterator","odict_iterator","itertools.zip_longest","itertools.pairwise"].contains ty=false->h'.IsStrIter it ty x t (i+1)->Heap.SameBut it s.heap h' ->
    (h'.IsStrIter it ty x t (i+1)->(h'.IsStrIter it "str_ascii_iterator" x t (i+1)\/h'.IsStrIter it "str_iterator" x t (i+1))) ->
    ∃ u,some (Value.str ⟨#[x.cps[i]]⟩ s.toks)=some u/\wpAny (model X.prog X.w) X.A (letOwnedTupleGo tg (.ref it) u) (fun _ s2=>∃ y H',Inv X pins σ H' s2/\Yw y u/\(Its x).jZ i H y H' /\
     (s2.heap.IsStrIter it "str_ascii_iterator" x t (i+1)\/s2.heap.IsStrIter it "str_iterator" x t (i+1))/\∀ b∈[it],H' b=none) E { s with heap:=h',toks:=s.toks+1 }:=fun ty h' hn st' sb hor=>by
   have I1:Inv X pins σ H { s with heap:=h',toks:=s.toks+1 }:=I.turned (t':=s.toks+1) (fun b o hb e=>(sb.2 b hb).trans e) f0 f1 f3 f4 f5;obtain ⟨o,e,c,d⟩:=id st';exact ⟨_,rfl,Q1 (s:={ s with heap:=h',toks:=s.toks+1 }) e c d hn ⟨.str ⟨#[x.cps[i]]⟩,H,I1,⟨_,rfl⟩,⟨rfl,x.cps[i],by simp [hi],rfl⟩,hor st',fun b hb=>(hf b hb).1⟩⟩
  rcases st with st | st
  ·exact wpAny_pyNext_ascii_item st hx fun h' st' sb=>fin _ h' (by decide) st' sb .inl
  ·exact wpAny_pyNext_wide_item st hx fun h' st' sb=>fin _ h' (by decide) st' sb .inr
 done:=by
  intro X hP hw hK hc i pins s σ H E I hf st hg;subst hP hw hK;have hi:x.cps.size<=i:=hg;have hx:x.cps[i]?=none:=by simp [hi]
  obtain ⟨f0,f1,f2,f3,f4,f5⟩:=hf it (by simp);rcases st with st | st
  ·exact wpAny_pyNext_ascii_end (I.ok.hd hc) st hx fun h' eb=>⟨rfl,I.turned (t':=s.toks) (fun b o hb e=>eb b o hb e) f0 f1 f3 f4 f5⟩
  ·exact wpAny_pyNext_wide_end (I.ok.hd hc) st hx fun h' eb=>⟨rfl,I.turned (t':=s.toks) (fun b o hb e=>eb b o hb e) f0 f1 f3 f4 f5⟩
 self:=fun A i s Q E st h=>by
  rcases st with st | st
  ·exact wpAny_pyIter_slot st.typeIs F.slot_str_ascii_iterator_iter (wpAny_call_entry F.slot_str_ascii_iterator_iter st.typeIs F.entry_str_ascii_iterator_iter (wpAny_pure ⟨_,rfl,"str_ascii_iterator",_,st.typeIs,F.slot_str_ascii_iterator_next.lookup,h⟩) (F.args_str_ascii_iterator_iter_1 _))
  ·exact wpAny_pyIter_slot st.typeIs F.slot_str_iterator_iter (wpAny_call_entry F.slot_str_iterator_iter st.typeIs F.entry_str_iterator_iter (wpAny_pure ⟨_,rfl,"str_iterator",_,st.typeIs,F.slot_str_iterator_next.lookup,h⟩) (F.args_str_iterator_iter_1 _))
end
section
variable {X:Cx} {tg:Expr}
def wI (tl:TE):TI:=fun σ H R=>tl σ H fun x H1=>∃ z,x = .str z/\R (Its z) H1
theorem Fp {l:Expr} {tl:TE} (hl:PE X l tl):PI X tg l (wI tl):=by
 intro pins s σ H R I h;refine aM (hl pins s σ H _ I h) fun v s1 ⟨x,H1,I1,r1,q1⟩=>?_
 obtain ⟨z,e,q⟩:=q1;subst e;obtain ⟨t,rfl⟩:=r1;refine wpAny_pyIter_strU ?_;refine ⟨s1.heap.objs.size,[s1.heap.objs.size],_,_,H1,rfl,I1.kept (t':=s1.toks) fun b o e=>Heap.get?_push_of_some _ e,O7 z t _,?_,fun b hb=>?_,q⟩
 ·unfold strIterType
  split
  ·exact .inl ⟨_,Heap.get?_push_size _ rfl,rfl,rfl⟩
  ·exact .inr ⟨_,Heap.get?_push_size _ rfl,rfl,rfl⟩
 ·have e:b=s1.heap.objs.size:=by simpa using hb
  subst e;exact I1.fB (Nat.le_refl _) (I1.hok.fresh (Nat.le_refl _))
def XM (J:It) (P:Hp->Prop) (xs:List V):Prop:=∀ H,P H->∀ i,(∀ x,xs[i]?=some x->J.go i H/\∀ y H',J.jZ i H y H'->H'=H/\y=x)/\(xs.length<=i->J.stop i H)
theorem O8 (z:Str) (P:Hp->Prop):XM (Its z) P (z.cps.toList.map fun c => .str ⟨#[c]⟩):=fun H _ i=>by
 refine ⟨fun x hx=>?_,fun hi=>?_⟩
 ·rw [List.getElem?_map] at hx
  cases e:z.cps.toList[i]? with
  | none=>rw [e] at hx;simp at hx
  | some c =>
   rw [e] at hx
   have hx':V.str ⟨#[c]⟩=x:=by simpa using hx
   subst hx';have hi:i<z.cps.toList.length:=(List.getElem?_eq_some_iff.mp e).1;refine ⟨by show i<z.cps.size;simpa using hi,fun y H' ⟨e1,c',e2,e3⟩=>⟨e1,?_⟩⟩;rw [e] at e2
   cases e2
   exact e3
 ·show z.cps.size<=i
  simpa using hi
theorem O9 {K:W.Frag} {a:Addr} {xs:List V}:XM (mz K a) (fun H=>aK K H a xs) xs:=fun H hq i=>by
 refine ⟨fun x hx=>⟨⟨xs,x,hq,hx⟩,fun y H' ⟨e1,e2⟩=>⟨e1,?_⟩⟩,fun hi=>⟨xs,hq,hi⟩⟩;have:=e2 xs hq;rw [hx] at this
 exact (Option.some.inj this).symm
theorem XN {K:W.Frag} {a:Addr} {xs:List V}:XM (mq K a) (fun H=>aJ K H a xs) xs:=fun H hq i=>by
 refine ⟨fun x hx=>⟨⟨xs,x,hq,hx⟩,fun y H' ⟨e1,e2⟩=>⟨e1,?_⟩⟩,fun hi=>⟨xs,hq,hi⟩⟩;have:=e2 xs hq;rw [hx] at this
 exact (Option.some.inj this).symm
theorem Uf {lo:Int} {n:Nat} {P:Hp->Prop}:XM (rZ lo n) P ((List.range n).map fun (i:Nat)=>V.int (lo+i)):=fun H hq i=>by
 refine ⟨fun x hx=>?_,fun hi=>by show n<=i;simpa using hi⟩;have hi:i<n:=by
  have:=(List.getElem?_eq_some_iff.mp hx).1;simpa using this
 refine ⟨hi,fun y H' ⟨e1,e2⟩=>⟨e1,?_⟩⟩;rw [List.getElem?_map,List.getElem?_range hi] at hx
 rw [e2];simpa using hx
theorem XM.imp {J:It} {P P':Hp->Prop} {xs:List V} (h:XM J P xs) (hp:∀ H,P' H->P H):XM J P' xs:=fun H q=>h H (hp H q)
theorem Fq {J:It} {P:Hp->Prop} {xs:List V} (hJ:XM J P xs) {src:List (Option Nat)} {g:TG} {tt:TT} {te:TE} {σ:St} {H1:Hp} {Q:VK} {D:Addr} (Pv:Nat->List V->St->Hp->Prop)
  (h0:Pv 0 [] (YH src σ) (upd H1 D (.lst []))) (hP:∀ i ys σ' H',Pv i ys σ' H'->P H'/\H' D=some (.lst ys))
  (step:∀ i ys σ' H' x,xs[i]?=some x->Pv i ys σ' H'->g x σ' H' fun σ2 H4=>tt σ2 H4 fun b H5=>if b=true then te σ2 H5 fun y H6=>H6 D=some (.lst ys)/\ys.length<sizeLine/\Pv (i+1) (ys++[y]) σ2 (upd H6 D (.lst (ys++[y]))) else Pv (i+1) ys σ2 H5)
  (fin:∀ ys σ' H',Pv xs.length ys σ' H'->Q (.ref D) H') :
  LC src J g tt te σ H1 Q D:=by
 refine ⟨fun i m ys σ' H'=>m=xs.length - i/\i<=xs.length/\Pv i ys σ' H',⟨xs.length,by simp,Nat.zero_le _,h0⟩,?_⟩;rintro i m ys σ' H2 ⟨rfl,hi,p⟩;obtain ⟨hp,hD⟩:=hP i ys σ' H2 p;refine ⟨hD,?_⟩;by_cases hlt:i<xs.length
 ·obtain ⟨go,yl⟩:=(hJ H2 hp i).1 xs[i] (by simp [hlt])
  refine .inr ⟨go,fun ys' σ3 H3=>Pv (i+1) ys' σ3 H3,fun ys' σ3 H3 p'=>⟨xs.length - (i+1),by omega,rfl,hlt,p'⟩,fun x H3 y=>?_⟩;obtain ⟨e1,e2⟩:=yl x H3 y;subst e1 e2;exact step i ys σ' _ _ (by simp [hlt]) p
 ·have e:i=xs.length:=by omega
  subst e;exact .inl ⟨(hJ H2 hp _).2 (Nat.le_refl _),fin ys σ' H2 p⟩
theorem Yf.aG {H:Hp} {p:Addr} (h:H p=none) (o:HO):Yf H (upd H p o):=fun b u q=>by rw [Yg (Ym q h)];exact q
theorem Yf.cO {H H':Hp} {p:Addr} (h:H p=none) (e:Yf H H') (o:HO):Yf H (upd H' p o):=fun b u q=>by rw [Yg (Ym q h)];exact e b u q
theorem Yf.tup {K:W.Frag} {H H':Hp} {a:Addr} {xs:List V} (e:Yf H H') (h:aK K H a xs):aK K H' a xs:=by
 rcases h with (h | ⟨o,h⟩) | h
 ·exact .inl (.inl (e _ _ h))
 ·exact .inl (.inr ⟨o,e _ _ h⟩)
 ·exact .inr h
end
section
variable {X:Cx}
theorem Ft:∀ {bs:List Bool} {us:List Value},Yt (bs.map V.bl) us->LSm.BoolsAre us bs
 | [],_,h=>by rw [Yt.zero h];exact .nil
 | b::bs,us,h=>by
  have h':Yt (V.bl b::bs.map V.bl) us:=h
  cases h' with
  | cons r t=>cases (show _=Value.bool b from r);exact .cons b (Ft t)
theorem Qb (hc:X.calm=true):Xl X (.builtin "all") (fun xs H Q=>∃ (p:Addr) (bs:List Bool),xs=[.ref p]/\aJ X.K H p (bs.map V.bl)/\Q (.bl (bs.all id)) H):=by
 intro pins s σ H xs us Q I r h;obtain ⟨p,bs,rfl,hq,q⟩:=h;obtain ⟨u,rfl,rx⟩:=WY r
 cases rx
 obtain ⟨its,r',pl,hz⟩:=I.list hq;have hb:=Ft r';have hl:=pl.isList;have hlt:p<s.heap.objs.size:=by obtain ⟨_,e,_⟩:=hl;exact Heap.lt_size e
 refine call_all_walk (wpAny_pyIter_list hl ?_);refine ⟨s.heap.objs.size,[s.heap.objs.size,p],[s.heap.objs.size],its.toArray.size,_,_,fun i=>(bs[i]?).getD true,rfl,Walks.list (A:=X.A.in1) (I.ok.hd hc) _ p (Nat.ne_of_lt hlt) its.toArray,
  ⟨⟨_,Heap.get?_push_size _ rfl,rfl,rfl⟩,hl.push _⟩,fun i v s' Q' E' hP hQ=>?_,fun h' tk hk=>?_⟩
 ·obtain ⟨b,e,rfl⟩:=hb.get i v (by simpa using hP)
  simp only [e,Option.getD_some] at hQ;exact wpAny_truthy_bool hQ
 ·have e:((List.range its.toArray.size).all fun i=>(bs[i]?).getD true)=bs.all id:=by
   rw [List.size_toArray,hb.length];exact LSm.range_all bs
  rw [e];exact ⟨.bl _,H,I.kept (t':=tk) (LSm.kept_iter hk),rfl,q⟩
def tG:V->Option Value
 | .ty n=>some (.type n)
 | .ref a=>some (.ref a)
 | _=>none
inductive La (K:W.Frag) (t cv:Value) (Q:Bool->Prop):Prop
 | mk (b:Bool) (h3:W.kitOne K t cv=some b) (q:Q b)
inductive Pa (K:W.Frag) (H:Hp) (x c:V) (Q:Bool->Prop):Prop
 | mk (cv:Value) (h1:tG c=some cv) (t:Value) (h2:bW K H x t) (q:La K t cv Q)
def tH (K:W.Frag):List V->Hp->VK->Prop:=fun xs H Q=>k2 xs fun x c=>Pa K H x c fun b=>Q (.bl b) H
theorem YO:Xl X (.builtin "isinstance") (tH X.K):=by
 intro pins s σ H xs us Q I r h;obtain ⟨x,c,rfl,cv,ec,t,ty,b,e,q⟩:=KC h;obtain ⟨u,w',rfl,ru,mG⟩:=Ek r;have ew:w'=cv:=by
  cases c with
  | ty n=>cases (show w'=Value.type n from mG);simpa [tG] using ec
  | ref a=>cases (show w'=Value.ref a from mG);simpa [tG] using ec
  | _=>simp [tG] at ec
 subst ew;exact NQ I ru ty e fun tk=>⟨.bl b,H,I.tok tk,rfl,q⟩
end
structure Sub (P:Program) (w:World) (i:Addr) (St:Nat->Heap->Prop) (Ready:Heap->(Nat->Option Value)->Prop):Prop where
 obj:∀ k h,St k h->∃ o,h.get? i=some o/\∀ v,o.data ≠ .cell v
 keep:∀ k h h',St k h->(∀ o,h.get? i=some o->h'.get? i=some o)->St k h'
 item:∀ (A:Around) (k:Nat) (s:Shared) (get:Nat->Option Value) (x:Value) (Q:Value->Shared->Prop) (E:Value->Shared->Prop),St k s.heap->Ready s.heap get->get k=some x ->
  (∀ h' tk,St (k+1) h'->Heap.SameBut i s.heap h'->Q x { s with heap:=h',toks:=tk })->wpAny (model P w) A (Builtin.SmallTypes.nextOf (.ref i)) Q E s
 fin:∀ (A:Around) (k:Nat) (s:Shared) (get:Nat->Option Value) (Q:Value->Shared->Prop) (E:Value->Shared->Prop),A.handled=none->St k s.heap->Ready s.heap get->get k=none ->
  (∀ h' e,Heap.ExtBut i s.heap h'->(∃ o,h'.get? e=some o/\o.cls = .type "StopIteration")->E (.ref e) { s with heap:=h' })->wpAny (model P w) A (Builtin.SmallTypes.nextOf (.ref i)) Q E s
section
variable {prog:Program} {w:World} {A:Around} {E:Value->Shared->Prop} {s:Shared}
theorem Ud {it t:Addr} {i:Nat} {items:Array Value} {x:Value} {Q:Value->Shared->Prop} (hit:s.heap.IsTupleIter it t i) (ht:s.heap.IsTuple t items) (hx:items[i]?=some x)
  (hQ:∀ h',h'.IsTupleIter it t (i+1)->Heap.SameBut it s.heap h'->Q x { s with heap:=h' }):wpAny (model prog w) A (Builtin.SmallTypes.nextOf (.ref it)) Q E s:=by
 obtain ⟨o,ho,hc,hd⟩:=id hit;obtain ⟨ol,hol,_,nl,hdl⟩:=ht;unfold Builtin.SmallTypes.nextOf;refine wpAny_bind (wpAny_callSpecial?_slot (name:=Str.ofString "__next__") hit.typeIs F.slot_tuple_iterator_next (wpAny_call_entry F.slot_tuple_iterator_next hit.typeIs F.entry_tuple_iterator_next ?_ (F.args_tuple_iterator_next_1 _)))
 show wpAny _ _ (field (.ref it) 0 >>= _) _ _ s
 refine wpAny_bind (wpAny_field ho hd (x := .ref t) rfl ?_)
 show wpAny _ _ (if (Value.ref t==Value.none)=true then _ else _) _ _ s
 rw [if_neg (show ¬ ((Value.ref t==Value.none)=true) from Bool.false_ne_true)]
 show wpAny _ _ (field (.ref it) 1 >>= _) _ _ s
 refine wpAny_bind (wpAny_field ho hd (x := .int i 0) rfl ?_)
 show wpAny _ _ (seqItems? (.ref t) >>= _) _ _ s
 refine wpAny_bind (wpAny_seqItems hol hdl ?_);simp only [Int.toNat_natCast,hx];refine wpAny_bind (wpAny_setField ho hd (by simp) (wpAny_pure ⟨x,rfl,wpAny_pure (hQ _ ?_ (Heap.SameBut.update ..))⟩));exact ⟨_,Heap.get?_update_self _ ho (Obj.isFreed_of_fields (Obj.data_mapFields hd _)),(Obj.cls_mapFields ..).trans hc,by rw [Obj.data_mapFields hd];simp [rawInt]⟩
theorem Up {it t:Addr} {i:Nat} {items:Array Value} {Q:Value->Shared->Prop} (hh:A.handled=none) (hit:s.heap.IsTupleIter it t i) (ht:s.heap.IsTuple t items) (hx:items[i]?=none)
  (hE:∀ h' e,Heap.ExtBut it s.heap h'->(∃ o,h'.get? e=some o/\o.cls = .type "StopIteration")->E (.ref e) { s with heap:=h' }):wpAny (model prog w) A (Builtin.SmallTypes.nextOf (.ref it)) Q E s:=by
 obtain ⟨o,ho,hc,hd⟩:=id hit;obtain ⟨ol,hol,_,nl,hdl⟩:=ht;unfold Builtin.SmallTypes.nextOf;refine wpAny_bind (wpAny_callSpecial?_slot (name:=Str.ofString "__next__") hit.typeIs F.slot_tuple_iterator_next (wpAny_call_entry F.slot_tuple_iterator_next hit.typeIs F.entry_tuple_iterator_next ?_ (F.args_tuple_iterator_next_1 _)))
 show wpAny _ _ (field (.ref it) 0 >>= _) _ _ s
 refine wpAny_bind (wpAny_field ho hd (x := .ref t) rfl ?_)
 show wpAny _ _ (if (Value.ref t==Value.none)=true then _ else _) _ _ s
 rw [if_neg (show ¬ ((Value.ref t==Value.none)=true) from Bool.false_ne_true)]
 show wpAny _ _ (field (.ref it) 1 >>= _) _ _ s
 refine wpAny_bind (wpAny_field ho hd (x := .int i 0) rfl ?_)
 show wpAny _ _ (seqItems? (.ref t) >>= _) _ _ s
 refine wpAny_bind (wpAny_seqItems hol hdl ?_);simp only [Int.toNat_natCast,hx];refine wpAny_bind (wpAny_rule (wpAny_bind (wpAny_setField ho hd (by simp) ?_)))
 show wpAny _ _ (newExc (.type "StopIteration") [] >>= _) _ _ _
 refine wpAny_bind ?_;simp only [newExc,newTuple];refine wpAny_bind (wpAny_newObj_type ?_ (by size_fits));refine wpAny_bind (m:=firstArgMember _ _) (wpAny_of_eq (a:=Value.none) (by first | rfl | (simp only [firstArgMember];rfl)) ?_);refine wpAny_newObj_type ?_ (by size_fits);simp only [raiseNew];refine wpAny_bind (wpAny_handled ?_)
 first | rw [show A.in1.handled=none from hh] | rw [hh]
 refine wpAny_bind (wpAny_pure (wpAny_throw ?_));exact hE _ _ (((Heap.SameBut.update ..).extBut.push _).push _) ⟨_,Heap.get?_push_size _ rfl,rfl⟩
end
theorem Xn {P:Program} {w:World} (i t:Addr):Sub P w i (fun k h=>h.IsTupleIter i t k) (fun h get=>∃ items:Array Value,h.IsTuple t items/\∀ k,get k=items[k]?) where
 obj:=fun k h ⟨o,e,c,d⟩=>⟨o,e,fun v z=>by rw [d] at z;cases z⟩
 keep:=fun k h h' st q=>st.at q
 item:=fun A k s get x Q E st ⟨items,ht,hg⟩ hx hQ=>Ud st ht ((hg k).symm.trans hx) fun h' st' sb=>hQ h' s.toks st' sb
 fin:=fun A k s get Q E hh st ⟨items,ht,hg⟩ hx hE=>Up hh st ht ((hg k).symm.trans hx) hE
theorem Pb {P:Program} {w:World} (i t:Addr):Sub P w i (fun k h=>h.IsListIter i t k) (fun h get=>∃ items:Array Value,h.IsList t items/\∀ k,get k=items[k]?) where
 obj:=fun k h ⟨o,e,c,d⟩=>⟨o,e,fun v z=>by rw [d] at z;cases z⟩
 keep:=fun k h h' st q=>st.at q
 item:=fun A k s get x Q E st ⟨items,ht,hg⟩ hx hQ=>wpAny_nextOf_list_item st ht ((hg k).symm.trans hx) fun h' st' sb=>hQ h' s.toks st' sb
 fin:=fun A k s get Q E hh st ⟨items,ht,hg⟩ hx hE=>wpAny_nextOf_list_end hh st ht ((hg k).symm.trans hx) hE
structure cF (z TI TO i1 i2:Addr):Prop where
 a:TI≠z
 b:TO≠z
 c:i1≠z
 d:i2≠z
 e:TI≠TO
 f:TI≠i1
 g:TI≠i2
 h:TO≠i1
 i:TO≠i2
 j:i1≠i2
section
variable {prog:Program} {w:World} {A:Around} {E:Value->Shared->Prop} {s:Shared} {z TI TO i1 i2:Addr} {S1 S2:Nat->Heap->Prop} {R1 R2:Heap->(Nat->Option Value)->Prop} {g1 g2:Nat->Option Value} {k:Nat} {a b:Value}
theorem Fv {x y:Value} {Q:Option Value->Shared->Prop} (D:cF z TI TO i1 i2) (U1:Sub prog w i1 S1 R1) (U2:Sub prog w i2 S2 R2)
  (k1:∀ h h' g,R1 h g->(∀ c o,c≠z->c≠TO->c≠i1->c≠i2->h.get? c=some o->h'.get? c=some o)->R1 h' g) (k2:∀ h h' g,R2 h g->(∀ c o,c≠z->c≠TO->c≠i1->c≠i2->h.get? c=some o->h'.get? c=some o)->R2 h' g)
  (hz:IsZip s.heap z TI TO .none) (hTI:IsPair s.heap TI (.ref i1) (.ref i2)) (hTO:IsPair s.heap TO a b) (h1:S1 k s.heap) (h2:S2 k s.heap) (r1:R1 s.heap g1) (r2:R2 s.heap g2) (hx:g1 k=some x) (hy:g2 k=some y)
  (hQ:∀ h' tk,IsZip h' z TI TO (rawInt s.heap.objs.size)->IsPair h' TO x y->S1 (k+1) h'->S2 (k+1) h'->IsPair h' s.heap.objs.size x y->h'.objs.size=s.heap.objs.size+1 ->
   (∀ c o,c≠z->c≠TO->c≠i1->c≠i2->s.heap.get? c=some o->h'.get? c=some o)->Q (some (.ref s.heap.objs.size)) { s with heap:=h',toks:=tk }) :
  wpAny (model prog w) A (pyNext (.ref z)) Q E s:=by
 have hT:s.TypeIs (.ref z) "zip":=⟨_,hz,rfl⟩;unfold pyNext;refine wpAny_bind (wpAny_attempt (wpAny_callSpecial?_slot (name:=Str.ofString "__next__") hT F.slot_zip_next (wpAny_call_entry F.slot_zip_next hT F.entry_zip_next ?_ (F.args_zip_next_1 _))))
 show wpAny _ _ (field (.ref z) 2 >>= _) _ _ _
 refine wpAny_bind (wpAny_field hz rfl (x := .bool false) rfl ?_)
 show wpAny _ _ (field (.ref z) 3 >>= _) _ _ _
 refine wpAny_bind (wpAny_field hz rfl (x := .ref TI) rfl ?_);refine wpAny_bind (wpAny_seqItems hTI rfl ?_)
 show wpAny _ _ (Builtin.SmallTypes.ownedTupleIsFree (.ref z) >>= _) _ _ _
 refine wpAny_bind ?_;unfold Builtin.SmallTypes.ownedTupleIsFree;refine wpAny_bind (wpAny_field hz rfl (x := .none) rfl (wpAny_pure ?_));simp only [if_true];refine wpAny_bind (wpAny_rule ?_);refine wpAny_bind (wpAny_field hz rfl (x := .ref TO) rfl ?_);refine wpAny_bind (wpAny_setField_rec hz (by simp) fun h₁ hz₁ hs₁=>?_)
 replace hz₁:IsZip h₁ z TI TO .ellipsis:=hz₁
 refine wpAny_bind ?_;simp only [List.zipIdx_cons,List.zipIdx_nil,List.forIn_cons,List.forIn_nil];refine wpAny_bind (wpAny_bind (wpAny_onRaise ?_))
 show wpAny _ _ (Builtin.SmallTypes.nextOf (.ref i1) >>= _) _ _ _
 have jR:S1 k h₁:=U1.keep _ _ _ h1 fun o e=>hs₁.extBut _ _ D.c e
 have jT:R1 h₁ g1:=k1 _ _ _ r1 fun c o c1 _ _ _ e=>hs₁.extBut _ _ c1 e
 refine wpAny_bind (U1.item _ k { s with heap:=h₁ } g1 x _ _ jR jT hx fun h₂ tk₂ jU hs₂=>wpAny_pure ?_);have hTO₂:IsPair h₂ TO a b:=hs₂.extBut _ _ D.h (hs₁.extBut _ _ D.b hTO);refine wpAny_bind (wpAny_seqItems hTO₂ rfl ?_);refine wpAny_bind (wpAny_updateSeq_pair hTO₂ fun h₃ hTO₃ hs₃=>?_)
 replace hTO₃:IsPair h₃ TO x b:=hTO₃
 refine wpAny_bind (wpAny_letGo (wpAny_pure ?_));refine wpAny_bind (wpAny_bind (wpAny_onRaise ?_))
 show wpAny _ _ (Builtin.SmallTypes.nextOf (.ref i2) >>= _) _ _ _
 have g8:∀ c o,c≠z->c≠TO->c≠i1->c≠i2->s.heap.get? c=some o->h₃.get? c=some o:=fun c o c1 c2 c3 c4 e=>hs₃.extBut _ _ c2 (hs₂.extBut _ _ c3 (hs₁.extBut _ _ c1 e))
 have nH:S2 k h₃:=U2.keep _ _ _ h2 fun o e=>hs₃.extBut _ _ D.i.symm (hs₂.extBut _ _ D.j.symm (hs₁.extBut _ _ D.d e))
 refine wpAny_bind (U2.item _ k { s with heap:=h₃,toks:=tk₂ } g2 y _ _ nH (k2 _ _ _ r2 g8) hy fun h₄ tk₄ nJ hs₄=>wpAny_pure ?_);have hTO₄:IsPair h₄ TO x b:=hs₄.extBut _ _ D.i hTO₃;refine wpAny_bind (wpAny_seqItems hTO₄ rfl ?_);refine wpAny_bind (wpAny_updateSeq_pair hTO₄ fun h₅ hTO₅ hs₅=>?_)
 replace hTO₅:IsPair h₅ TO x y:=hTO₅
 refine wpAny_bind (wpAny_letGo (wpAny_pure (wpAny_pure ?_)));refine wpAny_bind (wpAny_seqItems hTO₅ rfl ?_);refine wpAny_bind (wpAny_newTuple ?_);have hsz:h₅.objs.size=s.heap.objs.size:=by rw [hs₅.1,hs₄.1,hs₃.1,hs₂.1,hs₁.1]
 have hz₅:IsZip h₅ z TI TO .ellipsis:=hs₅.extBut _ _ D.b.symm (hs₄.extBut _ _ D.d.symm (hs₃.extBut _ _ D.b.symm (hs₂.extBut _ _ D.c.symm hz₁)));have hk₅:∀ c o,c≠z->c≠TO->c≠i1->c≠i2->s.heap.get? c=some o->h₅.get? c=some o:=fun c o c1 c2 c3 c4 e=>hs₅.extBut _ _ c2 (hs₄.extBut _ _ c4 (g8 c o c1 c2 c3 c4 e))
 have Ck:S1 (k+1) h₅:=U1.keep _ _ _ jU fun o e=>hs₅.extBut _ _ D.h.symm (hs₄.extBut _ _ D.j (hs₃.extBut _ _ D.h.symm e))
 have Cm:S2 (k+1) h₅:=U2.keep _ _ _ nJ fun o e=>hs₅.extBut _ _ D.i.symm e
 have hzlt:z<h₅.objs.size:=Heap.lt_size hz₅
 show wpAny _ _ (Builtin.SmallTypes.ownedTupleHandOut (.ref z) (.ref h₅.objs.size) >>= _) _ _ _
 refine wpAny_bind ?_;unfold Builtin.SmallTypes.ownedTupleHandOut;have hz₆:IsZip (h₅.push { cls := .type "tuple",data := .seq #[x,y] }) z TI TO .ellipsis:=Heap.get?_push_of_some _ hz₅;refine wpAny_bind (wpAny_setField_rec hz₆ (by simp) fun h₇ hz₇ hs₇=>?_)
 replace hz₇:IsZip h₇ z TI TO (rawInt h₅.objs.size):=hz₇
 refine wpAny_setField_rec hz₇ (by simp) fun h₈ hz₈ hs₈=>?_
 replace hz₈:IsZip h₈ z TI TO (rawInt h₅.objs.size):=hz₈
 have up:∀ c o,c≠z->h₅.get? c=some o->h₈.get? c=some o:=fun c o c1 e=>hs₈.extBut _ _ c1 (hs₇.extBut _ _ c1 (Heap.get?_push_of_some _ e))
 have hT₈:IsPair h₈ h₅.objs.size x y:=hs₈.extBut _ _ (Nat.ne_of_gt hzlt) (hs₇.extBut _ _ (Nat.ne_of_gt hzlt) (Heap.get?_push_size _ rfl));have hz8:h₈.objs.size=h₅.objs.size+1:=by rw [hs₈.1,hs₇.1,Heap.size_push]
 rw [hsz] at hz₈ hT₈ hz8
 refine wpAny_pure ⟨_,rfl,wpAny_pure ?_⟩
 show Q (some (.ref h₅.objs.size)) _
 rw [hsz];exact hQ h₈ tk₄ hz₈ (up _ _ D.b hTO₅) (U1.keep _ _ _ Ck fun o e=>up _ o D.c e) (U2.keep _ _ _ Cm fun o e=>up _ o D.d e) hT₈ hz8 fun c o c1 c2 c3 c4 e=>up c o c1 (hk₅ c o c1 c2 c3 c4 e)
theorem Fw {Q:Option Value->Shared->Prop} (hh:A.handled=none) (D:cF z TI TO i1 i2) (U1:Sub prog w i1 S1 R1) (U2:Sub prog w i2 S2 R2)
  (k1:∀ h h' g,R1 h g->(∀ c o,c≠z->c≠TO->c≠i1->c≠i2->h.get? c=some o->h'.get? c=some o)->R1 h' g) (k2:∀ h h' g,R2 h g->(∀ c o,c≠z->c≠TO->c≠i1->c≠i2->h.get? c=some o->h'.get? c=some o)->R2 h' g)
  (hz:IsZip s.heap z TI TO .none) (hTI:IsPair s.heap TI (.ref i1) (.ref i2)) (hTO:IsPair s.heap TO a b) (h1:S1 k s.heap) (h2:S2 k s.heap) (r1:R1 s.heap g1) (r2:R2 s.heap g2) (hend:g1 k=none\/g2 k=none)
  (hQ:∀ h' tk,(∀ c o,c≠z->c≠TO->c≠i1->c≠i2->s.heap.get? c=some o->h'.get? c=some o)->Q none { s with heap:=h',toks:=tk }):wpAny (model prog w) A (pyNext (.ref z)) Q E s:=by
 have hT:s.TypeIs (.ref z) "zip":=⟨_,hz,rfl⟩;unfold pyNext;refine wpAny_bind (wpAny_attempt (wpAny_callSpecial?_slot (name:=Str.ofString "__next__") hT F.slot_zip_next (wpAny_call_entry F.slot_zip_next hT F.entry_zip_next ?_ (F.args_zip_next_1 _))))
 show wpAny _ _ (field (.ref z) 2 >>= _) _ _ _
 refine wpAny_bind (wpAny_field hz rfl (x := .bool false) rfl ?_)
 show wpAny _ _ (field (.ref z) 3 >>= _) _ _ _
 refine wpAny_bind (wpAny_field hz rfl (x := .ref TI) rfl ?_);refine wpAny_bind (wpAny_seqItems hTI rfl ?_)
 show wpAny _ _ (Builtin.SmallTypes.ownedTupleIsFree (.ref z) >>= _) _ _ _
 refine wpAny_bind ?_;unfold Builtin.SmallTypes.ownedTupleIsFree;refine wpAny_bind (wpAny_field hz rfl (x := .none) rfl (wpAny_pure ?_));simp only [if_true];refine wpAny_bind (wpAny_rule ?_);refine wpAny_bind (wpAny_field hz rfl (x := .ref TO) rfl ?_);refine wpAny_bind (wpAny_setField_rec hz (by simp) fun h₁ hz₁ hs₁=>?_)
 replace hz₁:IsZip h₁ z TI TO .ellipsis:=hz₁
 refine wpAny_bind ?_;simp only [List.zipIdx_cons,List.zipIdx_nil,List.forIn_cons,List.forIn_nil];refine wpAny_bind (wpAny_bind (wpAny_onRaise ?_))
 show wpAny _ _ (Builtin.SmallTypes.nextOf (.ref i1) >>= _) _ _ _
 have jR:S1 k h₁:=U1.keep _ _ _ h1 fun o e=>hs₁.extBut _ _ D.c e
 have jT:R1 h₁ g1:=k1 _ _ _ r1 fun c o c1 _ _ _ e=>hs₁.extBut _ _ c1 e
 cases hx:g1 k with
 | none =>
  refine wpAny_bind (U1.fin _ k { s with heap:=h₁ } g1 _ _ hh jR jT hx fun h₂ e hs₂ he=>?_);obtain ⟨oe,hoe,hce⟩:=he;have hz₂:IsZip h₂ z TI TO .ellipsis:=hs₂ _ _ D.c.symm hz₁;have hez:e≠z:=fun x=>by subst x;rw [hz₂] at hoe;cases hoe;simp at hce
  refine wpAny_setField_rec hz₂ (by simp) fun h₃ _ hs₃=>?_
  refine wpAny_bind (wpAny_isInstance (T:="StopIteration") (b:=true) ⟨oe,hs₃.extBut _ _ hez hoe,hce⟩ isSubtype_stop ?_);exact wpAny_pure (hQ h₃ s.toks fun c o c1 _ c3 _ x=>hs₃.extBut _ _ c1 (hs₂ _ _ c3 (hs₁.extBut _ _ c1 x)))
 | some x =>
  have hy:g2 k=none:=by rcases hend with h | h;rw [hx] at h;cases h;exact h
  refine wpAny_bind (U1.item _ k { s with heap:=h₁ } g1 x _ _ jR jT hx fun h₂ tk₂ jU hs₂=>wpAny_pure ?_);have hTO₂:IsPair h₂ TO a b:=hs₂.extBut _ _ D.h (hs₁.extBut _ _ D.b hTO);refine wpAny_bind (wpAny_seqItems hTO₂ rfl ?_);refine wpAny_bind (wpAny_updateSeq_pair hTO₂ fun h₃ hTO₃ hs₃=>?_);refine wpAny_bind (wpAny_letGo (wpAny_pure ?_));refine wpAny_bind (wpAny_bind (wpAny_onRaise ?_))
  show wpAny _ _ (Builtin.SmallTypes.nextOf (.ref i2) >>= _) _ _ _
  have g8:∀ c o,c≠z->c≠TO->c≠i1->c≠i2->s.heap.get? c=some o->h₃.get? c=some o:=fun c o c1 c2 c3 c4 e=>hs₃.extBut _ _ c2 (hs₂.extBut _ _ c3 (hs₁.extBut _ _ c1 e))
  have nH:S2 k h₃:=U2.keep _ _ _ h2 fun o e=>hs₃.extBut _ _ D.i.symm (hs₂.extBut _ _ D.j.symm (hs₁.extBut _ _ D.d e))
  refine wpAny_bind (U2.fin _ k { s with heap:=h₃,toks:=tk₂ } g2 _ _ hh nH (k2 _ _ _ r2 g8) hy fun h₄ e hs₄ he=>?_);obtain ⟨oe,hoe,hce⟩:=he;have hz₄:IsZip h₄ z TI TO .ellipsis:=hs₄ _ _ D.d.symm (hs₃.extBut _ _ D.b.symm (hs₂.extBut _ _ D.c.symm hz₁));have hez:e≠z:=fun x=>by subst x;rw [hz₄] at hoe;cases hoe;simp at hce
  refine wpAny_setField_rec hz₄ (by simp) fun h₅ _ hs₅=>?_
  refine wpAny_bind (wpAny_isInstance (T:="StopIteration") (b:=true) ⟨oe,hs₅.extBut _ _ hez hoe,hce⟩ isSubtype_stop ?_);exact wpAny_pure (hQ h₅ tk₂ fun c o c1 c2 c3 c4 x=>hs₅.extBut _ _ c1 (hs₄ _ _ c4 (g8 c o c1 c2 c3 c4 x)))
end
abbrev tK (h:Heap) (o1 o2:Obj):Heap:=((h.push o1).push o2)
abbrev tL (h:Heap) (o1 o2:Obj):Heap:=(tK h o1 o2).push { cls := .type "tuple",data := .seq #[.ref h.objs.size,.ref (h.push o1).objs.size] }
abbrev tM (h:Heap) (o1 o2:Obj):Heap:=(tL h o1 o2).push { cls := .type "tuple",data := .seq #[.none,.none] }
abbrev j6 (h:Heap) (o1 o2:Obj):Heap:=(tM h o1 o2).push { cls := .type "zip",data := .fields #[.none,.bool false,.bool false,.ref (tK h o1 o2).objs.size,.ref (tL h o1 o2).objs.size] }
def X0 (h:Heap) (v:Value) (o:Obj):Prop:=∀ (prog:Program) (w:World) (A:Around) (E:Value->Shared->Prop) (s:Shared) (Q:Value->Shared->Prop),(∀ b ob,h.get? b=some ob->s.heap.get? b=some ob) ->
 Q (.ref s.heap.objs.size) { s with heap:=s.heap.push o }->wpAny (model prog w) A (pyIter v) Q E s
theorem XU {h:Heap} {t:Addr} {items:Array Value} (ht:h.IsTuple t items):X0 h (.ref t) { cls := .type "tuple_iterator",data := .fields #[.ref t,.int 0 0] }:=fun prog w A E s Q k q=>by
 obtain ⟨o,e,r⟩:=ht;exact wpAny_pyIter_tuple (items:=items) ⟨o,k _ _ e,r⟩ q
theorem VI {h:Heap} {t:Addr} {items:Array Value} (ht:h.IsList t items):X0 h (.ref t) { cls := .type "list_iterator",data := .fields #[.ref t,.int 0 0] }:=fun prog w A E s Q k q=>by
 obtain ⟨o,e,r⟩:=ht;exact wpAny_pyIter_list (items:=items) ⟨o,k _ _ e,r⟩ q
theorem Pg (v1 v2:Value) (o1 o2:Obj) :
  Meets (Builtin.«zip.__new__» ⟨[.type "zip",v1,v2],[]⟩) (fun _ R s=>X0 s.heap v1 o1/\X0 s.heap v2 o2/\R (.ok (.ret (.ref (tM s.heap o1 o2).objs.size))) { s with heap:=j6 s.heap o1 o2 }) :=
 .of_wp fun prog w A R s h=>by
  obtain ⟨hp,g,d,tk,os⟩:=s;obtain ⟨h1,h2,h⟩:=h;have hsub:=sub_zip;have p1:∀ {A':Around} {E:Value->Shared->Prop} {Q:Value->Shared->Prop},Q (.ref hp.objs.size) ⟨hp.push o1,g,d,tk,os⟩->wpAny (model prog w) A' (pyIter v1) Q E ⟨hp,g,d,tk,os⟩:=fun q=>h1 prog w _ _ ⟨hp,g,d,tk,os⟩ _ (fun _ _ e=>e) q
  have p2:∀ {A':Around} {E:Value->Shared->Prop} {Q:Value->Shared->Prop},Q (.ref (hp.push o1).objs.size) ⟨(hp.push o1).push o2,g,d,tk,os⟩->wpAny (model prog w) A' (pyIter v2) Q E ⟨hp.push o1,g,d,tk,os⟩:=fun q=>h2 prog w _ _ ⟨hp.push o1,g,d,tk,os⟩ _ (fun _ _ e=>Heap.get?_push_of_some _ e) q
  wp_walk using p1,p2
  exact ⟨_,rfl,h⟩
section
variable {prog:Program} {w:World} {A:Around} {E:Value->Shared->Prop} {s:Shared}
theorem QG {v1 v2:Value} {o1 o2:Obj} {Q:Value->Shared->Prop} (p1:X0 s.heap v1 o1) (p2:X0 s.heap v2 o2) (f1:o1.isFreed=false) (f2:o2.isFreed=false)
  (h:∀ h',IsZip h' (s.heap.objs.size+4) (s.heap.objs.size+2) (s.heap.objs.size+3) .none->IsPair h' (s.heap.objs.size+2) (.ref s.heap.objs.size) (.ref (s.heap.objs.size+1))->IsPair h' (s.heap.objs.size+3) .none .none ->
   h'.get? s.heap.objs.size=some o1->h'.get? (s.heap.objs.size+1)=some o2->h'.objs.size=s.heap.objs.size+5->(∀ c o,s.heap.get? c=some o->h'.get? c=some o)->Q (.ref (s.heap.objs.size+4)) { s with heap:=h' }) :
  wpAny (model prog w) A (call (.type "zip") [v1,v2]) Q E s:=by
 refine callType_new F.called_zip (by decide) (F.typeCall_zip_2 _ _) (F.newCall_zip_2 _ _) (fun obj=>F.args_object_init_3 obj _ _) F.entry_zip_new (Pg v1 v2 o1 o2) ⟨p1,p2,?_⟩;have z1:(s.heap.push o1).objs.size=s.heap.objs.size+1:=Heap.size_push ..;have z2:(tK s.heap o1 o2).objs.size=s.heap.objs.size+2:=by rw [Heap.size_push,z1]
 have z3:(tL s.heap o1 o2).objs.size=s.heap.objs.size+3:=by rw [Heap.size_push,z2]
 have z4:(tM s.heap o1 o2).objs.size=s.heap.objs.size+4:=by rw [Heap.size_push,z3]
 have z5:(j6 s.heap o1 o2).objs.size=s.heap.objs.size+5:=by rw [Heap.size_push,z4]
 have g5:(j6 s.heap o1 o2).get? (tM s.heap o1 o2).objs.size=some _:=Heap.get?_push_size _ rfl;have g4:(j6 s.heap o1 o2).get? (tL s.heap o1 o2).objs.size=some _:=Heap.get?_push_of_some _ (Heap.get?_push_size _ rfl);have g3:(j6 s.heap o1 o2).get? (tK s.heap o1 o2).objs.size=some _:=Heap.get?_push_of_some _ (Heap.get?_push_of_some _ (Heap.get?_push_size _ rfl));have g2:(j6 s.heap o1 o2).get? (s.heap.push o1).objs.size=some o2:=Heap.get?_push_of_some _ (Heap.get?_push_of_some _ (Heap.get?_push_of_some _ (Heap.get?_push_size _ f2)));have g1:(j6 s.heap o1 o2).get? s.heap.objs.size=some o1:=Heap.get?_push_of_some _ (Heap.get?_push_of_some _ (Heap.get?_push_of_some _ (Heap.get?_push_of_some _ (Heap.get?_push_size _ f1))))
 show _/\_
 rw [z2,z3,z4] at g5
 rw [z1,z2] at g3
 rw [z3] at g4
 rw [z1] at g2
 rw [z4];exact ⟨⟨_,g5,rfl⟩,h _ g5 g3 g4 g1 g2 z5 fun c o x=>Heap.get?_push_of_some _ (Heap.get?_push_of_some _ (Heap.get?_push_of_some _ (Heap.get?_push_of_some _ (Heap.get?_push_of_some _ x))))⟩
end
section
variable {X:Cx} {pins:List (Addr×Obj)} {σ:St} {H:Hp} {s:Shared} {h':Heap}
theorem Inv.vA {t':Nat} {ch:List Addr} (I:Inv X pins σ H s) (k:∀ b o,b∉ch->s.heap.get? b=some o->h'.get? b=some o) (hf:∀ b∈ch,X5 X pins H b):Inv X pins σ H { s with heap:=h',toks:=t' }:=by
 have fu:∀ b u,H b=some u->b∉ch:=fun b u e z=>by rw [(hf b z).1] at e;cases e
 refine I.step (g':=s.gens) (d':=s.drawn) (ch:=ch) (fun b hb=>?_) (fun b o _ _ hc e _=>k b o hc e) (fun b o _ _ hc e _=>⟨o.slots,k b o hc e⟩) (fun _ _ _ _ n=>n)
  (fun b o hc e=>⟨o,k b o hc e⟩) (fun _ _ e=>e) (fun _ _ _ e=>e) (fun b ps e=>⟨#[],by rw [e];simp⟩) (fun m hm=>?_) (fun b u e=>?_) I.bare
 ·obtain ⟨f0,f1,f2,f3,f4,f5⟩:=hf b hb
  exact ⟨f3,f1,f4,f5⟩
 ·obtain ⟨o,es,ep,ho,r⟩:=hm
  exact ⟨o,es,ep,k _ o (fun z=>(hf _ z).2.1 rfl) ho,r⟩
 ·refine (I.hok b u e).stay (fun c v hc q=>k c v ?_ q) (fun _ q=>q) fun _ _ q=>q
  rcases hc with z | z
  ·rw [z];exact fu b u e
  ·exact fu c _ z
theorem Inv.mH {t':Nat} {ch:List Addr} {T:Addr} {vs:List V} (I:Inv X pins σ H s) (k:∀ b o,b∉ch->s.heap.get? b=some o->h'.get? b=some o) (hf:∀ b∈ch,X5 X pins H b) (hT:s.heap.objs.size<=T)
  (new:YN X.prog X.w (upd H T (.tup vs)) h' T (.tup vs)):Inv X pins σ (upd H T (.tup vs)) { s with heap:=h',toks:=t' }:=by
 have hn:H T=none:=I.hok.fresh hT;have fu:∀ b u,H b=some u->b∉ch:=fun b u e z=>by rw [(hf b z).1] at e;cases e
 have nT:∀ b o,s.heap.get? b=some o->b≠T:=fun b o e z=>absurd (Heap.lt_size e) (by rw [z];exact Nat.not_lt.mpr hT)
 have up:∀ b u,H b=some u->upd H T (.tup vs) b=some u:=fun b u e=>by rw [Yg (Ym e hn)];exact e
 refine I.step (g':=s.gens) (d':=s.drawn) (ch:=ch) (fun b hb=>?_) (fun b o _ _ hc e _=>k b o hc e) (fun b o _ _ hc e _=>⟨o.slots,k b o hc e⟩) (fun b o _ e n=>by rw [Yg (nT b o e)];exact n)
  (fun b o hc e=>⟨o,k b o hc e⟩) (fun b xs e=>up b _ e) (fun b o u e=>up b _ e) (fun b ps e=>⟨#[],by rw [up b _ e];simp⟩) (fun m hm=>?_) (fun b u e=>?_) I.bare
 ·obtain ⟨f0,f1,f2,f3,f4,f5⟩:=hf b hb
  exact ⟨f3,f1,f4,f5⟩
 ·obtain ⟨o,es,ep,ho,r⟩:=hm
  exact ⟨o,es,ep,k _ o (fun z=>(hf _ z).2.1 rfl) ho,r⟩
 ·by_cases hb:b=T
  ·subst hb;rw [Yb] at e;cases e;exact new
  ·rw [Yg hb] at e
   refine (I.hok b u e).stay (fun c v hc q=>k c v ?_ q) (fun c q=>up c _ q) fun c xs q=>up c _ q
   rcases hc with z | z
   ·rw [z];exact fu b u e
   ·exact fu c _ z
end
def tO (G1 G2:Hp->List V->Prop):It :=
 ⟨fun i H=>∃ xs ys x y,G1 H xs/\G2 H ys/\xs[i]?=some x/\ys[i]?=some y,fun i H v H'=>∃ T,v = .ref T/\H T=none/\∀ xs ys x y,G1 H xs->G2 H ys->xs[i]?=some x->ys[i]?=some y->H'=upd H T (.tup [x,y]),
  fun i H=>∃ xs ys,G1 H xs/\G2 H ys/\(xs.length<=i\/ys.length<=i)⟩
structure Part (K:W.Frag) (G:Hp->List V->Prop) (Si:Addr->Nat->Heap->Prop) (R:Heap->(Nat->Option Value)->Prop) (own:Addr):Prop where
 sub:∀ (P:Program) (w:World) (i:Addr),Sub P w i (Si i) R
 ready:∀ (X:Cx),X.K=K->∀ (pins:List (Addr×Obj)) (σ:St) (H:Hp) (s:Shared) (xs:List V),Inv X pins σ H s->G H xs->∃ us:List Value,Yt xs us/\R s.heap (fun k=>us[k]?)
 inj:∀ (X:Cx),X.K=K->∀ (pins:List (Addr×Obj)) (σ:St) (H:Hp) (s:Shared) (xs ys:List V),Inv X pins σ H s->G H xs->G H ys->xs=ys
 keep:∀ h h' g,R h g->(∀ o,h.get? own=some o->h'.get? own=some o)->R h' g
theorem UJ {K:W.Frag} (a:Addr):Part K (fun H xs=>aK K H a xs) (fun i k h=>h.IsTupleIter i a k) (fun h get=>∃ items:Array Value,h.IsTuple a items/\∀ k,get k=items[k]?) a where
 sub:=fun P w i=>Xn i a
 ready:=fun X hK pins σ H s xs I hq=>by
  subst hK;obtain ⟨its,r,ht,_⟩:=I.tuple hq;exact ⟨its,r,its.toArray,ht,fun k=>by simp⟩
 inj:=fun X hK pins σ H s xs ys I h1 h2=>by subst hK;exact I.iT h1 h2
 keep:=fun h h' g ⟨items,⟨o,e,r⟩,q⟩ k=>⟨items,⟨o,k o e,r⟩,q⟩
theorem QH {K:W.Frag} (a:Addr):Part K (fun H xs=>aJ K H a xs) (fun i k h=>h.IsListIter i a k) (fun h get=>∃ items:Array Value,h.IsList a items/\∀ k,get k=items[k]?) a where
 sub:=fun P w i=>Pb i a
 ready:=fun X hK pins σ H s xs I hq=>by
  subst hK;obtain ⟨its,r,ht,_⟩:=I.list hq;exact ⟨its,r,its.toArray,ht.isList,fun k=>by simp⟩
 inj:=fun X hK pins σ H s xs ys I h1 h2=>by subst hK;exact I.gn h1 h2
 keep:=fun h h' g ⟨items,⟨o,e,r⟩,q⟩ k=>⟨items,⟨o,k o e,r⟩,q⟩
theorem Ph {P:Program} {w:World} {K:W.Frag} {elts:List Expr} {kk:Nat} {pos:Pos} {G1 G2:Hp->List V->Prop} {S1 S2:Addr->Nat->Heap->Prop} {R1 R2:Heap->(Nat->Option Value)->Prop} {a1 a2:Addr}
  (p1:Part K G1 S1 R1 a1) (p2:Part K G2 S2 R2 a2) {z TI TO i1 i2:Addr} (D:cF z TI TO i1 i2) (n1:a1∉[z,TO,i1,i2]) (n2:a2∉[z,TO,i1,i2]) :
  Turn P w K (.Tuple elts kk pos) (tO G1 G2) [z,TI,TO,i1,i2] z (fun i h=>IsZip h z TI TO .none/\IsPair h TI (.ref i1) (.ref i2)/\(∃ a b,IsPair h TO a b)/\S1 i1 i h/\S2 i2 i h) where
 mem:=by simp
 obj:=fun i h ⟨hz,hTI,⟨a,b,hTO⟩,h1,h2⟩ c hc=>by
  simp only [List.mem_cons,List.not_mem_nil,or_false] at hc;rcases hc with rfl | rfl | rfl | rfl | rfl
  ·exact ⟨_,hz,fun v e=>by cases e⟩
  ·exact ⟨_,hTI,fun v e=>by cases e⟩
  ·exact ⟨_,hTO,fun v e=>by cases e⟩
  ·exact (p1.sub P w _).obj _ _ h1
  ·exact (p2.sub P w _).obj _ _ h2
 keep:=fun i h h' ⟨hz,hTI,⟨a,b,hTO⟩,h1,h2⟩ q =>
  ⟨q z (by simp) _ hz,q TI (by simp) _ hTI,⟨a,b,q TO (by simp) _ hTO⟩,(p1.sub P w i1).keep _ _ _ h1 (q i1 (by simp)),(p2.sub P w i2).keep _ _ _ h2 (q i2 (by simp))⟩
 item:=by
  intro X hP hw hK hc i pins s σ H E I hf ⟨hz,hTI,⟨a,b,hTO⟩,h1,h2⟩ hg;subst hP hw;obtain ⟨xs,ys,x,y,g1,g2,hx,hy⟩:=hg;obtain ⟨d7,r1,wJ⟩:=p1.ready X hK pins σ H s xs I g1;obtain ⟨cG,r2,wK⟩:=p2.ready X hK pins σ H s ys I g2;obtain ⟨u,hu,ru⟩:=r1.get hx;obtain ⟨v,hv,rv⟩:=r2.get hy;have out:∀ c,c≠z->c≠TO->c≠i1->c≠i2->c∉[z,TO,i1,i2]:=fun c c1 c2 c3 c4 hm=>by
   simp only [List.mem_cons,List.not_mem_nil,or_false] at hm;rcases hm with e | e | e | e<;>contradiction
  have sep:∀ {c:Addr},c∉[z,TO,i1,i2]->c≠z/\c≠TO/\c≠i1/\c≠i2:=fun hm=>⟨fun e=>hm (by simp [e]),fun e=>hm (by simp [e]),fun e=>hm (by simp [e]),fun e=>hm (by simp [e])⟩
  obtain ⟨m1,m2,m3,m4⟩:=sep n1;obtain ⟨m5,m6,m7,m8⟩:=sep n2;refine Fv (k:=i) D (p1.sub _ _ i1) (p2.sub _ _ i2) (fun h h' g r q=>p1.keep _ _ _ r fun o e=>q a1 o m1 m2 m3 m4 e) (fun h h' g r q=>p2.keep _ _ _ r fun o e=>q a2 o m5 m6 m7 m8 e) hz hTI hTO h1 h2 wJ wK hu hv fun h' tk hz' Lb h1' h2' hT' hsz keep=>?_
  refine ⟨_,rfl,?_⟩;refine wpAny_letOwnedTupleGo_zip (s:={ s with heap:=h',toks:=tk }) hz' fun h'' hz'' sb=>?_
  have Fx:z<s.heap.objs.size:=Heap.lt_size hz;have kp:∀ c o,c∉[z,TO,i1,i2]->s.heap.get? c=some o->h''.get? c=some o:=fun c o hm e=>by
   obtain ⟨c1,c2,c3,c4⟩:=sep hm;exact sb.extBut c o c1 (keep c o c1 c2 c3 c4 e)
  have Ld:IsPair h'' s.heap.objs.size u v:=sb.extBut _ _ (Nat.ne_of_gt Fx) hT';have Pj:∀ c∈[z,TO,i1,i2],X5 X pins H c:=fun c hm=>hf c (by
   simp only [List.mem_cons,List.not_mem_nil,or_false] at hm ⊢;rcases hm with e | e | e | e<;>simp [e])
  have I':=I.mH (t':=tk) (h':=h'') (T:=s.heap.objs.size) (vs:=[x,y]) kp Pj (Nat.le_refl _) (show YN X.prog X.w _ h'' _ (.tup [x,y]) from ⟨by show 2<=sizeLine;decide,[u,v],.cons ru (.cons rv .nil),_,Ld,rfl,_,rfl⟩);have fresh:H s.heap.objs.size=none:=I.hok.fresh (Nat.le_refl _);refine ⟨.ref s.heap.objs.size,_,I',rfl,⟨_,rfl,fresh,fun xs' ys' x' y' wL wM hx' hy'=>?_⟩,⟨hz'',sb.extBut _ _ D.a (keep _ _ D.a D.e D.f D.g hTI),⟨_,_,sb.extBut _ _ D.b Lb⟩,(p1.sub X.prog X.w i1).keep _ _ _ h1' fun o e=>sb.extBut _ _ D.c e,(p2.sub X.prog X.w i2).keep _ _ _ h2' fun o e=>sb.extBut _ _ D.d e⟩,fun c hm=>?_⟩
  ·rw [p1.inj X hK pins σ H s _ _ I wL g1,hx] at hx'
   rw [p2.inj X hK pins σ H s _ _ I wM g2,hy] at hy'
   cases hx'
   cases hy'
   rfl
  ·have h0:=(hf c hm).1
   have wN:c<s.heap.objs.size:=by
    simp only [List.mem_cons,List.not_mem_nil,or_false] at hm;rcases hm with rfl | rfl | rfl | rfl | rfl
    ·exact Fx
    ·exact Heap.lt_size hTI
    ·exact Heap.lt_size hTO
    ·obtain ⟨o,e,_⟩:=(p1.sub X.prog X.w _).obj _ _ h1;exact Heap.lt_size e
    ·obtain ⟨o,e,_⟩:=(p2.sub X.prog X.w _).obj _ _ h2;exact Heap.lt_size e
   rw [Yg (Nat.ne_of_lt wN)];exact h0
 done:=by
  intro X hP hw hK hc i pins s σ H E I hf ⟨hz,hTI,⟨a,b,hTO⟩,h1,h2⟩ hg;subst hP hw;obtain ⟨xs,ys,g1,g2,hend⟩:=hg;obtain ⟨d7,r1,wJ⟩:=p1.ready X hK pins σ H s xs I g1;obtain ⟨cG,r2,wK⟩:=p2.ready X hK pins σ H s ys I g2;have sep:∀ {c:Addr},c∉[z,TO,i1,i2]->c≠z/\c≠TO/\c≠i1/\c≠i2:=fun hm=>⟨fun e=>hm (by simp [e]),fun e=>hm (by simp [e]),fun e=>hm (by simp [e]),fun e=>hm (by simp [e])⟩
  obtain ⟨m1,m2,m3,m4⟩:=sep n1;obtain ⟨m5,m6,m7,m8⟩:=sep n2;have l1:=r1.length;have l2:=r2.length;refine Fw (k:=i) (I.ok.hd hc) D (p1.sub _ _ i1) (p2.sub _ _ i2) (fun h h' g r q=>p1.keep _ _ _ r fun o e=>q a1 o m1 m2 m3 m4 e) (fun h h' g r q=>p2.keep _ _ _ r fun o e=>q a2 o m5 m6 m7 m8 e) hz hTI hTO h1 h2 wJ wK ?_ fun h' tk keep=>?_
  ·rcases hend with e | e
   ·exact .inl (by simp;omega)
   ·exact .inr (by simp;omega)
  ·refine ⟨rfl,I.vA (ch:=[z,TO,i1,i2]) (fun c o hm e=>?_) fun c hm=>hf c (by
    simp only [List.mem_cons,List.not_mem_nil,or_false] at hm ⊢;rcases hm with e | e | e | e<;>simp [e])⟩
   obtain ⟨c1,c2,c3,c4⟩:=sep hm;exact keep c o c1 c2 c3 c4 e
 self:=fun A i s Q E ⟨hz,_⟩ q=>wpAny_pyIter_zip hz q
section
variable {X:Cx} {elts:List Expr} {kk:Nat} {tpos:Pos}
theorem UK (n:Nat):cF (n+4) (n+2) (n+3) n (n+1):=by
 constructor<;>(intro e;have e':@Eq Nat _ _:=e;omega)
def wO (K:W.Frag) (ta:TA):TI:=fun σ H R=>ta σ H fun vs H1=>∃ a b xs ys,vs=[.ref a,.ref b]/\aK K H1 a xs/\aK K H1 b ys/\R (tO (fun H xs=>aK K H a xs) (fun H ys=>aK K H b ys)) H1
def wQ (K:W.Frag) (ta:TA):TI:=fun σ H R=>ta σ H fun vs H1=>∃ a b xs ys,vs=[.ref a,.ref b]/\aJ K H1 a xs/\aJ K H1 b ys/\R (tO (fun H xs=>aJ K H a xs) (fun H ys=>aJ K H b ys)) H1
theorem Fy {pins:List (Addr×Obj)} {σ:St} {H:Hp} {s:Shared} {R:It->Hp->Prop} {E:Value->Shared->Prop} {G1 G2:Hp->List V->Prop} {S1 S2:Addr->Nat->Heap->Prop} {R1 R2:Heap->(Nat->Option Value)->Prop} {a b:Addr} {o1 o2:Obj}
  (I:Inv X pins σ H s) (p1:Part X.K G1 S1 R1 a) (p2:Part X.K G2 S2 R2 b) (t1:X0 s.heap (.ref a) o1) (t2:X0 s.heap (.ref b) o2) (f1:o1.isFreed=false) (f2:o2.isFreed=false) (la:a<s.heap.objs.size) (lb:b<s.heap.objs.size)
  (s1:∀ h i,h.get? i=some o1->S1 i 0 h) (s2:∀ h i,h.get? i=some o2->S2 i 0 h) (q:R (tO G1 G2) H) :
  wpAny (model X.prog X.w) X.A (call (.type "zip") [.ref a,.ref b]) (fun v s1=>wpAny (model X.prog X.w) X.A (pyIter v) (PIE X pins σ (.Tuple elts kk tpos) R) E s1) E s:=by
 refine QG t1 t2 f1 f2 fun h' hz hTI hTO g1 g2 hsz keep=>?_
 refine wpAny_pyIter_zip hz ?_;have I1:Inv X pins σ H { s with heap:=h' }:=I.kept (t':=s.toks) keep;refine ⟨_,[s.heap.objs.size+4,s.heap.objs.size+2,s.heap.objs.size+3,s.heap.objs.size,s.heap.objs.size+1],_,_,H,rfl,I1,Ph (K:=X.K) p1 p2 (UK s.heap.objs.size) ?_ ?_,⟨hz,hTI,⟨_,_,hTO⟩,s1 _ _ g1,s2 _ _ g2⟩,fun c hc=>?_,q⟩
 ·intro hm
  simp only [List.mem_cons,List.not_mem_nil,or_false] at hm;rcases hm with e | e | e | e<;>(have e':@Eq Nat _ _:=e;have wR:@LT.lt Nat _ a s.heap.objs.size:=la;have lb':@LT.lt Nat _ b s.heap.objs.size:=lb;omega)
 ·intro hm
  simp only [List.mem_cons,List.not_mem_nil,or_false] at hm;rcases hm with e | e | e | e<;>(have e':@Eq Nat _ _:=e;have wR:@LT.lt Nat _ a s.heap.objs.size:=la;have lb':@LT.lt Nat _ b s.heap.objs.size:=lb;omega)
 ·have hle:s.heap.objs.size<=c:=by
   simp only [List.mem_cons,List.not_mem_nil,or_false] at hc;rcases hc with e | e | e | e | e<;>(have e':@Eq Nat _ _:=e;show @LE.le Nat _ s.heap.objs.size c;omega)
  exact I.fB hle (I.hok.fresh hle)
theorem Pn {a b:Expr} {ta:TA} {p pos:Pos} (hg:Gl X "zip") (hm:X.mg "zip"=none) (ha:PA X [a,b] ta) (hs:starEach [a,b] X.env=[(false,eval a X.env),(false,eval b X.env)]) (hs2:starEach [b] X.env=[(false,eval b X.env)]) :
  PI X (.Tuple elts kk tpos) (.Call (.Name "zip" p) [a,b] [] pos) (wO X.K ta):=by
 intro pins s σ H R I h;refine Call_ (X4 I hg hm boot_zip (PyProof.Rows.callWith_type1 (aM (ha pos pins s σ H _ I h) fun us s1 ⟨vs,H1,I1,r1,q1⟩=>?_) (by rw [hs,hs2]) (by rw [hs2];rfl)));obtain ⟨x,y,xs,ys,e,hx,hy,q⟩:=q1;subst e;obtain ⟨u,v,rfl,ru,rv⟩:=r1.two
 cases ru
 cases rv
 obtain ⟨i1,_,ht1,_⟩:=I1.tuple hx;obtain ⟨i2,_,dG,_⟩:=I1.tuple hy;have l1:x<s1.heap.objs.size:=by obtain ⟨_,e,_⟩:=ht1;exact Heap.lt_size e
 have l2:y<s1.heap.objs.size:=by obtain ⟨_,e,_⟩:=dG;exact Heap.lt_size e
 exact Fy I1 (UJ x) (UJ y) (XU ht1) (XU dG) rfl rfl l1 l2 (fun h i e=>⟨_,e,rfl,rfl⟩) (fun h i e=>⟨_,e,rfl,rfl⟩) q
theorem Pq {a b:Expr} {ta:TA} {p pos:Pos} (hg:Gl X "zip") (hm:X.mg "zip"=none) (ha:PA X [a,b] ta) (hs:starEach [a,b] X.env=[(false,eval a X.env),(false,eval b X.env)]) (hs2:starEach [b] X.env=[(false,eval b X.env)]) :
  PI X (.Tuple elts kk tpos) (.Call (.Name "zip" p) [a,b] [] pos) (wQ X.K ta):=by
 intro pins s σ H R I h;refine Call_ (X4 I hg hm boot_zip (PyProof.Rows.callWith_type1 (aM (ha pos pins s σ H _ I h) fun us s1 ⟨vs,H1,I1,r1,q1⟩=>?_) (by rw [hs,hs2]) (by rw [hs2];rfl)));obtain ⟨x,y,xs,ys,e,hx,hy,q⟩:=q1;subst e;obtain ⟨u,v,rfl,ru,rv⟩:=r1.two
 cases ru
 cases rv
 obtain ⟨i1,_,ht1,_⟩:=I1.list hx;obtain ⟨i2,_,dG,_⟩:=I1.list hy;have l1:x<s1.heap.objs.size:=by obtain ⟨_,e,_⟩:=ht1.isList;exact Heap.lt_size e
 have l2:y<s1.heap.objs.size:=by obtain ⟨_,e,_⟩:=dG.isList;exact Heap.lt_size e
 exact Fy I1 (QH x) (QH y) (VI ht1.isList) (VI dG.isList) rfl rfl l1 l2 (fun h i e=>⟨_,e,rfl,rfl⟩) (fun h i e=>⟨_,e,rfl,rfl⟩) q
theorem UL {J:It} {P:Hp->Prop} {xs:List V} (hJ:XM J P xs) {src:List (Option Nat)} {g:TG} {te:TE} {σ:St} {H1:Hp} {Q:VK} {D:Addr} (Pv:Nat->List V->St->Hp->Prop)
  (h0:Pv 0 [] (YH src σ) (upd H1 D (.lst []))) (hP:∀ i ys σ' H',Pv i ys σ' H'->P H'/\H' D=some (.lst ys))
  (mono:∀ x σ H Q Q',(∀ σ' H',Q σ' H'->Q' σ' H')->g x σ H Q->g x σ H Q')
  (step:∀ i ys σ' H' x,xs[i]?=some x->Pv i ys σ' H'->g x σ' H' fun σ2 H4=>te σ2 H4 fun y H6=>H6 D=some (.lst ys)/\ys.length<sizeLine/\Pv (i+1) (ys++[y]) σ2 (upd H6 D (.lst (ys++[y]))))
  (fin:∀ ys σ' H',Pv xs.length ys σ' H'->Q (.ref D) H'):LC src J g XO te σ H1 Q D :=
 Fq hJ Pv h0 hP (fun i ys σ' H' x hx p=>by
  refine mono _ _ _ _ _ ?_ (step i ys σ' H' x hx p);intro σ2 H4 q;unfold XO;dsimp only;rw [if_pos rfl];exact q) fin
theorem X7 (i:Nat):∀ x σ H Q Q',(∀ σ' H',Q σ' H'->Q' σ' H')->YJ i x σ H Q->YJ i x σ H Q':=fun _ _ _ _ _ h q=>h _ _ q
end
structure Gx where
 P:Program
 w:World
 K:W.Frag
 mg:Str->Option Value
 base:Heap
def Cx.gx (X:Cx):Gx:=⟨X.prog,X.w,X.K,X.mg,X.base⟩
def Gx.Raw (g:Gx) (x qual:Str) (st:Stmt) (ps:List Str):Prop:=∃ f fd,dF g.K x qual st f fd/\Y7 g.K fd ps []/\g.mg x=some (.ref f)
def Gx.Fn (g:Gx) (k:Nat) (x:Str) (ps:List Str) (sp:Sp):Prop:=∃ f fd,aW g.P g.w g.K g.mg g.base bL k f fd ps sp/\Y7 g.K fd ps []/\W.keepIn g.K (.ref f)=true/\g.mg x=some (.ref f)
def Gx.eN (g:Gx) (C:Addr) (m qual:Str) (st:Stmt) (ps:List Str):Prop:=∃ f fd,dF g.K m qual st f fd/\Y7 g.K fd ps []/\Meth g.K C m f
def Gx.Me (g:Gx) (k:Nat) (C:Addr) (m:Str) (ps:List Str) (sp:Sp):Prop:=∃ f fd,aW g.P g.w g.K g.mg g.base bL k f fd ps sp/\Y7 g.K fd ps []/\Meth g.K C m f
def Gx.gw (g:Gx) (x:Str) (C:Addr) (qual:Str) (st:Stmt) (ps:List Str):Prop:=∃ f fd,dF g.K "__init__" qual st f fd/\Y7 g.K fd ps []/\Mk g.K C f/\g.mg x=some (.ref C)
def Gx.Ma (g:Gx) (k:Nat) (x:Str) (C:Addr) (ps:List Str) (sp:Sp):Prop:=∃ f fd,aW g.P g.w g.K g.mg g.base bL k f fd ps sp/\Y7 g.K fd ps []/\Mk g.K C f/\g.mg x=some (.ref C)
abbrev Gx.cx (g:Gx) (N:List Str) (qual:Str) (st:Stmt) (f:Addr) (cdv:Value) (A:Around) (outer:List Env) (s:Shared) (H:Hp) (E:XK):Cx:=(We bL g.P g.w g.K g.mg g.base N qual (Yh st) f cdv A outer s H E).bA
def tQ (g:Gx) (k:Nat) (N:List Str) (qual:Str) (st:Stmt) (sp:Sp):Prop:=∀ (f:Addr) (cdv:Value) (A:Around) (outer:List Env) (s:Shared) (H:Hp) (vs:List V) (Q:VK) (E:XK),aQ k (g.cx N qual st f cdv A outer s H E).A->sp vs H Q E ->
 ∃ t,cD (g.cx N qual st f cdv A outer s H E) (YR st) t/\t { nx:=fun _ H'=>Q .non H',rt:=Q } (Xi N vs) H
section
variable {g:Gx} {k:Nat} {x qual m:Str} {st:Stmt} {N ps:List Str} {sp:Sp} {C:Addr}
theorem Gx.Raw.fn (R:g.Raw x qual st ps) (S:aH N ps (Yh st)) (len:∀ vs H Q E,sp vs H Q E->vs.length=ps.length) (b:tQ g k N qual st sp):g.Fn (k+1) x ps sp:=by
 obtain ⟨f,fd,F,bd,hm⟩:=R;exact ⟨f,fd,F.ok S len fun cdv A outer s H vs Q E hr h=>b f cdv A outer s H vs Q E hr h,bd,F.kp,hm⟩
theorem Gx.eN.me (R:g.eN C m qual st ps) (S:aH N ps (Yh st)) (len:∀ vs H Q E,sp vs H Q E->vs.length=ps.length) (b:tQ g k N qual st sp):g.Me (k+1) C m ps sp:=by
 obtain ⟨f,fd,F,bd,hm⟩:=R;exact ⟨f,fd,F.ok S len fun cdv A outer s H vs Q E hr h=>b f cdv A outer s H vs Q E hr h,bd,hm⟩
theorem Gx.gw.ma (R:g.gw x C qual st ps) (S:aH N ps (Yh st)) (len:∀ vs H Q E,sp vs H Q E->vs.length=ps.length) (b:tQ g k N qual st sp):g.Ma (k+1) x C ps sp:=by
 obtain ⟨f,fd,F,bd,hm,hg⟩:=R;exact ⟨f,fd,F.ok S len fun cdv A outer s H vs Q E hr h=>b f cdv A outer s H vs Q E hr h,bd,hm,hg⟩
theorem Gx.Fn.mono {j:Nat} (F:g.Fn j x ps sp) (h:j<=k):g.Fn k x ps sp:=by
 obtain ⟨f,fd,F,r⟩:=F;exact ⟨f,fd,F.mono h,r⟩
theorem Gx.Me.mono {j:Nat} (F:g.Me j C m ps sp) (h:j<=k):g.Me k C m ps sp:=by
 obtain ⟨f,fd,F,r⟩:=F;exact ⟨f,fd,F.mono h,r⟩
theorem Gx.Raw.none (R:g.Raw x qual st ps) (no:∀ vs H Q E,¬ sp vs H Q E):g.Fn k x ps sp:=by
 obtain ⟨f,fd,F,bd,hm⟩:=R;exact ⟨f,fd,⟨fun vs H Q E h=>absurd h (no vs H Q E),fun A outer s H args us vs Q E _ _ _ _ h=>absurd h (no vs H Q E)⟩,bd,F.kp,hm⟩
theorem Gx.eN.none (R:g.eN C m qual st ps) (no:∀ vs H Q E,¬ sp vs H Q E):g.Me k C m ps sp:=by
 obtain ⟨f,fd,F,bd,hm⟩:=R;exact ⟨f,fd,⟨fun vs H Q E h=>absurd h (no vs H Q E),fun A outer s H args us vs Q E _ _ _ _ h=>absurd h (no vs H Q E)⟩,bd,hm⟩
end
section
variable {g:Gx} {X:Cx} {k j:Nat} {x m:Str} {ps:List Str} {sp:Sp} {C:Addr} {e o:Expr} {es:List Expr} {t:TA} {ta:TE} {p pos apos:Pos}
theorem Yv (F:g.Fn j x ps sp) (hr:aQ k X.A) (ha:PA X (e::es) t) (hj:j<=k) (hX:X.gx=g) (hg:Gl X x) (hdb:(x==("__debug__":Str))=false)
  (he:starEach (e::es) X.env=(false,eval e X.env)::starEach es X.env) (hpl:(backTo pos (starEach es X.env)).any (·.1)=false):PE X (.Call (.Name x p) (e::es) [] pos) (UG sp [] E0 t):=by
 subst hX;obtain ⟨f,fd,F,b,kp,hm⟩:=F;exact Eo F (hr.mono hj) hg hm kp b .nil VZ ha hdb he hpl
theorem wU {pl:Sem Bool} (F:g.Me j C m ps sp) (c:Cls g.K C) (hr:aQ k X.A) (ho:PE X o ta) (ha:PA X (e::es) t) (hj:j<=k) (hX:X.gx=g)
  (hst:starEach (e::es) X.env=(false,eval e X.env)::starEach es X.env) (hpl:(backTo pos (starEach es X.env)).any (·.1)=false)
  (ht:eval (.Call (.Attribute o m apos) (e::es) [] pos) X.env=(do
   let ov <- eval o X.env
   standAt apos.atName
   let (f,first) <- holding [ov] (getMethod ov m pl)
   callWith pos f first (backTo pos (starEach (e::es) X.env)) (backToKw pos (keywordEach [] X.env)))):PE X (.Call (.Attribute o m apos) (e::es) [] pos) (Q3 C m sp [] E0 ta t):=by
 subst hX;obtain ⟨f,fd,F,b,hm⟩:=F;exact N6 ho c hm F (hr.mono hj) b .nil VZ ha hst hpl ht
theorem Fz (F:g.Ma j x C ps sp) (hr:aQ k X.A) (ha:PA X (e::es) t) (hj:j+1<=k) (hX:X.gx=g) (hg:Gl X x) (hdb:(x==("__debug__":Str))=false)
  (he:starEach (e::es) X.env=(false,eval e X.env)::starEach es X.env) (hpl:(backTo pos (starEach es X.env)).any (·.1)=false):PE X (.Call (.Name x p) (e::es) [] pos) (Q4 C sp [] E0 t):=by
 subst hX;obtain ⟨f,fd,F,b,M,hm⟩:=F;exact N8 M F (hr.mono hj) hg hm b .nil VZ ha hdb he hpl
theorem YQ {id:String} {r:List V->Hp->VK->Prop} (hm:g.mg x=none) (hc:Xl X (.builtin id) r) (ha:PA X (e::es) t) (hv:bootBuiltins x=some (.builtin id)) (hX:X.gx=g) (hg:Gl X x) (hn:x≠"__name__") (hdb:(x==("__debug__":Str))=false)
  (he:starEach (e::es) X.env=(false,eval e X.env)::starEach es X.env) (hpl:(backTo pos (starEach es X.env)).any (·.1)=false):PE X (.Call (.Name x p) (e::es) [] pos) (mD r t):=by
 subst hX;exact Oa hc hg hm hv ha hn hdb he hpl
theorem Vp {T:String} {r:List V->Hp->VK->Prop} (hm:g.mg x=none) (hc:Xl X (.type T) r) (ha:PA X (e::es) t) (hv:bootBuiltins x=some (.type T)) (hX:X.gx=g) (hg:Gl X x) (hn:x≠"__name__") (hdb:(x==("__debug__":Str))=false)
  (he:starEach (e::es) X.env=(false,eval e X.env)::starEach es X.env) (hpl:(backTo pos (starEach es X.env)).any (·.1)=false):PE X (.Call (.Name x p) (e::es) [] pos) (mD r t):=by
 subst hX;exact Ob hc hg hm hv ha hn hdb he hpl
theorem Y4 {T:String} (hm:g.mg x=none) (hv:bootBuiltins x=some (.type T)) (hX:X.gx=g) (hg:Gl X x) (hn:x≠"__name__") (hdb:(x==("__debug__":Str))=false):PE X (.Name x pos) (tC (.ty T)):=by
 subst hX;exact MP hg hm hv rfl hn hdb
end
theorem Pr {H:Hp} {p:Addr} {o:HO} (h:H p=some o):upd H p o=H:=by
 funext b
 unfold upd
 split
 ·rename_i e;rw [e,h]
 ·rfl
def S (l:List Nat):Str:=⟨l.toArray⟩
theorem wV (l:List Nat):(S l).cps.toList=l:=by simp [S]
section
variable {K:W.Frag} {h:Heap} {mg:Str->Option Value} {P:Program} {w:World} {base:Heap} {f C:Addr} {x qual m:Str} {st:Stmt} {ps:List Str} {oc kV dc pm cd ct:Value} {od an:Option Addr} {sl:Array (Option Value)}
theorem YC (X:K.In h) (G:h.Ns mainGlobals mg) (ps:List Str)
  (a:PySem.W.nsIn K mainGlobals x=some (some (.ref f))) (l:K.lookup f=some ⟨oc,od,.func (PySem.W.fnOf x x (Y2 st) (YR st) (Yh st) .none kV dc pm an cd ct),sl⟩) (c:PySem.W.codeIn K cd x=true) (k:PySem.W.keepIn K (.ref f)=true)
  (b:∀ (kV doc pm:Value) (an:Option Addr) (cdv ct:Value) (us:List Value),us.length=ps.length->bindArgs (PySem.W.fnOf x x (Y2 st) (YR st) (Yh st) .none kV doc pm an cdv ct) ⟨us,[]⟩=pure (ps.zip us)) :
  ∀ P w base,(Gx.mk P w K mg base).Raw x x st ps:=fun P w base =>
 have F:=Vd (st:=st) l c k
 ⟨f,_,F,F.binds b,PySem.W.mg_of X G a⟩
theorem FJ (X:K.In h) (G:h.Ns mainGlobals mg) (ps:List Str)
  (a:PySem.W.findIn K (.ref C) m=some (some (.ref f))) (i:PySem.W.isFn K (.ref f)=true) (l:K.lookup f=some ⟨oc,od,.func (PySem.W.fnOf m qual (Y2 st) (YR st) (Yh st) .none kV dc pm an cd ct),sl⟩) (c:PySem.W.codeIn K cd qual=true) (k:PySem.W.keepIn K (.ref f)=true)
  (b:∀ (kV doc pm:Value) (an:Option Addr) (cdv ct:Value) (us:List Value),us.length=ps.length->bindArgs (PySem.W.fnOf m qual (Y2 st) (YR st) (Yh st) .none kV doc pm an cdv ct) ⟨us,[]⟩=pure (ps.zip us)) :
  ∀ P w base,(Gx.mk P w K mg base).eN C m qual st ps:=fun P w base =>
 have F:=Vd (st:=st) l c k
 ⟨f,_,F,F.binds b,⟨a,i,k⟩⟩
theorem FN (X:K.In h) (G:h.Ns mainGlobals mg) (ps:List Str) (aC:PySem.W.nsIn K mainGlobals x=some (some (.ref C))) (mk:PySem.W.makesIn K C=true) (kc:PySem.W.keepIn K (.ref C)=true)
  (a:PySem.W.findIn K (.ref C) "__init__"=some (some (.ref f))) (i:PySem.W.isFn K (.ref f)=true) (l:K.lookup f=some ⟨oc,od,.func (PySem.W.fnOf "__init__" qual (Y2 st) (YR st) (Yh st) .none kV dc pm an cd ct),sl⟩) (c:PySem.W.codeIn K cd qual=true) (k:PySem.W.keepIn K (.ref f)=true)
  (b:∀ (kV doc pm:Value) (an:Option Addr) (cdv ct:Value) (us:List Value),us.length=ps.length->bindArgs (PySem.W.fnOf "__init__" qual (Y2 st) (YR st) (Yh st) .none kV doc pm an cdv ct) ⟨us,[]⟩=pure (ps.zip us)) :
  ∀ P w base,(Gx.mk P w K mg base).gw x C qual st ps:=fun P w base =>
 have F:=Vd (st:=st) l c k
 ⟨f,_,F,F.binds b,⟨mk,a,i,kc⟩,PySem.W.mg_of X G aC⟩
end
def Pu (K:W.Frag) (mg:Str->Option Value) (st:Stmt) (x n:Str):Prop:=∃ f fd,dF K n n st f fd/\(∀ (s:Shared) (u:Value),BindsTo s fd ⟨[u],[]⟩ [(x,u)])/\mg n=some (.ref f)
section
variable {X:Cx}
theorem FP {a:Int} {m:Nat} (h:a.natAbs<2^m):Builtin.Int.intBits a<=m:=by
 unfold Builtin.Int.intBits
 split
 ·omega
 ·rename_i h0
  have h0:a.natAbs≠0:=by simpa using h0
  have:=(Nat.log2_lt h0).mpr h;omega
def wW (i j:Int):Prop:=∃ m n:Nat,i.natAbs<2^m/\j.natAbs<2^n/\m+n<=100000000
theorem wW.ok {i j:Int} (h:wW i j):IntMulOk i j:=by
 obtain ⟨m,n,h1,h2,h3⟩:=h;exact IntMulOk.of_le (FP h1) (FP h2) (by omega)
def FQ (i j:Int):Prop:=0<j/\j.natAbs<2^9000
theorem Vq:bF X (binaryOp .FloorDiv) (rI FQ fun i j => .int (i / j)):=o8 fun i j _ _ _ _ _ hc q=>by
 have h1:(0:Int)<j:=hc.1;have h2:=hc.2;have h3:j.natAbs≠0:=by omega
 exact floordiv_int (by omega) (by rw [Int.fdiv_eq_ediv_of_nonneg i (by omega)];exact q) (.inl (PyProof.noPylong_of_log2 ((Nat.log2_lt h3).mpr h2)))
theorem W1 {j:Int} (h:0<j) (h2:j<1073741824) {i:Int}:FQ i j:=⟨h,Nat.lt_of_lt_of_le (show j.natAbs<2^30 by omega) (Nat.pow_le_pow_right (by decide) (by decide))⟩
end
theorem FT {CX:dD} {P:Program} {w:World} {K:W.Frag} {mg:Str->Option Value} {base:Heap} {N:List Str} {qual:Str} {scope:Scope} {f:Addr} {cd:Value} {A:Around} {outer:List Env} {s:Shared} {H:Hp} {E:XK} :
  (We CX P w K mg base N qual scope f cd A outer s H E).K=K:=rfl
theorem FW {X:Cx}:X.bA.K=X.K:=rfl
section
variable {X:Cx}
theorem Vz (hc:X.calm=true:=by rfl):Xl X (.builtin "sum") (fun xs H Q=>∃ (p:Addr) (ns:List Int),xs=[.ref p]/\aJ X.K H p (ns.map V.int)/\Q (.int ns.sum) H):=by
 intro pins s σ H xs us Q I r h;obtain ⟨p,ns,rfl,hq,q⟩:=h;obtain ⟨u,rfl,rx⟩:=WY r
 cases rx
 obtain ⟨its,r',pl,hz⟩:=I.list hq;have hi:=Oc r';have hl:=pl.isList;obtain ⟨xs,ex⟩:=hi.allInts.items;rw [ex] at hl
 have e:preSum (numAt xs) xs.size=ns.sum:=by
  have h1:=nums_intItems (xs:=xs);rw [<- ex] at h1
  have h2:=hi.numsOf;rw [preSum_eq,List.take_of_length_le (by simp)];rw [<- h1];exact congrArg List.sum h2
 refine sum_intListG (I.ok.hd hc) hl fun h' tk t' hk=>?_
 rw [e];exact ⟨.int _,H,I.kept (t':=tk) hk,⟨t',rfl⟩,q⟩
end
def Ite (G:Hp->List V->Prop):It :=
 ⟨fun i H=>∃ xs x,G H xs/\xs[i]?=some x,fun i H v H'=>∃ T,v = .ref T/\H T=none/\∀ xs x,G H xs->xs[i]?=some x->H'=upd H T (.tup [.int i,x]),fun i H=>∃ xs,G H xs/\xs.length<=i⟩
theorem Px {P:Program} {w:World} {K:W.Frag} {elts:List Expr} {kk:Nat} {pos:Pos} {a e it:Addr} (ne:e≠it) (na:a≠e/\a≠it) :
  Turn P w K (.Tuple elts kk pos) (Ite fun H xs=>aJ K H a xs) [e,it] e (fun i h=>(∃ old,IsEnum h e it i old)/\h.IsListIter it a i) where
 mem:=by simp
 obj:=fun i h ⟨⟨old,he⟩,hi⟩ c hc=>by
  simp only [List.mem_cons,List.not_mem_nil,or_false] at hc;rcases hc with rfl | rfl
  ·exact ⟨_,he,fun v z=>by cases z⟩
  ·obtain ⟨o,q,_,d⟩:=hi
   exact ⟨o,q,fun v z=>by rw [d] at z;cases z⟩
 keep:=fun i h h' ⟨⟨old,he⟩,hi⟩ q=>⟨⟨old,q e (by simp) _ he⟩,hi.at fun o z=>q it (by simp) o z⟩
 item:=by
  intro X hP hw hK hc i pins s σ H E I hf ⟨⟨old,he⟩,hi⟩ hg;subst hP hw hK;obtain ⟨xs,x,g1,hx⟩:=hg;obtain ⟨its,rv,pl,hz⟩:=I.list g1;obtain ⟨u,hu,ru⟩:=rv.get hx;refine wpAny_pyNext_enum_item he hi pl.isList (x:=u) (by simpa using hu) ne fun h1 ho hi1 hT hsz kp=>?_
  refine ⟨_,rfl,?_⟩;refine wpAny_letOwnedTupleGo_enum (s:={ s with heap:=h1,toks:=s.toks+1 }) ho fun h2 he2 sb=>?_
  have elt:e<s.heap.objs.size:=Heap.lt_size he;have pB:∀ c o,c∉[e,it]->s.heap.get? c=some o->h2.get? c=some o:=fun c o hm z=>by
   have c1:c≠e:=fun q=>hm (by simp [q])
   have c2:c≠it:=fun q=>hm (by simp [q])
   exact sb.extBut c o c1 (kp c o c1 c2 z)
  have hT2:h2.get? s.heap.objs.size=some { cls := .type "tuple",data := .seq #[.int i s.toks,u] }:=sb.extBut _ _ (Nat.ne_of_gt elt) hT;have I':=I.mH (t':=s.toks+1) (h':=h2) (T:=s.heap.objs.size) (vs:=[.int i,x]) pB hf (Nat.le_refl _) (show YN X.prog X.w _ h2 _ (.tup [.int i,x]) from ⟨by show 2<=sizeLine;decide,[.int i s.toks,u],.cons ⟨_,rfl⟩ (.cons ru .nil),_,hT2,rfl,_,rfl⟩);have fresh:H s.heap.objs.size=none:=I.hok.fresh (Nat.le_refl _);refine ⟨.ref s.heap.objs.size,_,I',rfl,⟨_,rfl,fresh,fun xs' x' wL hx'=>?_⟩,⟨⟨_,by simpa using he2⟩,hi1.at fun o z=>sb.extBut _ _ (Ne.symm ne) z⟩,fun c hm=>?_⟩
  ·rw [I.gn wL g1,hx] at hx'
   cases hx'
   rfl
  ·have h0:=(hf c hm).1
   have wN:c<s.heap.objs.size:=by
    simp only [List.mem_cons,List.not_mem_nil,or_false] at hm;rcases hm with rfl | rfl
    ·exact elt
    ·obtain ⟨o,q,_⟩:=hi;exact Heap.lt_size q
   rw [Yg (Nat.ne_of_lt wN)];exact h0
 done:=by
  intro X hP hw hK hc i pins s σ H E I hf ⟨⟨old,he⟩,hi⟩ hg;subst hP hw hK;obtain ⟨xs,g1,hx⟩:=hg;obtain ⟨its,rv,pl,hz⟩:=I.list g1;have hl:=rv.length;obtain ⟨f0,f1,f2,f3,f4,f5⟩:=hf it (by simp);exact wpAny_pyNext_enum_end (I.ok.hd hc) he hi pl.isList (by simp;omega) fun h' eb=>⟨rfl,I.turned (t':=s.toks) (fun b o hb z=>eb b o hb z) f0 f1 f3 f4 f5⟩
 self:=fun _ _ _ _ _ ⟨⟨_,he⟩,_⟩ h=>wpAny_pyIter_enum he h
section
variable {X:Cx} {elts:List Expr} {kk:Nat} {tpos:Pos}
def FZ (K:W.Frag) (ta:TA):TI:=fun σ H R=>ta σ H fun vs H1=>∃ a xs,vs=[.ref a]/\aJ K H1 a xs/\R (Ite fun H xs=>aJ K H a xs) H1
theorem Py {a:Expr} {ta:TA} {p pos:Pos} (hg:Gl X "enumerate") (hm:X.mg "enumerate"=none) (ha:PA X [a] ta) (hs:starEach [a] X.env=[(false,eval a X.env)]) :
  PI X (.Tuple elts kk tpos) (.Call (.Name "enumerate" p) [a] [] pos) (FZ X.K ta):=by
 intro pins s σ H R I h;refine Call_ (X4 I hg hm boot_enumerate (PyProof.Rows.callWith_type1 (aM (ha pos pins s σ H _ I h) fun us s1 ⟨vs,H1,I1,r1,q1⟩=>?_) hs rfl));obtain ⟨x,xs,e,hx,q⟩:=q1;subst e;obtain ⟨u,rfl,ru⟩:=WY r1
 cases ru
 obtain ⟨i1,_,pl,_⟩:=I1.list hx;have l1:x<s1.heap.objs.size:=by obtain ⟨_,e,_⟩:=pl.isList;exact Heap.lt_size e
 refine call_enumerate_list pl.isList fun h' he hi hsz keep=>?_
 refine wpAny_pyIter_enum he ?_;have I2:Inv X pins σ H1 { s1 with heap:=h' }:=I1.kept (t':=s1.toks) keep;have l1':@LT.lt Nat _ x s1.heap.objs.size:=l1;refine ⟨_,[s1.heap.objs.size+1,s1.heap.objs.size],_,_,H1,rfl,I2,Px (by intro z;have z':@Eq Nat _ _:=z;omega) ⟨by intro z;have z':@Eq Nat _ _:=z;omega,by intro z;have z':@Eq Nat _ _:=z;omega⟩,⟨⟨_,he⟩,hi⟩,fun c hc=>?_,q⟩;have hle:s1.heap.objs.size<=c:=by
  simp only [List.mem_cons,List.not_mem_nil,or_false] at hc;rcases hc with e | e<;>(have e':@Eq Nat _ _:=e;show @LE.le Nat _ s1.heap.objs.size c;omega)
 exact I1.fB hle (I1.hok.fresh hle)
end
mutual
inductive Den (K:W.Frag) (H:Hp):V->PyData->Prop
 | non:Den K H .non .none
 | bl (b:Bool):Den K H (.bl b) (.bool b)
 | int (i:Int):Den K H (.int i) (.int i)
 | str (x:Str) (h:PyData.strOk x=true):Den K H (.str x) (.str x)
 | lst {a:Addr} {vs:List V} {ds:List PyData}:aJ K H a vs->bY K H vs ds->Den K H (.ref a) (.list ds)
 | tup {a:Addr} {vs:List V} {ds:List PyData}:aK K H a vs->bY K H vs ds->Den K H (.ref a) (.tuple ds)
inductive bY (K:W.Frag) (H:Hp):List V->List PyData->Prop
 | nil:bY K H [] []
 | cons {v:V} {d:PyData} {vs:List V} {ds:List PyData}:Den K H v d->bY K H vs ds->bY K H (v::vs) (d::ds)
end
mutual
theorem Den.keep {K:W.Frag} {H H':Hp} (e:Yf H H'):∀ {v:V} {d:PyData},Den K H v d->Den K H' v d
 | _,_,.non => .non
 | _,_,.bl b => .bl b
 | _,_,.int i => .int i
 | _,_,.str x h => .str x h
 | _,_,.lst h hs => .lst (e.seq h) (hs.keep e)
 | _,_,.tup h hs => .tup (e.tup h) (hs.keep e)
theorem bY.keep {K:W.Frag} {H H':Hp} (e:Yf H H'):∀ {vs:List V} {ds:List PyData},bY K H vs ds->bY K H' vs ds
 | _,_,.nil => .nil
 | _,_,.cons h hs => .cons (h.keep e) (hs.keep e)
end
mutual
theorem Den.lay {K:W.Frag} {H:Hp}:∀ {v:V} {d:PyData},Den K H v d->d.canLay0=true
 | _,_,.non=>rfl
 | _,_,.bl b=>rfl
 | _,_,.int i=>rfl
 | _,_,.str x h=>by simpa [PyData.canLay0] using h
 | _,_,.lst _ hs=>by rw [PyData.canLay0];exact hs.lay
 | _,_,.tup _ hs=>by rw [PyData.canLay0];exact hs.lay
theorem bY.lay {K:W.Frag} {H:Hp}:∀ {vs:List V} {ds:List PyData},bY K H vs ds->PyData.canLayAll0 ds=true
 | _,_,.nil=>rfl
 | _,_,.cons h hs=>by rw [PyData.canLayAll0,h.lay,hs.lay];rfl
end
theorem bY.ints {K:W.Frag} {H:Hp}:∀ ns:List Int,bY K H (ns.map V.int) (ns.map PyData.int)
 | [] => .nil
 | n::ns => .cons (.int n) (.ints ns)
section
variable {X:Cx}
mutual
theorem Den.reads {pins:List (Addr×Obj)} {σ:St} {H:Hp} {s:Shared} (I:Inv X pins σ H s):∀ {v:V} {d:PyData} {u:Value},Den X.K H v d->Yw v u->∃ as,Reads s.heap u d as
 | _,_,u,.non,r=>by cases (show u = .none from r);exact ⟨_,.none⟩
 | _,_,u,.bl b,r=>by cases (show u = .bool b from r);exact ⟨_,.bool b⟩
 | _,_,u,.int i,r=>by obtain ⟨t,rfl⟩:=r;exact ⟨_,.int i t⟩
 | _,_,u,.str x h,r=>by obtain ⟨t,rfl⟩:=r;exact ⟨_,.str x t⟩
 | _,_,u,.lst (a:=a) h hs,r=>by
  cases (show u = .ref a from r)
  obtain ⟨its,rv,pl,hz⟩:=I.list h;obtain ⟨as,ra⟩:=hs.reads I rv;obtain ⟨o,e1,e2,n,e3⟩:=pl.isList;exact ⟨_,.list e1 e2 e3 (by simpa using ra)⟩
 | _,_,u,.tup (a:=a) h hs,r=>by
  cases (show u = .ref a from r)
  obtain ⟨its,rv,pl,hz⟩:=I.tuple h;obtain ⟨as,ra⟩:=hs.reads I rv;obtain ⟨o,e1,e2,n,e3⟩:=(show s.heap.IsTuple a its.toArray from pl);exact ⟨_,.tuple e1 e2 e3 (by simpa using ra)⟩
theorem bY.reads {pins:List (Addr×Obj)} {σ:St} {H:Hp} {s:Shared} (I:Inv X pins σ H s):∀ {vs:List V} {ds:List PyData} {us:List Value},bY X.K H vs ds->Yt vs us->∃ as,ReadsAll s.heap us ds as
 | _,_,us,.nil,r=>by cases r;exact ⟨_,.nil⟩
 | _,_,us,.cons h hs,r=>by
  cases r with
  | cons r rr =>
   obtain ⟨as,ra⟩:=h.reads I r;obtain ⟨bs,rb⟩:=hs.reads I rr;exact ⟨_,.cons ra rb⟩
end
theorem X8 (hu:X.A.units+64<cLine):bF X (compareOp .Eq) (fun x y H Q=>∃ d e,Den X.K H x d/\Den X.K H y e/\d.depth<=64/\Q (.bl (PyData.eqv d e)) H):=by
 intro pins s σ H x y v u Q I rx ry h;obtain ⟨d,e,hd,he,dp,q⟩:=h;obtain ⟨as,ra⟩:=hd.reads I rx;obtain ⟨bs,rb⟩:=he.reads I ry;exact SeqAt.rcAt_reads ra rb hd.lay he.lay (by omega) _ _ _ _ ⟨.bl _,H,I,rfl,q⟩
theorem UM (hu:X.A.units+64<cLine):bF X (compareOp .NotEq) (fun x y H Q=>∃ d e,Den X.K H x d/\Den X.K H y e/\d.depth<=64/\Q (.bl (!PyData.eqv d e)) H):=by
 intro pins s σ H x y v u Q I rx ry h;obtain ⟨d,e,hd,he,dp,q⟩:=h;obtain ⟨as,ra⟩:=hd.reads I rx;obtain ⟨bs,rb⟩:=he.reads I ry;exact SeqAt.compareNe_reads ra rb hd.lay he.lay (by omega) ⟨.bl _,H,I,rfl,q⟩
end
theorem Xw {α:Type} {l:List α} {i:Nat} {x:α} (h:l[i]?=some x):l.take (i+1)=l.take i++[x]:=by
 obtain ⟨hi,hc⟩:=List.getElem?_eq_some_iff.mp h;rw [List.take_succ_eq_append_getElem hi,hc]
theorem wX {J:It} {P:Hp->Prop} {xs:List V} (hJ:XM J P xs) {src:List (Option Nat)} {te:TE} {σ:St} {H1:Hp} {Q:VK} {D:Addr} (ys:List V) (hP:∀ H',Yf H1 H'->P H') (hD:H1 D=none) (hl:ys.length=xs.length) (hlen:xs.length<=100000)
  (step:∀ (i:Nat) x y H',xs[i]?=some x->ys[i]?=some y->Yf H1 H'->∀ R:VK,(∀ aO,Yf H' aO->R y aO)->te (some x::YH src σ) H' R)
  (fin:∀ H',Yf H1 H'->H' D=some (.lst ys)->Q (.ref D) H'):LC (none::src) J (YJ 0) XO te σ H1 Q D:=by
 have h6:100000<sizeLine:=by decide
 refine UL hJ (fun i zs σ' H'=>zs=ys.take i/\(∃ o,σ'=o::YH src σ)/\Yf H1 H'/\H' D=some (.lst zs)) ⟨by simp,⟨none,rfl⟩,.aG hD _,Yb⟩ (fun i zs σ' H' p=>⟨hP _ p.2.2.1,p.2.2.2⟩) (X7 0) ?_ ?_
 ·rintro i zs σ' H' x hx ⟨rfl,⟨o,rfl⟩,sm,hd⟩
  have hi:=(List.getElem?_eq_some_iff.mp hx).1;have hy:ys[i]?=some (ys[i]'(by omega)):=List.getElem?_eq_getElem _
  show te (some x::YH src σ) H' _
  refine step i x _ H' hx hy sm _ fun aO s2=>⟨s2 _ _ hd,?_,(Xw hy).symm,⟨_,rfl⟩,.cO hD (sm.trans s2) _,Yb⟩
  rw [List.length_take];omega
 ·rintro zs σ' H' ⟨rfl,_,sm,hd⟩
  rw [<- hl,List.take_length] at hd
  exact fin H' sm hd
end L2
namespace L2
open PySem PySem.Spec PyProof.Rows
section
variable {a b c d e r:TS} {D:Ends} {σ:St} {H:Hp} (M:St->Hp->Prop) (h1:∀ σ H,M σ H->r D σ H)
include h1
end
theorem Pz (i j:Int):sG (.int i) (.int j)=true:=rfl
theorem PB (i j:Str):sG (.str i) (.str j)=true:=rfl
theorem Ga {α:Type} (xs:List α) (i j:Nat):(xs.drop (min i xs.length)).take (min j xs.length - min i xs.length)=(xs.drop i).take (j - i):=by
 by_cases hi:i<=xs.length
 ·rw [Nat.min_eq_left hi]
  by_cases hj:j<=xs.length
  ·rw [Nat.min_eq_left hj]
  ·rw [Nat.min_eq_right (by omega),List.take_of_length_le (by rw [List.length_drop];omega),List.take_of_length_le (by rw [List.length_drop];omega)]
 ·rw [List.drop_of_length_le (by omega),List.drop_of_length_le (show xs.length<=i by omega)]
  simp
theorem PK (xs:List V) (i j:Nat):W7 xs (some (i:Int)) (some (j:Int))=(xs.drop i).take (j - i):=by
 unfold W7;rw [HT.fL,HT.fL];exact Ga xs i j
theorem Gb (xs:List V) (j:Nat):W7 xs none (some (j:Int))=xs.take j:=by
 unfold W7;rw [HT.fL,HT.j4,List.drop_zero,Nat.sub_zero];have:=Ga xs 0 j;simpa using this
theorem Gd (xs:List V) (i:Nat):W7 xs (some (i:Int)) none=xs.drop i:=by
 unfold W7;rw [HT.fL,HT.j4];by_cases hi:i<=xs.length
 ·rw [Nat.min_eq_left hi,List.take_of_length_le (by rw [List.length_drop];omega)]
 ·rw [List.drop_of_length_le (by omega),List.drop_of_length_le (show xs.length<=i by omega)]
  simp
theorem Ge {α:Type} {c:TT} {tb:TS} {D:Ends} {σ:St} {H:Hp} (Pv:α->St->Hp->Prop) (cond:α->Bool) (μ:α->Nat) (a₀:α) (h0:Pv a₀ σ H)
  (hc:∀ a σ H,Pv a σ H->∀ R:Bool->Hp->Prop,(∀ H',Pv a σ H'->R (cond a) H')->c σ H R)
  (hb:∀ a σ H,Pv a σ H->cond a=true->tb { D with nx:=fun σ' H'=>∃ a',Pv a' σ' H'/\μ a'<μ a,ct:=fun σ' H'=>∃ a',Pv a' σ' H'/\μ a'<μ a,bk:=D.nx } σ H)
  (hd:∀ a σ H,Pv a σ H->cond a=false->D.nx σ H):DQ c tb D σ H:=by
 refine ⟨fun m σ H=>∃ a,m=μ a/\Pv a σ H,⟨_,a₀,rfl,h0⟩,?_⟩;rintro m σ H ⟨a,rfl,p⟩;refine hc a σ H p _ fun H' p'=>?_
 cases e:cond a with
 | true=>exact ⟨_,fun σ' H' ⟨a',q,l⟩=>⟨_,l,a',rfl,q⟩,hb a σ H' p' e⟩
 | false=>exact hd a σ H' p' e
theorem UN {g:TG} {tb:TS} {D:Ends} {σ:St} {H:Hp} {K:W.Frag} {tl:TE} {xs:List V} (Pv:Addr->Nat->St->Hp->Prop) (ha:∀ R:V->Hp->Prop,(∀ c H1,Pv c 0 σ H1->R (.ref c) H1)->tl σ H R) (hl:∀ c i σ H,i<=xs.length->Pv c i σ H->aJ K H c xs)
  (hs:∀ c (i:Nat) x σ H,xs[i]?=some x->Pv c i σ H->g x σ H fun σ2 H2=>tb { D with nx:=Pv c (i+1),ct:=Pv c (i+1),bk:=D.nx } σ2 H2) (hd:∀ c σ H,Pv c xs.length σ H->D.nx σ H):XY (XL K tl) g tb D σ H:=by
 refine ha _ fun c H1 h0=>⟨c,rfl,⟨xs,hl c 0 σ H1 (Nat.zero_le _) h0⟩,?_⟩
 exact Um (Pv c) h0 (hl c) (hs c) (hd c)
section
variable {src:List (Option Nat)} {te:TE} {σ:St} {H:Hp} {Q:VK}
theorem QI {K:W.Frag} {tl:TE} {xs:List V} (ys:List V) (ha:∀ R:V->Hp->Prop,(∀ a H1,Yf H H1->aJ K H1 a xs->R (.ref a) H1)->tl σ H R) (hl:ys.length=xs.length) (hlen:xs.length<=100000)
  (step:∀ (i:Nat) x y H',xs[i]?=some x->ys[i]?=some y->Yf H H'->∀ R:VK,(∀ aO,Yf H' aO->R y aO)->te (some x::YH src σ) H' R)
  (fin:∀ D H',H D=none->Yf H H'->H' D=some (.lst ys)->Q (.ref D) H'):eX (none::src) (XL K tl) (YJ 0) XO te σ H Q :=
 ha _ fun a H1 s1 hS=>⟨a,rfl,⟨xs,hS⟩,fun D hD=>wX (XN.imp fun H' (e:Yf H1 H')=>e.seq hS) ys (fun _ e=>e) hD hl hlen (fun i x y H' hx hy sm R r=>step i x y H' hx hy (s1.trans sm) R r) fun H' sm=>fin D H' (s1.free hD) (s1.trans sm)⟩
theorem PL {J:It} {P:Hp->Prop} {xs:List V} (hJ:XM J P xs) {tt:TT} {H1:Hp} {D:Addr} (p:V->Bool) (f:V->V) (hP:∀ H',Yf H1 H'->P H') (hD:H1 D=none) (hlen:xs.length<=100000)
  (test:∀ x H',x∈xs->Yf H1 H'->∀ R:Bool->Hp->Prop,(∀ aO,Yf H' aO->R (p x) aO)->tt (some x::YH src σ) H' R)
  (step:∀ x H',x∈xs->p x=true->Yf H1 H'->∀ R:VK,(∀ aO,Yf H' aO->R (f x) aO)->te (some x::YH src σ) H' R)
  (fin:∀ H',Yf H1 H'->H' D=some (.lst ((xs.filter p).map f))->Q (.ref D) H'):LC (none::src) J (YJ 0) tt te σ H1 Q D:=by
 have h6:100000<sizeLine:=by decide
 refine Fq hJ (fun i zs σ' H'=>zs=((xs.take i).filter p).map f/\(∃ o,σ'=o::YH src σ)/\Yf H1 H'/\H' D=some (.lst zs)) ⟨by simp,⟨none,rfl⟩,.aG hD _,Yb⟩ (fun i zs σ' H' q=>⟨hP _ q.2.2.1,q.2.2.2⟩) ?_ ?_
 ·rintro i zs σ' H' x hx ⟨rfl,⟨o,rfl⟩,sm,hd⟩
  have hi:=(List.getElem?_eq_some_iff.mp hx).1;have hm:=List.mem_of_getElem? hx
  show tt (some x::YH src σ) H' _
  refine test x H' hm sm _ fun H2 s2=>?_
  cases e:p x with
  | true =>
   refine U9 ?_;refine step x H2 hm e (sm.trans s2) _ fun H3 s3=>⟨s3 _ _ (s2 _ _ hd),?_,?_,⟨_,rfl⟩,.cO hD ((sm.trans s2).trans s3) _,Yb⟩
   ·have h7:=List.length_filter_le p (xs.take i)
    rw [List.length_map];rw [List.length_take] at h7
    omega
   ·rw [Xw hx,List.filter_append,List.map_append]
    simp [List.filter,e]
  | false =>
   refine qX ?_;refine ⟨?_,⟨_,rfl⟩,sm.trans s2,s2 _ _ hd⟩;rw [Xw hx,List.filter_append];simp [List.filter,e]
 ·rintro zs σ' H' ⟨rfl,_,sm,hd⟩
  rw [List.take_length] at hd
  exact fin H' sm hd
theorem Uq {K:W.Frag} {tl:TE} {tt:TT} {xs:List V} (p:V->Bool) (f:V->V) (ha:∀ R:V->Hp->Prop,(∀ a H1,Yf H H1->aJ K H1 a xs->R (.ref a) H1)->tl σ H R) (hlen:xs.length<=100000)
  (test:∀ x H',x∈xs->Yf H H'->∀ R:Bool->Hp->Prop,(∀ aO,Yf H' aO->R (p x) aO)->tt (some x::YH src σ) H' R)
  (step:∀ x H',x∈xs->p x=true->Yf H H'->∀ R:VK,(∀ aO,Yf H' aO->R (f x) aO)->te (some x::YH src σ) H' R)
  (fin:∀ D H',H D=none->Yf H H'->H' D=some (.lst ((xs.filter p).map f))->Q (.ref D) H'):eX (none::src) (XL K tl) (YJ 0) tt te σ H Q :=
 ha _ fun a H1 s1 hS=>⟨a,rfl,⟨xs,hS⟩,fun D hD=>PL (XN.imp fun H' (e:Yf H1 H')=>e.seq hS) p f (fun _ e=>e) hD hlen (fun x H' hx sm R r=>test x H' hx (s1.trans sm) R r) (fun x H' hx hp sm R r=>step x H' hx hp (s1.trans sm) R r) fun H' sm=>fin D H' (s1.free hD) (s1.trans sm)⟩
end
section
variable {X:Cx} {K:W.Frag}
theorem V0 (h:X.K=K:=by rfl):sJ X (sO K):=by subst h;exact YM
theorem Vr (h:X.K=K:=by rfl):wz X (sS K):=by subst h;exact Et
theorem VJ (h:X.K=K:=by rfl):Xl X (.builtin "isinstance") (tH K):=by subst h;exact YO
end
section
variable {tb:TS} {D:Ends} {σ:St} {H:Hp}
theorem PN {K:W.Frag} {ta:TA} (i j:Nat) {xs ys:List V} (Pv:Addr->Addr->Nat->St->Hp->Prop) (ha:∀ R:List V->Hp->Prop,(∀ a b H1,Pv a b 0 σ H1->R [.ref a,.ref b] H1)->ta σ H R)
  (hl:∀ a b n σ H,n<=min xs.length ys.length->Pv a b n σ H->aJ K H a xs/\aJ K H b ys)
  (hs:∀ a b (n:Nat) x y σ H T,xs[n]?=some x->ys[n]?=some y->Pv a b n σ H->H T=none->tb { D with nx:=Pv a b (n+1),ct:=Pv a b (n+1),bk:=D.nx } ((σ.set i (some x)).set j (some y)) (upd H T (.tup [x,y])))
  (hd:∀ a b σ H,Pv a b (min xs.length ys.length) σ H->D.nx σ H):XY (wQ K ta) (U4 K 2 (WX (YJ i) (WX (YJ j) oY))) tb D σ H:=by
 refine ha _ fun a b H1 h0=>?_
 obtain ⟨s1,s2⟩:=hl a b 0 σ H1 (Nat.zero_le _) h0;refine ⟨a,b,xs,ys,rfl,s1,s2,?_⟩;refine ⟨fun n m σ H=>m=min xs.length ys.length - n/\n<=min xs.length ys.length/\Pv a b n σ H,⟨min xs.length ys.length,by simp,Nat.zero_le _,h0⟩,?_⟩;rintro n m σ H ⟨rfl,hn,p⟩;obtain ⟨g1,g2⟩:=hl a b n σ H hn p;by_cases hlt:n<min xs.length ys.length
 ·have hx:xs[n]?=some (xs[n]'(by omega)):=List.getElem?_eq_getElem _
  have hy:ys[n]?=some (ys[n]'(by omega)):=List.getElem?_eq_getElem _;refine .inr ⟨⟨xs,ys,_,_,g1,g2,hx,hy⟩,Pv a b (n+1),fun σ' H' p'=>⟨min xs.length ys.length - (n+1),by omega,rfl,hlt,p'⟩,?_⟩;rintro v H' ⟨T,rfl,hT,heq⟩;have e:=heq xs ys _ _ g1 g2 hx hy;subst e;exact ⟨T,_,rfl,aK.of Yb,rfl,_,_,rfl,_,_,rfl,rfl,hs a b n _ _ σ H T hx hy p hT⟩
 ·have e:n=min xs.length ys.length:=by omega
  subst e;refine .inl ⟨⟨xs,ys,g1,g2,?_⟩,hd a b σ H p⟩;omega
end
theorem VA (its:List Value):slicePick its.toArray none none (some (-1))=its.reverse.toArray:=by
 unfold slicePick;have hb:sliceBounds none none (some (-1)) its.toArray.size=((its.length:Int) - 1,-1,-1):=by simp [sliceBounds]
 rw [hb];have hr:sliceRange ((its.length:Int) - 1) (-1) (-1)=(List.range its.length).map fun (k:Nat)=>its.length - 1 - k:=by
  unfold sliceRange;simp only [show ¬ ((-1:Int)>0) by decide,if_false];have hc:(if (its.length:Int) - 1 > -1 then ((its.length:Int) - 1 - -1 - -1 - 1) / - -1 else 0).toNat=its.length:=by
   split
   ·have:((its.length:Int) - 1 - -1 - -1 - 1)=its.length:=by omega
    rw [this,show (- -1:Int)=1 from rfl,Int.ediv_one];omega
   ·omega
  rw [hc]
  apply List.map_congr_left
  intro k hk;have:k<its.length:=List.mem_range.mp hk;omega
 simp only [hr]
 congr 1
 rw [List.filterMap_map]
 apply List.ext_getElem?
 intro i;have key:∀ (n:Nat),n<=its.length->(List.filterMap ((fun x=>its.toArray[x]?) ∘ fun k=>its.length - 1 - k) (List.range n))=its.reverse.take n:=by
  intro n
  induction n with
  | zero=>intro _;simp
  | succ n ih =>
   intro hn;rw [List.range_succ,List.filterMap_append,ih (by omega)];have hx:its.reverse[n]?=some (its[its.length - 1 - n]'(by omega)):=by
    rw [List.getElem?_reverse (by omega)];exact List.getElem?_eq_getElem _
   rw [Xw hx];have hlt:its.length - 1 - n<its.length:=by omega
   simp [hlt]
 rw [key its.length (Nat.le_refl _)];rw [List.take_of_length_le (by simp)]
section
variable {X:Cx} {e st:Expr} {te ts:TE} {pos p2:Pos}
def qZ (K:W.Frag) (te ts:TE):TE:=fun σ H Q=>te σ H fun x H1=>ts σ H1 fun y H2=>y = .int (-1)/\∃ a xs,x = .ref a/\aJ K H2 a xs/\∀ p,H2 p=none->Q (.ref p) (upd H2 p (.lst xs.reverse))
theorem UO (he:PE X e te) (hs:PE X st ts):PE X (.Subscript e (.Slice none none (some st) p2) pos) (qZ X.K te ts):=by
 intro pins s σ H Q I h;refine Subscript_ (aM (he pins s σ H _ I h) fun v s1 ⟨x,H1,I1,r1,q1⟩=>?_);refine wpAny_Slice ?_;rw [evalPart_none];refine wpAny_pure (wpAny_pure ?_);rw [evalPart_some];refine aM (hs pins s1 σ H1 _ I1 q1) fun u s2 ⟨y,H2,I2,r2,q2⟩=>?_
 obtain ⟨rfl,a,xs,rfl,hx,q⟩:=q2;obtain ⟨t,rfl⟩:=r2
 cases r1
 have I4:Inv X pins σ H2 { s2 with heap:=s2.heap.push { cls := .type "slice",data := .fields #[.none,.none,.int (-1) t] } }:=I2.kept (t':=s2.toks) fun b ob q=>Heap.get?_push_of_some _ q
 obtain ⟨its,r,ht,hz⟩:=I4.list hx;have hlen:=r.length;have hg:=wpAny_getItem_list_slice (prog:=X.prog) (w:=X.w) (A:=X.A) (E:=X.xe) (Q:=EP X pins σ Q) ht.isList (Heap.IsSliceOf.new ..) .none .none (.int (-1) t) (by decide) (by
  rw [VA];refine ⟨.ref _,_,I4.laid (t':=_) (o := .lst xs.reverse) (fun b ob q=>Heap.get?_push_of_some _ q) (Nat.le_refl _) ?_,rfl,q _ (I4.hok.fresh (Nat.le_refl _))⟩;exact ⟨by rw [List.length_reverse];exact hz,_,0,r.reverse,Heap.get?_push_size _ rfl⟩) (by rw [List.size_toArray]<;>omega)
 exact tail_any (ops:=[.ref a,.ref s2.heap.objs.size]) ht.isList.typeIs slot_list_getitem.lookup hg (by with_unfolding_all rfl)
end
section
variable {X:Cx} {pos:Pos}
theorem PX:bF X (compareOp .Is) (fun x y H Q=>∃ a b,x = .bl a/\y = .bl b/\Q (.bl (a==b)) H):=by
 intro pins s σ H x y v u Q I rx ry h;obtain ⟨a,b,rfl,rfl,q⟩:=h
 cases rx
 cases ry
 exact is_bool ⟨.bl _,H,I,rfl,q⟩
theorem P0:bF X (compareOp .IsNot) (fun x y H Q=>∃ a b,x = .bl a/\y = .bl b/\Q (.bl (a != b)) H):=by
 intro pins s σ H x y v u Q I rx ry h;obtain ⟨a,b,rfl,rfl,q⟩:=h
 cases rx
 cases ry
 exact isnot_bool ⟨.bl _,H,I,rfl,q⟩
def wY:V->List V->Hp->VK->Prop:=fun x vs H Q=>∃ i,x = .int i/\vs=[]/\Q (.int (Builtin.Int.intBits i:Nat)) H
theorem Gf:j5 X "int.bit_length" wY:=by
 intro pins s σ H x vs v us Q I rx r h;obtain ⟨i,rfl,rfl,q⟩:=h;obtain ⟨t,rfl⟩:=rx
 cases r
 exact call_gives F.slot_int_bit_length (typeIs_int s i t) F.entry_int_bit_length (F.args_int_bit_length_1 _) (AutoIntG2.int_bit_length_int_0 i t) ⟨.int _,H,I.tok _,⟨_,rfl⟩,q⟩
def wZ:V->List V->Hp->VK->Prop:=fun x vs H Q=>∃ (z y:Str),x = .str z/\vs=[.str y]/\Q (.int (Txt.find z y)) H
theorem Ra:j5 X "str.find" wZ:=by
 intro pins s σ H x vs v us Q I rx r h;obtain ⟨z,y,rfl,rfl,q⟩:=h;obtain ⟨t,rfl⟩:=rx;obtain ⟨u,rfl,ru⟩:=WY r;obtain ⟨t',rfl⟩:=ru;exact call_gives F.slot_str_find (typeIs_str s z t) F.entry_str_find (F.args_str_find_2 _ _) (gives_str_find z y t t') ⟨.int _,H,I.tok _,⟨_,rfl⟩,q⟩
def Gg:TE:=fun _ H Q=>∀ p,H p=none->Q (.ref p) (upd H p (.dK []))
end
def Gx.j7 (g:Gx) (x:Str) (xs:List V):Prop:=∃ c,g.mg x=some (.ref c)/\∀ H,aK g.K H c xs
theorem Rb {K:W.Frag} {h:Heap} {mg:Str->Option Value} {x:Str} {i:Addr} {dc:Option Addr} {its:Array Value} {n:Nat} {sl:Array (Option Value)} {xs:List V} (X:K.In h) (G:h.Ns mainGlobals mg)
  (a:W.nsIn K mainGlobals x=some (some (.ref i))) (l:K.lookup i=some ⟨.type "tuple",dc,.seq its n,sl⟩) (hz:its.size<=sizeLine) (r:Yt xs its.toList):∀ P w base,(Gx.mk P w K mg base).j7 x xs :=
 fun P w base=>⟨i,W.mg_of X G a,fun H => .inr ⟨_,its,n,l,rfl,rfl,hz,r⟩⟩
section
variable {X:Cx} {g:Gx} {x:Str} {pos:Pos}
def xg (K:W.Frag) (xs:List V):TE:=fun _ H Q=>∀ c,aK K H c xs->Q (.ref c) H
theorem Gh {xs:List V} (F:g.j7 x xs) (hX:X.gx=g) (hg:Gl X x) (hd:(x==("__debug__":Str))=false):PE X (.Name x pos) (xg g.K xs):=by
 subst hX;obtain ⟨c,e,hc⟩:=F;exact fun pins s σ H Q I h=>U3 hg e (show Yw (.ref c) (.ref c) from rfl) hd pins s σ H Q I (h c (hc H))
end
theorem Yu {c A B:Prop} [Decidable c] (h:¬ c) (hb:B):if c then A else B:=by rw [if_neg h];exact hb
theorem YT {c A B:Prop} [Decidable c] (h:c) (ha:A):if c then A else B:=by rw [if_pos h];exact ha
section
variable {src:List (Option Nat)} {te:TE} {σ:St} {H:Hp} {Q:VK}
theorem Gi {tl:TE} {l:List Nat} (ys:List V) (ha:∀ R:V->Hp->Prop,R (.str (S l)) H->tl σ H R) (hl:ys.length=l.length) (hlen:l.length<=100000)
  (step:∀ (i c:Nat) y H',l[i]?=some c->ys[i]?=some y->Yf H H'->∀ R:VK,(∀ aO,Yf H' aO->R y aO)->te (some (.str (S [c]))::YH src σ) H' R)
  (fin:∀ D H',H D=none->Yf H H'->H' D=some (.lst ys)->Q (.ref D) H'):eX (none::src) (wI tl) (YJ 0) XO te σ H Q :=
 ha _ ⟨S l,rfl,fun D hD=>wX (O8 (S l) (fun _=>True)) ys (fun _ _=>trivial) hD (by rw [wV];simpa using hl) (by rw [wV];simpa using hlen) (fun i x y H' hx hy sm R r=>by
  rw [wV,List.getElem?_map] at hx
  cases e:l[i]? with
  | none=>rw [e] at hx;cases hx
  | some c =>
   rw [e] at hx
   have:V.str ⟨#[c]⟩=x:=Option.some.inj hx;subst this;exact step i c y H' e hy sm R r) fun H'=>fin D H' hD⟩
end
section
variable {X:Cx} {K:W.Frag} {o e:Expr} {es:List Expr} {to:TE} {t:TA} {name:Str} {apos cpos:Pos} {T id:String} {r:V->List V->Hp->VK->Prop}
theorem Rc (pa:PlainAttrs T) (slot:Slot T name id) (hty:typeOf (.builtin id)=pure (.type "method_descriptor")) (hm:j5 X id r) (ho:PE X o to) (ha:PA X (e::es) t)
  (hbase:attributeBase o name X.env (eval o X.env)=eval o X.env)
  (hfew:((backTo cpos (starEach (e::es) X.env)).all (fun x => !x.1)&&(backToKw cpos (keywordEach [] X.env)).all (fun x=>x.1.isSome)
   && decide ((e::es).length+([]:List Keyword).length+(if ([]:List Keyword).isEmpty then 0 else 1)<30))=true)
  (hline:(apos.endLine==cpos.line)=true) (hs:starEach (e::es) X.env=(false,eval e X.env)::starEach es X.env) (hplain:(backTo cpos (starEach es X.env)).any (·.1)=false) (hK:X.K=K) :
  PE X (.Call (.Attribute o name apos) (e::es) [] cpos) (sV K T r to t):=by
 subst hK;exact WC pa slot hty hm ho ha hbase hfew hline hs hplain
end
section
variable {X:Cx}
def Cp (i j:Int):Prop:=wW i j\/qM i j
theorem V1:bF X (binaryOp .Mult) (rI Cp fun i j => .int (i*j)):=o8 fun _ _ _ _ _ _ _ hc q=>mul_int q (hc.elim (fun h=>h.ok) fun h=>h.ok)
end
abbrev Wr (h:Heap) (z TI TO:Addr) (f0:Value) (f1:Bool):Prop :=
 h.get? z=some { cls := .type "zip",dict:=none,data := .fields #[f0,.bool f1,.bool false,.ref TI,.ref TO],slots:=#[] }
section
variable {prog:Program} {w:World} {A:Around} {E:Value->Shared->Prop} {s:Shared} {z TI TO i1 i2 T:Addr} {S1 S2:Nat->Heap->Prop} {R1 R2:Heap->(Nat->Option Value)->Prop} {g1 g2:Nat->Option Value} {k:Nat} {a b:Value} {f:Bool} {oT:Obj}
theorem Rf {x y:Value} {Q:Option Value->Shared->Prop} (D:cF z TI TO i1 i2) (U1:Sub prog w i1 S1 R1) (U2:Sub prog w i2 S2 R2)
  (k1:∀ h h' g,R1 h g->(∀ c o,c≠z->c≠TO->c≠i1->c≠i2->h.get? c=some o->h'.get? c=some o)->R1 h' g) (k2:∀ h h' g,R2 h g->(∀ c o,c≠z->c≠TO->c≠i1->c≠i2->h.get? c=some o->h'.get? c=some o)->R2 h' g)
  (hz:Wr s.heap z TI TO (rawInt T) f) (hTI:IsPair s.heap TI (.ref i1) (.ref i2)) (hT:s.heap.get? T=some oT) (h1:S1 k s.heap) (h2:S2 k s.heap) (r1:R1 s.heap g1) (r2:R2 s.heap g2) (hx:g1 k=some x) (hy:g2 k=some y)
  (hQ:∀ h' tk,Wr h' z TI TO (rawInt T) true->S1 (k+1) h'->S2 (k+1) h'->IsPair h' s.heap.objs.size x y->h'.objs.size=s.heap.objs.size+1 ->
   (∀ c o,c≠z->c≠i1->c≠i2->s.heap.get? c=some o->h'.get? c=some o)->Q (some (.ref s.heap.objs.size)) { s with heap:=h',toks:=tk }) :
  wpAny (model prog w) A (pyNext (.ref z)) Q E s:=by
 have hTy:s.TypeIs (.ref z) "zip":=⟨_,hz,rfl⟩;unfold pyNext;refine wpAny_bind (wpAny_attempt (wpAny_callSpecial?_slot (name:=Str.ofString "__next__") hTy F.slot_zip_next (wpAny_call_entry F.slot_zip_next hTy F.entry_zip_next ?_ (F.args_zip_next_1 _))))
 show wpAny _ _ (field (.ref z) 2 >>= _) _ _ _
 refine wpAny_bind (wpAny_field hz rfl (x := .bool false) rfl ?_)
 show wpAny _ _ (field (.ref z) 3 >>= _) _ _ _
 refine wpAny_bind (wpAny_field hz rfl (x := .ref TI) rfl ?_);refine wpAny_bind (wpAny_seqItems hTI rfl ?_)
 show wpAny _ _ (Builtin.SmallTypes.ownedTupleIsFree (.ref z) >>= _) _ _ _
 refine wpAny_bind ?_;unfold Builtin.SmallTypes.ownedTupleIsFree;refine wpAny_bind (wpAny_field hz rfl (x:=rawInt T) rfl ?_)
 show wpAny _ _ (loadIfAlive ((T:Int).toNat) >>= _) _ _ _
 rw [Int.toNat_natCast];refine wpAny_bind (PySem.W.kdx_alive hT ?_);simp only [Option.isNone_some,Bool.false_eq_true,if_false];refine wpAny_bind (wpAny_field hz rfl (x := .bool f) rfl ?_);have step:∀ (P:Bool->Shared->Prop) (E':Value->Shared->Prop),(∀ h₀:Heap,Wr h₀ z TI TO (rawInt T) true->Heap.SameBut z s.heap h₀->P false { s with heap:=h₀ }) ->
   wpAny (model prog w) A.in1 (if (Value.bool f != Value.bool true)=true then do setField (Value.ref z) 1 (Value.bool true);pure false else pure false) P E' s:=by
  intro P E' h
  cases f with
  | true =>
   rw [if_neg (show ¬ ((Value.bool true != Value.bool true)=true) from Bool.false_ne_true)];exact wpAny_pure (h s.heap hz (Heap.SameBut.refl _ _))
  | false =>
   rw [if_pos (show (Value.bool false != Value.bool true)=true from rfl)];exact wpAny_bind (wpAny_setField_rec hz (by simp) fun h₃ he₃ hs₃=>wpAny_pure (h h₃ he₃ hs₃))
 refine step _ _ fun h₀ tU hs₀=>?_
 simp only [Bool.false_eq_true,if_false];have nM:S1 k h₀:=U1.keep _ _ _ h1 fun o e=>hs₀.extBut _ _ D.c e
 have nO:R1 h₀ g1:=k1 _ _ _ r1 fun c o c1 _ _ _ e=>hs₀.extBut _ _ c1 e
 rw [<- Array.forIn_toList];simp only [List.forIn_cons,List.forIn_nil];refine wpAny_bind (wpAny_bind (wpAny_bind (wpAny_holding ?_)))
 show wpAny _ _ (Builtin.SmallTypes.nextOf (.ref i1) >>= _) _ _ _
 refine wpAny_bind (U1.item _ k { s with heap:=h₀ } g1 x _ _ nM nO hx fun h₂ tk₂ jU hs₂=>wpAny_pure ?_);have kk₂:∀ c o,c≠z->c≠i1->s.heap.get? c=some o->h₂.get? c=some o:=fun c o c1 c3 e=>hs₂.extBut _ _ c3 (hs₀.extBut _ _ c1 e)
 refine wpAny_pure ?_;dsimp only;have Cr:S2 k h₂:=U2.keep _ _ _ h2 fun o e=>hs₂.extBut _ _ D.j.symm (hs₀.extBut _ _ D.d e)
 refine wpAny_bind (wpAny_bind (wpAny_holding ?_))
 show wpAny _ _ (Builtin.SmallTypes.nextOf (.ref i2) >>= _) _ _ _
 refine wpAny_bind (U2.item _ k { s with heap:=h₂,toks:=tk₂ } g2 y _ _ Cr (k2 _ _ _ r2 fun c o c1 c2 c3 c4 e=>kk₂ c o c1 c3 e) hy fun h₄ tk₄ nJ hs₄=>wpAny_pure ?_);refine wpAny_pure (wpAny_pure ?_);dsimp only;refine wpAny_bind (wpAny_newTuple ?_ (show (2:Nat)<=sizeLine by decide));have hsz:h₄.objs.size=s.heap.objs.size:=by rw [hs₄.1,hs₂.1,hs₀.1]
 have hz₄:Wr h₄ z TI TO (rawInt T) true:=hs₄.extBut _ _ D.d.symm (hs₂.extBut _ _ D.c.symm tU);refine wpAny_pure ⟨_,rfl,wpAny_pure ?_⟩
 show Q (some (.ref h₄.objs.size)) _
 have Cu:=hQ (h₄.push { cls := .type "tuple",data := .seq #[x,y] }) tk₄ (Heap.get?_push_of_some _ hz₄) (U1.keep _ _ _ jU fun o e=>Heap.get?_push_of_some _ (hs₄.extBut _ _ D.j e)) (U2.keep _ _ _ nJ fun o e=>Heap.get?_push_of_some _ e)
  (by rw [<- hsz];exact Heap.get?_push_size _ rfl) (by rw [Heap.size_push,hsz]) fun c o c1 c3 c4 e=>Heap.get?_push_of_some _ (hs₄.extBut _ _ c4 (kk₂ c o c1 c3 e))
 rw [hsz];exact Cu
theorem Rg {Q:Option Value->Shared->Prop} (hh:A.handled=none) (D:cF z TI TO i1 i2) (U1:Sub prog w i1 S1 R1) (U2:Sub prog w i2 S2 R2)
  (k1:∀ h h' g,R1 h g->(∀ c o,c≠z->c≠TO->c≠i1->c≠i2->h.get? c=some o->h'.get? c=some o)->R1 h' g)
  (hz:Wr s.heap z TI TO (rawInt T) f) (hTI:IsPair s.heap TI (.ref i1) (.ref i2)) (hT:s.heap.get? T=some oT) (h1:S1 k s.heap) (r1:R1 s.heap g1) (hend:g1 k=none)
  (hQ:∀ h' tk,(∀ c o,c≠z->c≠i1->c≠i2->s.heap.get? c=some o->h'.get? c=some o)->Q none { s with heap:=h',toks:=tk }):wpAny (model prog w) A (pyNext (.ref z)) Q E s:=by
 have hTy:s.TypeIs (.ref z) "zip":=⟨_,hz,rfl⟩;unfold pyNext;refine wpAny_bind (wpAny_attempt (wpAny_callSpecial?_slot (name:=Str.ofString "__next__") hTy F.slot_zip_next (wpAny_call_entry F.slot_zip_next hTy F.entry_zip_next ?_ (F.args_zip_next_1 _))))
 show wpAny _ _ (field (.ref z) 2 >>= _) _ _ _
 refine wpAny_bind (wpAny_field hz rfl (x := .bool false) rfl ?_)
 show wpAny _ _ (field (.ref z) 3 >>= _) _ _ _
 refine wpAny_bind (wpAny_field hz rfl (x := .ref TI) rfl ?_);refine wpAny_bind (wpAny_seqItems hTI rfl ?_)
 show wpAny _ _ (Builtin.SmallTypes.ownedTupleIsFree (.ref z) >>= _) _ _ _
 refine wpAny_bind ?_;unfold Builtin.SmallTypes.ownedTupleIsFree;refine wpAny_bind (wpAny_field hz rfl (x:=rawInt T) rfl ?_)
 show wpAny _ _ (loadIfAlive ((T:Int).toNat) >>= _) _ _ _
 rw [Int.toNat_natCast];refine wpAny_bind (PySem.W.kdx_alive hT ?_);simp only [Option.isNone_some,Bool.false_eq_true,if_false];refine wpAny_bind (wpAny_field hz rfl (x := .bool f) rfl ?_);have step:∀ (P:Bool->Shared->Prop) (E':Value->Shared->Prop),(∀ h₀:Heap,Wr h₀ z TI TO (rawInt T) true->Heap.SameBut z s.heap h₀->P false { s with heap:=h₀ }) ->
   wpAny (model prog w) A.in1 (if (Value.bool f != Value.bool true)=true then do setField (Value.ref z) 1 (Value.bool true);pure false else pure false) P E' s:=by
  intro P E' h
  cases f with
  | true =>
   rw [if_neg (show ¬ ((Value.bool true != Value.bool true)=true) from Bool.false_ne_true)];exact wpAny_pure (h s.heap hz (Heap.SameBut.refl _ _))
  | false =>
   rw [if_pos (show (Value.bool false != Value.bool true)=true from rfl)];exact wpAny_bind (wpAny_setField_rec hz (by simp) fun h₃ he₃ hs₃=>wpAny_pure (h h₃ he₃ hs₃))
 refine step _ _ fun h₀ tU hs₀=>?_
 simp only [Bool.false_eq_true,if_false];have nM:S1 k h₀:=U1.keep _ _ _ h1 fun o e=>hs₀.extBut _ _ D.c e
 have nO:R1 h₀ g1:=k1 _ _ _ r1 fun c o c1 _ _ _ e=>hs₀.extBut _ _ c1 e
 rw [<- Array.forIn_toList];simp only [List.forIn_cons,List.forIn_nil];refine wpAny_bind (wpAny_bind (wpAny_bind (wpAny_holding ?_)))
 show wpAny _ _ (Builtin.SmallTypes.nextOf (.ref i1) >>= _) _ _ _
 refine wpAny_bind (U1.fin _ k { s with heap:=h₀ } g1 _ _ hh nM nO hend fun h₂ e hs₂ he=>?_);obtain ⟨oe,hoe,hce⟩:=he;refine wpAny_bind (wpAny_isInstance (T:="StopIteration") (b:=true) ⟨oe,hoe,hce⟩ isSubtype_stop ?_);exact wpAny_pure (hQ h₂ s.toks fun c o c1 c3 c4 x=>hs₂ _ _ c3 (hs₀.extBut _ _ c1 x))
end
section
variable {prog:Program} {w:World} {A:Around} {s:Shared} {R:Result->Shared->Prop} {z TI TO i1 i2 S p1 p2:Addr} {xs ys:List Value}
def Rh (h:Heap) (z TI TO i1 i2 p1 p2:Addr) (i:Nat) (as:List Addr):Prop :=
 IsPair h TI (.ref i1) (.ref i2)/\h.IsTupleIter i1 p1 i/\h.IsTupleIter i2 p2 i/\((i=0/\IsZip h z TI TO .none/\∃ a b,IsPair h TO a b)\/∃ T f,T∈as/\Wr h z TI TO (rawInt T) f)
theorem Ri (hh:A.handled=none) (D:cF z TI TO i1 i2) (lo:Nat) (hlo:z<lo/\TI<lo/\TO<lo/\i1<lo/\i2<lo/\S<lo/\p1<lo/\p2<lo) (nS:S∉[z,TI,TO,i1,i2,p1,p2]) (n1:p1∉[z,TO,i1,i2]) (n2:p2∉[z,TO,i1,i2]) (hl:xs.length=ys.length) (hn:xs.length<=sizeLine) (res:Value) {h₁:Heap}
  (hR:∀ (h':Heap) (tk:Nat) (acc:Array Value) (c:Nat) (as:List Addr),(∀ b o,b∉[S,z,TO,i1,i2]->h₁.get? b=some o->h'.get? b=some o)->h'.get? S=some { cls := .type "list",dict:=none,data := .seq acc c,slots:=#[] }->as.length=xs.length->acc.toList=as.map Value.ref ->
   as.Pairwise (·<·)->(∀ a∈as,lo<=a)->(∀ (j:Nat) a x y,as[j]?=some a->xs[j]?=some x->ys[j]?=some y->IsPair h' a x y)->R (.ok (.ret res)) { s with heap:=h',toks:=tk }) :
  ∀ (k i:Nat) (h:Heap) (tk c:Nat) (acc:Array Value) (as:List Addr),xs.length - i=k->i<=xs.length->Rh h z TI TO i1 i2 p1 p2 i as->h.IsTuple p1 xs.toArray->h.IsTuple p2 ys.toArray->(∀ b o,b∉[S,z,TO,i1,i2]->h₁.get? b=some o->h.get? b=some o) ->
   h.get? S=some { cls := .type "list",dict:=none,data := .seq acc c,slots:=#[] }->acc.toList=as.map Value.ref->as.length=i->as.Pairwise (·<·)->(∀ a∈as,lo<=a/\a<h.objs.size)->(∀ (j:Nat) a x y,as[j]?=some a->xs[j]?=some x->ys[j]?=some y->IsPair h a x y)->lo<=h.objs.size ->
   codeAny (model prog w) A (.builtin "list.extend.loop" ⟨[.ref S,.ref z,res],[]⟩) R { s with heap:=h,toks:=tk }:=by
 intro k;have nz:S≠z:=fun e=>nS (by simp [e])
 have Rj:S≠TI:=fun e=>nS (by simp [e])
 have Gj:S≠TO:=fun e=>nS (by simp [e])
 have xq:S≠i1:=fun e=>nS (by simp [e])
 have xr:S≠i2:=fun e=>nS (by simp [e])
 have Rk:S≠p1:=fun e=>nS (by simp [e])
 have Rm:S≠p2:=fun e=>nS (by simp [e])
 have q1:p1≠z/\p1≠TO/\p1≠i1/\p1≠i2:=⟨fun e=>n1 (by simp [e]),fun e=>n1 (by simp [e]),fun e=>n1 (by simp [e]),fun e=>n1 (by simp [e])⟩;have q2:p2≠z/\p2≠TO/\p2≠i1/\p2≠i2:=⟨fun e=>n2 (by simp [e]),fun e=>n2 (by simp [e]),fun e=>n2 (by simp [e]),fun e=>n2 (by simp [e])⟩;have big:∀ {a:Addr},lo<=a->a≠z/\a≠TO/\a≠i1/\a≠i2/\a≠S:=fun {a} ha=>by
  obtain ⟨l1,l2,l3,l4,l5,l6,_⟩:=hlo;refine ⟨?_,?_,?_,?_,?_⟩<;>(intro e;subst e;exact absurd ha (Nat.not_le.mpr (by assumption)))
 have nP:∀ h:Heap,h.IsTuple p1 xs.toArray->∃ items:Array Value,h.IsTuple p1 items/\∀ k:Nat,(fun k:Nat=>xs[k]?) k=items[k]?:=fun h e=>⟨_,e,fun (k:Nat)=>by simp⟩
 have rm:∀ h:Heap,h.IsTuple p2 ys.toArray->∃ items:Array Value,h.IsTuple p2 items/\∀ k:Nat,(fun k:Nat=>ys[k]?) k=items[k]?:=fun h e=>⟨_,e,fun (k:Nat)=>by simp⟩
 have tV:∀ (h h':Heap) (g:Nat->Option Value),(∃ items:Array Value,h.IsTuple p1 items/\∀ k,g k=items[k]?)->(∀ c o,c≠z->c≠TO->c≠i1->c≠i2->h.get? c=some o->h'.get? c=some o)->∃ items:Array Value,h'.IsTuple p1 items/\∀ k,g k=items[k]? :=
  fun h h' g ⟨items,⟨o,e,r⟩,q⟩ k=>⟨items,⟨o,k _ o q1.1 q1.2.1 q1.2.2.1 q1.2.2.2 e,r⟩,q⟩
 have pB:∀ (h h':Heap) (g:Nat->Option Value),(∃ items:Array Value,h.IsTuple p2 items/\∀ k,g k=items[k]?)->(∀ c o,c≠z->c≠TO->c≠i1->c≠i2->h.get? c=some o->h'.get? c=some o)->∃ items:Array Value,h'.IsTuple p2 items/\∀ k,g k=items[k]? :=
  fun h h' g ⟨items,⟨o,e,r⟩,q⟩ k=>⟨items,⟨o,k _ o q2.1 q2.2.1 q2.2.2.1 q2.2.2.2 e,r⟩,q⟩
 induction k with
 | zero =>
  intro i h tk c acc as hk hi hst ht1 dG hkeep hS hacc hal xu hab hpr hlo';have hin:i=xs.length:=by omega
  refine codeAny_builtin F.entry_extend_loop ?_;rw [Around.under_plainId F.plain_extend_loop _]
  show wpAny _ A.in1 (pyNext (.ref z) >>= _) _ _ _
  obtain ⟨hTI,hi1,hi2,hzs⟩:=hst;have fin:∀ h' tk',(∀ b o,b≠z->b≠TO->b≠i1->b≠i2->h.get? b=some o->h'.get? b=some o)->R (.ok (.ret res)) { s with heap:=h',toks:=tk' }:=fun h' tk' kp=>by
   refine hR h' tk' acc c as (fun b o hb e=>?_) (kp S _ nz Gj xq xr hS) (by omega) hacc xu (fun a ha=>(hab a ha).1) (fun j a x y h1 h2 h3=>?_)
   ·simp only [List.mem_cons,List.not_mem_nil,or_false,not_or] at hb
    exact kp b o hb.2.1 hb.2.2.1 hb.2.2.2.1 hb.2.2.2.2 (hkeep b o (by simp [hb]) e)
   ·have hb:=big (hab a (List.mem_of_getElem? h1)).1
    exact kp a _ hb.1 hb.2.1 hb.2.2.1 hb.2.2.2.1 (hpr j a x y h1 h2 h3)
  rcases hzs with ⟨e0,hz,a,b,hTO⟩ | ⟨T,f,hT,hz⟩
  ·refine wpAny_bind (Fw (s:={ s with heap:=h,toks:=tk }) (A:=A.in1) (k:=i) hh D (Xn i1 p1) (Xn i2 p2) tV pB hz hTI hTO hi1 hi2 (nP h ht1) (rm h dG) (.inl (List.getElem?_eq_none (by omega))) fun h' tk' kp=>wpAny_pure (fin h' tk' kp))
  ·obtain ⟨j,hj⟩:=List.mem_iff_getElem?.mp hT
   have hjl:=(List.getElem?_eq_some_iff.mp hj).1;have:=hpr j T _ _ hj (List.getElem?_eq_getElem (show j<xs.length by omega)) (List.getElem?_eq_getElem (show j<ys.length by omega));refine wpAny_bind (Rg (s:={ s with heap:=h,toks:=tk }) (A:=A.in1) (k:=i) hh D (Xn i1 p1) (Xn i2 p2) tV hz hTI this hi1 (nP h ht1) (List.getElem?_eq_none (by omega)) fun h' tk' kp=>wpAny_pure (fin h' tk' fun b o b1 _ b3 b4 e=>kp b o b1 b3 b4 e))
 | succ k ih =>
  intro i h tk c acc as hk hi hst ht1 dG hkeep hS hacc hal xu hab hpr hlo';have hlt:i<xs.length:=by omega
  have hlt2:i<ys.length:=by omega
  have hx:xs[i]?=some xs[i]:=List.getElem?_eq_getElem hlt;have hy:ys[i]?=some ys[i]:=List.getElem?_eq_getElem hlt2;have hsz:acc.size=i:=by rw [<- Array.length_toList,hacc,List.length_map,hal]
  refine codeAny_builtin F.entry_extend_loop ?_;rw [Around.under_plainId F.plain_extend_loop _]
  show wpAny _ A.in1 (pyNext (.ref z) >>= _) _ _ _
  obtain ⟨hTI,hi1,hi2,hzs⟩:=hst;have step:∀ (Q:Option Value->Shared->Prop) (E:Value->Shared->Prop),(∀ (h':Heap) (tk':Nat) (T:Addr) (f:Bool),T∈as++[h.objs.size]->Wr h' z TI TO (rawInt T) f->h'.IsTupleIter i1 p1 (i+1)->h'.IsTupleIter i2 p2 (i+1)->IsPair h' h.objs.size xs[i] ys[i]->h'.objs.size=h.objs.size+1 ->
    (∀ c o,c≠z->c≠TO->c≠i1->c≠i2->h.get? c=some o->h'.get? c=some o)->Q (some (.ref h.objs.size)) { s with heap:=h',toks:=tk' })->wpAny (model prog w) A.in1 (pyNext (.ref z)) Q E { s with heap:=h,toks:=tk }:=by
   intro Q E hq;rcases hzs with ⟨e0,hz,a,b,hTO⟩ | ⟨T,f,hT,hz⟩
   ·exact Fv (s:={ s with heap:=h,toks:=tk }) (A:=A.in1) (k:=i) D (Xn i1 p1) (Xn i2 p2) tV pB hz hTI hTO hi1 hi2 (nP h ht1) (rm h dG) hx hy fun h' tk' hz' _ s1 s2 hp hs kp=>hq h' tk' h.objs.size _ (by simp) hz' s1 s2 hp hs kp
   ·obtain ⟨j,hj⟩:=List.mem_iff_getElem?.mp hT
    have hjl:=(List.getElem?_eq_some_iff.mp hj).1;have:=hpr j T _ _ hj (List.getElem?_eq_getElem (show j<xs.length by omega)) (List.getElem?_eq_getElem (show j<ys.length by omega));exact Rf (s:={ s with heap:=h,toks:=tk }) (A:=A.in1) (k:=i) D (Xn i1 p1) (Xn i2 p2) tV pB hz hTI this hi1 hi2 (nP h ht1) (rm h dG) hx hy fun h' tk' hz' s1 s2 hp hs kp=>hq h' tk' T _ (by simp [hT]) hz' s1 s2 hp hs fun c o c1 _ c3 c4 e=>kp c o c1 c3 c4 e
  refine wpAny_bind (step _ _ fun h' tk' T f hT hz' s1 s2 hp hs hkp=>?_);have hS':=hkp S _ nz Gj xq xr hS;have up:∀ b o,b≠S->h'.get? b=some o->(h'.update S (Obj.mapSeq (·.push (Value.ref h.objs.size)))).get? b=some o:=fun b o hb e=>(Heap.get?_update_other _ _ (Ne.symm hb)).trans e
  have hSl:S<h.objs.size:=Heap.lt_size hS;have np:h.objs.size≠S:=Nat.ne_of_gt hSl
  show wpAny _ A.in1 (updateSeq S (·.push (Value.ref h.objs.size)) >>= _) _ _ _
  refine wpAny_bind ?_;refine wpAny_updateSeq hS' rfl (wpAny_pure ⟨plainId_quiet F.plain_extend_loop _,ih (i+1) _ tk' _ (acc.push (Value.ref h.objs.size)) (as++[h.objs.size]) (by omega) hlt ⟨?_,?_,?_,.inr ⟨T,f,hT,up _ _ nz.symm hz'⟩⟩ ?_ ?_
   (fun b o hb e=>?_) (Heap.get?_update_self _ hS' rfl) (by rw [Array.toList_push,hacc,List.map_append];rfl) (by rw [List.length_append,hal];rfl) ?_ ?_ ?_ ?_⟩) (by rw [hsz];omega) (by show (acc.push (Value.ref h.objs.size)).size<=sizeLine+1;rw [Array.size_push,hsz];omega)
  ·exact up _ _ Rj.symm (hkp TI _ D.a D.e D.f D.g hTI)
  ·obtain ⟨o,e,r⟩:=s1
   exact ⟨o,up _ _ xq.symm e,r⟩
  ·obtain ⟨o,e,r⟩:=s2
   exact ⟨o,up _ _ xr.symm e,r⟩
  ·obtain ⟨o,e,r⟩:=ht1
   exact ⟨o,up _ _ Rk.symm (hkp _ _ q1.1 q1.2.1 q1.2.2.1 q1.2.2.2 e),r⟩
  ·obtain ⟨o,e,r⟩:=dG
   exact ⟨o,up _ _ Rm.symm (hkp _ _ q2.1 q2.2.1 q2.2.2.1 q2.2.2.2 e),r⟩
  ·have hb':=hb
   simp only [List.mem_cons,List.not_mem_nil,or_false,not_or] at hb';exact up b o hb'.1 (hkp b o hb'.2.1 hb'.2.2.1 hb'.2.2.2.1 hb'.2.2.2.2 (hkeep b o hb e))
  ·refine List.pairwise_append.mpr ⟨xu,List.pairwise_singleton _ _,fun a ha b hb=>?_⟩
   rw [List.mem_singleton.mp hb];exact (hab a ha).2
  ·have hsz':(h'.update S (Obj.mapSeq (·.push (Value.ref h.objs.size)))).objs.size=h.objs.size+1:=by rw [<- hs];exact Heap.size_update _ _ _
   intro a ha;rw [hsz'];rcases List.mem_append.mp ha with ha | ha
   ·exact ⟨(hab a ha).1,Nat.lt_succ_of_lt (hab a ha).2⟩
   ·rw [List.mem_singleton.mp ha];exact ⟨hlo',Nat.lt_succ_self _⟩
  ·intro j b x y hj ex ey
   rcases Nat.lt_trichotomy j as.length with h1 | h1 | h1
   ·rw [List.getElem?_append_left h1] at hj
    have hb:=big (hab b (List.mem_of_getElem? hj)).1;exact up b _ hb.2.2.2.2 (hkp b _ hb.1 hb.2.1 hb.2.2.1 hb.2.2.2.1 (hpr j b x y hj ex ey))
   ·subst h1
    have hb:h.objs.size=b:=by simpa using hj
    subst hb;rw [hal] at ex ey
    rw [hx] at ex
    rw [hy] at ey
    cases ex
    cases ey
    exact up _ _ np hp
   ·have hnone:(as++[h.objs.size])[j]?=none:=List.getElem?_eq_none (by rw [List.length_append,List.length_singleton];omega)
    rw [hnone] at hj;cases hj
  ·have hsz':(h'.update S (Obj.mapSeq (·.push (Value.ref h.objs.size)))).objs.size=h.objs.size+1:=by rw [<- hs];exact Heap.size_update _ _ _
   rw [hsz'];exact Nat.le_succ_of_le hlo'
end
end L2
namespace L2
open PySem PySem.Calls PySem.Spec PyProof.Rows PyProof.V
theorem Rn:typeLookup (.type "zip") "__len__"=pure none:=by rw [typeLookup_type,builtinLookup_eq_fast];kernel_rfl
theorem Ro:typeLookup (.type "zip") "__length_hint__"=pure none:=by rw [typeLookup_type,builtinLookup_eq_fast];kernel_rfl
section
variable {prog:Program} {w:World} {A:Around} {E:Value->Shared->Prop} {s:Shared} {z TI TO i1 i2 p1 p2:Addr} {xs ys:List Value}
theorem Yes (hT:s.TypeIs (.ref z) "zip") {Q:Bool->Shared->Prop} (h:Q true s):wpAny (model prog w) A (Builtin.List.listLengthHint (.ref z)) Q E s:=by
 unfold Builtin.List.listLengthHint;refine wpAny_bind (wpAny_specialOf hT Rn ?_)
 show wpAny _ _ (specialOf (.ref z) "__length_hint__" >>= _) _ _ _
 refine wpAny_bind (wpAny_specialOf hT Ro ?_);exact wpAny_pure h
structure rz (xs ys:List Value) (lo:Nat) (h:Heap) (as:List Addr):Prop where
 len:as.length=xs.length
 rise:as.Pairwise (·<·)
 above:∀ a∈as,lo<=a
 pairs:∀ (j:Nat) a x y,as[j]?=some a->xs[j]?=some x->ys[j]?=some y->IsPair h a x y
theorem Rp {R:Result->Shared->Prop} {S:Addr} {oa ob:Value} (hh:A.handled=none) (D:cF z TI TO i1 i2) (hlt:z<S/\TI<S/\TO<S/\i1<S/\i2<S/\p1<S/\p2<S) (n1:p1∉[z,TO,i1,i2]) (n2:p2∉[z,TO,i1,i2]) (hl:xs.length=ys.length) (hn:xs.length<=sizeLine) (res:Value) (c₀:Nat)
  (hz:IsZip s.heap z TI TO .none) (hTI:IsPair s.heap TI (.ref i1) (.ref i2)) (hTO:IsPair s.heap TO oa ob) (h1:s.heap.IsTupleIter i1 p1 0) (h2:s.heap.IsTupleIter i2 p2 0) (t1:s.heap.IsTuple p1 xs.toArray) (t2:s.heap.IsTuple p2 ys.toArray) (hS:s.heap.get? S=some { cls := .type "list",data := .seq #[] c₀ })
  (hR:∀ (h':Heap) (tk:Nat) (acc:Array Value) (c:Nat) (as:List Addr),(∀ b o,b∉[S,z,TO,i1,i2]->s.heap.get? b=some o->h'.get? b=some o)->h'.get? S=some { cls := .type "list",dict:=none,data := .seq acc c,slots:=#[] }->acc.toList=as.map Value.ref->rz xs ys (S+1) h' as->R (.ok (.ret res)) { s with heap:=h',toks:=tk }) :
  wpAny (model prog w) A.in1 (Builtin.List.listExtendWith (.ref S) (.ref z) res)
   (fun fin s'=>match fin with | .done f=>R (.ok f) s' | .again c'=>c'.quiet=true/\codeAny (model prog w) A c' R s') (fun e s'=>R (.error e) s') s:=by
 obtain ⟨l1,l2,l3,l4,l5,l6,l7⟩:=hlt;have nS:S∉[z,TI,TO,i1,i2,p1,p2]:=by
  intro hm;simp only [List.mem_cons,List.not_mem_nil,or_false] at hm;rcases hm with e | e | e | e | e | e | e<;>(subst e;first | exact absurd l1 (Nat.lt_irrefl _) | exact absurd l2 (Nat.lt_irrefl _) | exact absurd l3 (Nat.lt_irrefl _) | exact absurd l4 (Nat.lt_irrefl _) | exact absurd l5 (Nat.lt_irrefl _) | exact absurd l6 (Nat.lt_irrefl _) | exact absurd l7 (Nat.lt_irrefl _))
 have key:∀ (h:Heap) (c₁ tk:Nat),(∀ b o,b≠S->s.heap.get? b=some o->h.get? b=some o)->h.get? S=some { cls := .type "list",data := .seq #[] c₁ }->codeAny (model prog w) A (.builtin "list.extend.loop" ⟨[.ref S,.ref z,res],[]⟩) R { s with heap:=h,toks:=tk }:=by
  intro h c₁ tk hk hS₁;have m:∀ {b:Addr},b<S->∀ o,s.heap.get? b=some o->h.get? b=some o:=fun {b} hb o e=>hk b o (Nat.ne_of_lt hb) e
  refine Ri (s:=s) (h₁:=s.heap) hh D (S+1) ⟨Nat.lt_succ_of_lt l1,Nat.lt_succ_of_lt l2,Nat.lt_succ_of_lt l3,Nat.lt_succ_of_lt l4,Nat.lt_succ_of_lt l5,Nat.lt_succ_self _,Nat.lt_succ_of_lt l6,Nat.lt_succ_of_lt l7⟩ nS n1 n2 hl hn res (fun h' tk' acc c as kp eS ln ac pw ab pr=>hR h' tk' acc c as kp eS ac ⟨ln,pw,ab,pr⟩)
   xs.length 0 h tk c₁ #[] [] (Nat.sub_zero _) (Nat.zero_le _) ⟨m l2 _ hTI,?_,?_,.inl ⟨rfl,m l1 _ hz,_,_,m l3 _ hTO⟩⟩ ?_ ?_ (fun b o hb e=>hk b o (fun q=>hb (by simp [q])) e) hS₁ rfl rfl List.Pairwise.nil (fun _ ha=>nomatch ha) (fun j a x y hj=>by simp at hj) (Heap.lt_size hS₁)
  ·obtain ⟨o,e,r⟩:=h1;exact ⟨o,m l4 _ e,r⟩
  ·obtain ⟨o,e,r⟩:=h2;exact ⟨o,m l5 _ e,r⟩
  ·obtain ⟨o,e,r⟩:=t1;exact ⟨o,m l6 _ e,r⟩
  ·obtain ⟨o,e,r⟩:=t2;exact ⟨o,m l7 _ e,r⟩
 have hT:s.TypeIs (.ref z) "zip":=⟨_,hz,rfl⟩;unfold Builtin.List.listExtendWith;refine wpAny_bind (wpAny_typeOf (T:="zip") hT ?_);have h1:Builtin.List.listSameRef (.ref S) (.ref z)=false:=by simp [Builtin.List.listSameRef,Nat.ne_of_gt l1]
 have h2:(Value.type "zip"==Value.type "list")=false:=by decide
 have h3:(Value.type "zip"==Value.type "tuple")=false:=by decide
 simp only [h1,h2,h3,Bool.or_false,Bool.false_eq_true,if_false];refine wpAny_bind (wpAny_pyIter_zip hz ?_);refine wpAny_bind (wpAny_holding (Yes hT ?_));refine wpAny_ite_split (fun _=>?_) (fun _=>wpAny_pure ⟨plainId_quiet F.plain_extend_loop _,key _ c₀ _ (fun b o _ e=>e) hS⟩);refine wpAny_bind (wpAny_rule ?_);refine wpAny_bind ?_
 show wpAny _ _ (updateSeq S (·.push .none) >>= fun _=>updateSeq S (·.pop)) _ _ _
 refine wpAny_bind (wpAny_updateSeq hS rfl ?_);have hS₂:=Heap.get?_update_self (Obj.mapSeq (·.push Value.none)) hS rfl;refine wpAny_updateSeq (hz:=by seq_fits) hS₂ rfl ?_;have hS₃:=Heap.get?_update_self (Obj.mapSeq (·.pop)) hS₂ rfl;refine wpAny_pure ⟨plainId_quiet F.plain_extend_loop _,key _ _ _ (fun b o hb e=>?_) hS₃⟩;exact (Heap.get?_update_other _ _ (Ne.symm hb)).trans ((Heap.get?_update_other _ _ (Ne.symm hb)).trans e)
theorem Rq {R:Result->Shared->Prop} {S:Addr} {oa ob:Value} (hh:A.handled=none) (D:cF z TI TO i1 i2) (hlt:z<S/\TI<S/\TO<S/\i1<S/\i2<S/\p1<S/\p2<S) (n1:p1∉[z,TO,i1,i2]) (n2:p2∉[z,TO,i1,i2]) (hl:xs.length=ys.length) (hn:xs.length<=sizeLine)
  (hz:IsZip s.heap z TI TO .none) (hTI:IsPair s.heap TI (.ref i1) (.ref i2)) (hTO:IsPair s.heap TO oa ob) (h1:s.heap.IsTupleIter i1 p1 0) (h2:s.heap.IsTupleIter i2 p2 0) (t1:s.heap.IsTuple p1 xs.toArray) (t2:s.heap.IsTuple p2 ys.toArray) (hS:s.heap.get? S=some { cls := .type "list",data := .seq #[] })
  (hR:∀ (h':Heap) (tk:Nat) (acc:Array Value) (c:Nat) (as:List Addr),(∀ b o,b∉[S,z,TO,i1,i2]->s.heap.get? b=some o->h'.get? b=some o)->h'.get? S=some { cls := .type "list",dict:=none,data := .seq acc c,slots:=#[] }->acc.toList=as.map Value.ref->rz xs ys (S+1) h' as->R (.ok (.ret .none)) { s with heap:=h',toks:=tk }) :
  wpAny (model prog w) A.in1 (Builtin.«list.__init__» ⟨[.ref S,.ref z],[]⟩)
   (fun fin s'=>match fin with | .done f=>R (.ok f) s' | .again c'=>c'.quiet=true/\codeAny (model prog w) A c' R s') (fun e s'=>R (.error e) s') s:=by
 show wpAny _ _ (do let old <- Builtin.List.listItems (.ref S);Builtin.List.listUpdate (.ref S) (fun _=>#[]);letGo old.toList.reverse;Builtin.List.listExtendWith (.ref S) (.ref z) .none) _ _ s
 refine wpAny_bind ?_;unfold Builtin.List.listItems;refine wpAny_bind (wpAny_seqItems hS rfl (wpAny_pure ?_))
 show wpAny _ _ (updateSeq S (fun _=>#[]) >>= fun _=>letGo (#[]:Array Value).toList.reverse >>= fun _=>Builtin.List.listExtendWith (.ref S) (.ref z) .none) _ _ s
 refine wpAny_bind (wpAny_updateSeq hS rfl ?_);have hS₂:=Heap.get?_update_self (Obj.mapSeq (fun _=>(#[]:Array Value))) hS rfl;have oth:∀ b o,b≠S->s.heap.get? b=some o->(s.heap.update S (Obj.mapSeq (fun _=>(#[]:Array Value)))).get? b=some o :=
  fun b o hb e=>(Heap.get?_update_other _ _ (Ne.symm hb)).trans e
 have m:∀ {b:Addr},b<S->∀ o,s.heap.get? b=some o->(s.heap.update S (Obj.mapSeq (fun _=>(#[]:Array Value)))).get? b=some o:=fun {b} hb o e=>oth b o (Nat.ne_of_lt hb) e
 refine wpAny_bind (wpAny_letGo ?_);refine Rp (oa:=oa) (ob:=ob) (xs:=xs) (ys:=ys) hh D hlt n1 n2 hl hn .none _ (m hlt.1 _ hz) (m hlt.2.1 _ hTI) (m hlt.2.2.1 _ hTO) ?_ ?_ ?_ ?_ hS₂ (fun h' tk acc c as hk hS' hacc hG=>?_)
 ·obtain ⟨o,e,r⟩:=h1;exact ⟨o,m hlt.2.2.2.1 _ e,r⟩
 ·obtain ⟨o,e,r⟩:=h2;exact ⟨o,m hlt.2.2.2.2.1 _ e,r⟩
 ·obtain ⟨o,e,r⟩:=t1;exact ⟨o,m hlt.2.2.2.2.2.1 _ e,r⟩
 ·obtain ⟨o,e,r⟩:=t2;exact ⟨o,m hlt.2.2.2.2.2.2 _ e,r⟩
 ·exact hR h' tk acc c as (fun b o hb e=>hk b o hb (oth b o (fun q=>hb (by simp [q])) e)) hS' hacc hG
theorem QR {Q:Value->Shared->Prop} {oa ob:Value} (hh:A.handled=none) (D:cF z TI TO i1 i2) (n1:p1∉[z,TO,i1,i2]) (n2:p2∉[z,TO,i1,i2]) (hl:xs.length=ys.length) (hn:xs.length<=sizeLine)
  (hz:IsZip s.heap z TI TO .none) (hTI:IsPair s.heap TI (.ref i1) (.ref i2)) (hTO:IsPair s.heap TO oa ob) (h1:s.heap.IsTupleIter i1 p1 0) (h2:s.heap.IsTupleIter i2 p2 0) (t1:s.heap.IsTuple p1 xs.toArray) (t2:s.heap.IsTuple p2 ys.toArray)
  (hQ:∀ (h':Heap) (tk:Nat) (acc:Array Value) (c:Nat) (as:List Addr),(∀ b o,b∉[z,TO,i1,i2]->s.heap.get? b=some o->h'.get? b=some o)->h'.get? s.heap.objs.size=some { cls := .type "list",dict:=none,data := .seq acc c,slots:=#[] }->acc.toList=as.map Value.ref->rz xs ys (s.heap.objs.size+1) h' as->Q (.ref s.heap.objs.size) { s with heap:=h',toks:=tk }) :
  wpAny (model prog w) A (call (.type "list") [.ref z]) Q E s:=by
 refine callType_codes (Q₁:=fun obj s₁=>obj = .ref s.heap.objs.size/\s₁={ s with heap:=s.heap.push { cls := .type "list",data := .seq #[] } }) F.called_list (F.typeCall_list_1 _) F.entry_list_init
  (code_list_new _ ⟨rfl,rfl⟩) fun obj s₁ h₁=>?_
 obtain ⟨rfl,rfl⟩:=h₁;have hS:(s.heap.push { cls := .type "list",data := .seq #[] }).get? s.heap.objs.size=some { cls := .type "list",data := .seq #[] }:=Heap.get?_push_size _ rfl;obtain ⟨o1,e1,r1⟩:=h1;obtain ⟨o2,e2,r2⟩:=h2;obtain ⟨o3,e3,r3⟩:=t1;obtain ⟨o4,e4,r4⟩:=t2;refine ⟨⟨_,hS,rfl⟩,F.args_list_init_2 _ _,Rq (oa:=oa) (ob:=ob) (xs:=xs) (ys:=ys) (A:=A.in1) hh D ⟨Heap.lt_size hz,Heap.lt_size hTI,Heap.lt_size hTO,Heap.lt_size e1,Heap.lt_size e2,Heap.lt_size e3,Heap.lt_size e4⟩ n1 n2 hl hn
  (Heap.get?_push_of_some _ hz) (Heap.get?_push_of_some _ hTI) (Heap.get?_push_of_some _ hTO) ⟨_,Heap.get?_push_of_some _ e1,r1⟩ ⟨_,Heap.get?_push_of_some _ e2,r2⟩ ⟨_,Heap.get?_push_of_some _ e3,r3⟩ ⟨_,Heap.get?_push_of_some _ e4,r4⟩ hS (fun h' tk acc c as hk hS' hacc hG=>?_)⟩
 exact ⟨rfl,hQ h' tk acc c as (fun b o hb e=>hk b o (fun q=>hb (by
  rcases List.mem_cons.mp q with q | q
  ·exact absurd (Heap.lt_size e) (by rw [q];exact Nat.lt_irrefl _)
  ·exact q)) (Heap.get?_push_of_some _ e)) hS' hacc hG⟩
end
end L2
namespace L2
open PySem PySem.Spec PyProof.Rows
section
variable {X:Cx} {pins:List (Addr×Obj)} {σ:St} {H H':Hp} {s:Shared} {h':Heap}
theorem Inv.vB {t':Nat} {ch:List Addr} (I:Inv X pins σ H s) (k:∀ b o,b∉ch->s.heap.get? b=some o->h'.get? b=some o) (hf:∀ b∈ch,X5 X pins H b) (up:∀ b u,H b=some u->H' b=some u)
  (nw:∀ b u,H' b=some u->H b=none->s.heap.objs.size<=b/\YN X.prog X.w H' h' b u):Inv X pins σ H' { s with heap:=h',toks:=t' }:=by
 have fu:∀ b u,H b=some u->b∉ch:=fun b u e z=>by rw [(hf b z).1] at e;cases e
 refine I.step (g':=s.gens) (d':=s.drawn) (ch:=ch) (fun b hb=>?_) (fun b o _ _ hc e _=>k b o hc e) (fun b o _ _ hc e _=>⟨o.slots,k b o hc e⟩) (fun b o _ e n=>?_)
  (fun b o hc e=>⟨o,k b o hc e⟩) (fun b xs e=>up b _ e) (fun b o u e=>up b _ e) (fun b ps e=>⟨#[],by rw [up b _ e];simp⟩) (fun m hm=>?_) (fun b u e=>?_) I.bare
 ·obtain ⟨f0,f1,f2,f3,f4,f5⟩:=hf b hb
  exact ⟨f3,f1,f4,f5⟩
 ·cases q:H' b with
  | none=>rfl
  | some u=>exact absurd (Heap.lt_size e) (Nat.not_lt.mpr (nw b u q n).1)
 ·obtain ⟨o,es,ep,ho,r⟩:=hm
  exact ⟨o,es,ep,k _ o (fun z=>(hf _ z).2.1 rfl) ho,r⟩
 ·cases q:H b with
  | none=>exact (nw b u e q).2
  | some v =>
   have q':=up b v q;rw [e] at q'
   cases q'
   refine (I.hok b u q).stay (fun c v hc q3=>k c v ?_ q3) (fun c q=>up c _ q) fun c xs q=>up c _ q
   rcases hc with z | z
   ·rw [z];exact fu b u q
   ·exact fu c _ z
end
theorem VB {β:Type}:∀ (as:List Addr) (ps:List β) (j:Nat) (a:Addr) (p:β),as.Pairwise (·<·)->as[j]?=some a->ps[j]?=some p->(as.zip ps).lookup a=some p
 | [],_,j,a,p,_,h,_=>by simp at h
 | _::_,[],j,a,p,_,_,h=>by simp at h
 | b::as,q::ps,0,a,p,_,h1,h2=>by
  simp only [List.getElem?_cons_zero,Option.some.injEq] at h1 h2;subst h1;subst h2;simp [List.lookup]
 | b::as,q::ps,j+1,a,p,hp,h1,h2=>by
  simp only [List.getElem?_cons_succ] at h1 h2;obtain ⟨g1,g2⟩:=List.pairwise_cons.mp hp;have hlt:b<a:=g1 a (List.mem_of_getElem? h1);have hne:(a==b)=false:=by simpa using Nat.ne_of_gt hlt
  simp only [List.zip_cons_cons,List.lookup,hne];exact VB as ps j a p g2 h1 h2
theorem Wx {β:Type}:∀ (as:List Addr) (ps:List β) (a:Addr) (p:β),(as.zip ps).lookup a=some p->∃ j:Nat,as[j]?=some a/\ps[j]?=some p
 | [],_,a,p,h=>by simp at h
 | _::_,[],a,p,h=>by simp at h
 | b::as,q::ps,a,p,h=>by
  simp only [List.zip_cons_cons,List.lookup] at h;by_cases e:a=b
  ·subst e
   simp only [beq_self_eq_true,Option.some.injEq] at h;exact ⟨0,by simp,by simp [h]⟩
  ·have hne:(a==b)=false:=by simpa using e
   simp only [hne] at h;obtain ⟨j,h1,h2⟩:=Wx as ps a p h;exact ⟨j+1,by simpa using h1,by simpa using h2⟩
section
variable {X:Cx}
def xG (K:W.Frag) (ta:TA):TE:=fun σ H Q=>ta σ H fun vs H1=>∃ a b xs ys,vs=[.ref a,.ref b]/\aK K H1 a xs/\aK K H1 b ys/\xs.length=ys.length /\
 ∀ (l:Addr) (as:List Addr) (H2:Hp),H1 l=none->Yf H1 H2->H2 l=some (.lst (as.map V.ref))->as.length=xs.length ->
  (∀ (j:Nat) a x y,as[j]?=some a->xs[j]?=some x->ys[j]?=some y->H1 a=none/\H2 a=some (.tup [x,y]))->Q (.ref l) H2
theorem QJ:∀ as:List Addr,Yt (as.map V.ref) (as.map Value.ref)
 | [] => .nil
 | _::as => .cons rfl (QJ as)
theorem Gk:∀ {xs:List V} {us:List Value},Yt xs us->∀ {j:Nat} {x:V},xs[j]?=some x->∃ u,us[j]?=some u/\Yw x u:=by
 intro xs us h
 induction h with
 | nil=>intro j x e;simp at e
 | cons r _ ih =>
  intro j x e
  cases j with
  | zero=>simp only [List.getElem?_cons_zero,Option.some.injEq] at e;subst e;exact ⟨_,rfl,r⟩
  | succ j=>simpa using ih (by simpa using e)
theorem Rt {a b:Expr} {ta:TA} {p q pos pos':Pos} (Ru:Gl X "list") (hml:X.mg "list"=none) (hg:Gl X "zip") (hm:X.mg "zip"=none) (ha:PA X [a,b] ta) (hc:X.calm=true)
  (hs:starEach [a,b] X.env=[(false,eval a X.env),(false,eval b X.env)]) (hs2:starEach [b] X.env=[(false,eval b X.env)]) :
  PE X (.Call (.Name "list" p) [.Call (.Name "zip" q) [a,b] [] pos'] [] pos) (xG X.K ta):=by
 intro pins s σ H Q I h;refine wpAny_Call_Name_kw (X4 I Ru hml boot_list ?_);refine PyProof.Rows.callWith_type1 ?_
 show wpAny _ _ (spliced ((false,eval (.Call (.Name "zip" q) [a,b] [] pos') X.env)::[])) _ _ s
 refine Calls.spliced_cons ?_;refine wpAny_Call_Name_kw (X4 I hg hm boot_zip (PyProof.Rows.callWith_type1 (aM (ha pos' pins s σ H _ I h) fun us s1 ⟨vs,H1,I1,r1,q1⟩=>?_) (by rw [hs,hs2]) (by rw [hs2];rfl)));obtain ⟨x,y,xs,ys,e,hx,hy,hl,q⟩:=q1;subst e;obtain ⟨u,v,rfl,ru,rv⟩:=r1.two
 cases ru
 cases rv
 obtain ⟨i1,w1,ht1,z1⟩:=I1.tuple hx;obtain ⟨i2,w2,dG,z2⟩:=I1.tuple hy;have l1:x<s1.heap.objs.size:=by obtain ⟨_,e,_⟩:=ht1;exact Heap.lt_size e
 have l2:y<s1.heap.objs.size:=by obtain ⟨_,e,_⟩:=dG;exact Heap.lt_size e
 refine QG (XU ht1) (XU dG) rfl rfl fun h1 hz hTI hTO g1 g2 hsz keep=>?_
 refine Calls.spliced_nil ?_;have I2:Inv X pins σ H1 { s1 with heap:=h1 }:=I1.kept (t':=s1.toks) keep;have n1:x∉[s1.heap.objs.size+4,s1.heap.objs.size+3,s1.heap.objs.size,s1.heap.objs.size+1]:=by
  intro hm;simp only [List.mem_cons,List.not_mem_nil,or_false] at hm;rcases hm with e | e | e | e<;>(have e':@Eq Nat _ _:=e;have wR:@LT.lt Nat _ x s1.heap.objs.size:=l1;omega)
 have n2:y∉[s1.heap.objs.size+4,s1.heap.objs.size+3,s1.heap.objs.size,s1.heap.objs.size+1]:=by
  intro hm;simp only [List.mem_cons,List.not_mem_nil,or_false] at hm;rcases hm with e | e | e | e<;>(have e':@Eq Nat _ _:=e;have wR:@LT.lt Nat _ y s1.heap.objs.size:=l2;omega)
 have t1:h1.IsTuple x i1.toArray:=by obtain ⟨o,e,r⟩:=ht1;exact ⟨o,keep _ _ e,r⟩
 have t2:h1.IsTuple y i2.toArray:=by obtain ⟨o,e,r⟩:=dG;exact ⟨o,keep _ _ e,r⟩
 have e1:=w1.length;have e2:=w2.length;refine QR (s:={ s1 with heap:=h1 }) (xs:=i1) (ys:=i2) (I2.ok.hd hc) (UK s1.heap.objs.size) n1 n2 (by omega) (by omega) hz hTI hTO ⟨_,g1,rfl,rfl⟩ ⟨_,g2,rfl,rfl⟩ t1 t2 fun h' tk acc c as kp hS hacc hG=>?_
 let H2:Hp:=fun b=>if b=h1.objs.size then some (.lst (as.map V.ref)) else match (as.zip (xs.zip ys)).lookup b with | some p=>some (.tup [p.1,p.2]) | none=>H1 b
 have fr:∀ b,h1.objs.size<=b->H1 b=none:=fun b hb=>I2.hok.fresh hb
 have old:∀ b u,H1 b=some u->b<h1.objs.size:=fun b u e=>Nat.lt_of_not_le fun hb=>by rw [fr b hb] at e;cases e
 have lk:∀ b p,(as.zip (xs.zip ys)).lookup b=some p->h1.objs.size+1<=b:=fun b p e=>by
  obtain ⟨j,h1,_⟩:=Wx _ _ _ _ e;exact hG.above b (List.mem_of_getElem? h1)
 have up:∀ b u,H1 b=some u->H2 b=some u:=fun b u e=>by
  have hb:=old b u e
  show (if b=h1.objs.size then _ else _)=_
  rw [if_neg (Nat.ne_of_lt hb)]
  cases e':(as.zip (xs.zip ys)).lookup b with
  | none=>exact e
  | some p=>exact absurd (Nat.lt_of_succ_le (lk b p e')) (Nat.not_lt.mpr (Nat.le_of_lt hb))
 have Rv:∀ (j:Nat) a x y,as[j]?=some a->xs[j]?=some x->ys[j]?=some y->H2 a=some (.tup [x,y]):=fun j a x y h1' h2 h3=>by
  have ha:h1.objs.size+1<=a:=hG.above a (List.mem_of_getElem? h1')
  show (if a=h1.objs.size then _ else _)=_
  have Rx:(xs.zip ys)[j]?=some (x,y):=List.getElem?_zip_eq_some.mpr ⟨h2,h3⟩;rw [if_neg (Nat.ne_of_gt (Nat.lt_of_succ_le ha)),VB as (xs.zip ys) j a (x,y) hG.rise h1' Rx]
 have hS2:H2 h1.objs.size=some (.lst (as.map V.ref)):=if_pos rfl;have hlen:as.length=xs.length:=by rw [hG.len];omega
 have I3:Inv X pins σ H2 { s1 with heap:=h',toks:=tk }:=by
  refine I2.vB (s:={ s1 with heap:=h1 }) (ch:=[s1.heap.objs.size+4,s1.heap.objs.size+3,s1.heap.objs.size,s1.heap.objs.size+1]) kp (fun b hb=>?_) up (fun b u e hn=>?_)
  ·have hle:s1.heap.objs.size<=b:=by
    simp only [List.mem_cons,List.not_mem_nil,or_false] at hb;rcases hb with e | e | e | e<;>(have e':@Eq Nat _ _:=e;show @LE.le Nat _ s1.heap.objs.size b;omega)
   exact I1.fB hle (I1.hok.fresh hle)
  ·by_cases hb:b=h1.objs.size
   ·subst hb
    rw [hS2] at e
    cases e
    refine ⟨Nat.le_refl _,(by rw [List.length_map];omega),as.map Value.ref,c,QJ as,?_⟩;rw [<- hacc];exact hS
   ·have e0:(match (as.zip (xs.zip ys)).lookup b with | some p=>some (HO.tup [p.1,p.2]) | none=>H1 b)=some u:=by
     have:H2 b=_:=if_neg hb;rw [<- this];exact e
    cases e':(as.zip (xs.zip ys)).lookup b with
    | none=>rw [e'] at e0;rw [hn] at e0;cases e0
    | some p =>
     rw [e'] at e0
     cases e0
     refine ⟨Nat.le_of_succ_le (lk b p e'),(show (2:Nat)<=sizeLine by decide),?_⟩;obtain ⟨j,j1,j2⟩:=Wx _ _ _ _ e';obtain ⟨k1,k2⟩:=List.getElem?_zip_eq_some.mp j2;obtain ⟨u1,f1,r1⟩:=Gk w1 k1;obtain ⟨u2,f2,r2⟩:=Gk w2 k2;exact ⟨[u1,u2],.cons r1 (.cons r2 .nil),⟨_,hG.pairs j b u1 u2 j1 f1 f2,rfl,_,rfl⟩⟩
 exact ⟨.ref h1.objs.size,H2,I3,rfl,q _ as H2 (fr _ (Nat.le_refl _)) up hS2 hlen fun j a x y k1 k2 k3=>⟨fr a (Nat.le_of_succ_le (hG.above a (List.mem_of_getElem? k1))),Rv j a x y k1 k2 k3⟩⟩
end
section
variable {src:List (Option Nat)} {te:TE} {σ:St} {H:Hp} {Q:VK}
theorem Ry {J:It} {P:Hp->Prop} {xs:List V} (hJ:XM J P xs) {H1:Hp} {D:Addr} (ts:List (List V)) (hP:∀ H',Yf H1 H'->P H') (hD:H1 D=none) (hl:ts.length=xs.length) (hlen:xs.length<=100000)
  (step:∀ (i:Nat) x t H',xs[i]?=some x->ts[i]?=some t->Yf H1 H'->∀ R:VK,(∀ a aO,Yf H' aO->aO a=some (.tup t)->R (.ref a) aO)->te (some x::YH src σ) H' R)
  (fin:∀ (as:List Addr) H',Yf H1 H'->H' D=some (.lst (as.map V.ref))->as.length=xs.length->(∀ (j:Nat) a t,as[j]?=some a->ts[j]?=some t->H' a=some (.tup t))->Q (.ref D) H'):LC (none::src) J (YJ 0) XO te σ H1 Q D:=by
 have h6:100000<sizeLine:=by decide
 refine UL hJ (fun i zs σ' H'=>∃ as:List Addr,zs=as.map V.ref/\as.length=i/\(∃ o,σ'=o::YH src σ)/\Yf H1 H'/\H' D=some (.lst zs)/\∀ (j:Nat) a t,as[j]?=some a->ts[j]?=some t->H' a=some (.tup t))
  ⟨[],rfl,rfl,⟨none,rfl⟩,.aG hD _,Yb,fun j a t h=>by simp at h⟩ (fun i zs σ' H' ⟨as,_,_,_,p1,p2,_⟩=>⟨hP _ p1,p2⟩) (X7 0) ?_ ?_
 ·rintro i zs σ' H' x hx ⟨as,rfl,hi',⟨o,rfl⟩,sm,hd,hts⟩
  have hi:=(List.getElem?_eq_some_iff.mp hx).1;have ht:ts[i]?=some (ts[i]'(by omega)):=List.getElem?_eq_getElem _
  show te (some x::YH src σ) H' _
  refine step i x _ H' hx ht sm _ fun a aO s2 ha=>⟨s2 _ _ hd,by rw [List.length_map];omega,as++[a],by simp,by simp [hi'],⟨_,rfl⟩,.cO hD (sm.trans s2) _,Yb,fun j b t hj hjt=>?_⟩
  have key:aO b=some (.tup t):=by
   rcases Nat.lt_trichotomy j as.length with h1 | h1 | h1
   ·rw [List.getElem?_append_left h1] at hj
    exact s2 _ _ (hts j b t hj hjt)
   ·have hb:a=b:=by subst h1;simpa using hj
    subst hb;rw [h1,hi'] at hjt
    rw [ht] at hjt
    cases hjt
    exact ha
   ·rw [List.getElem?_eq_none (by rw [List.length_append,List.length_singleton];omega)] at hj;cases hj
  rw [Yg (Xy key (s2 _ _ hd) (by intro z;cases z))];exact key
 ·rintro zs σ' H' ⟨as,rfl,hn,_,sm,hd,hts⟩
  exact fin as H' sm hd hn hts
theorem Rz {K:W.Frag} {tl:TE} {xs:List V} (ts:List (List V)) (ha:∀ R:V->Hp->Prop,(∀ a H1,Yf H H1->aJ K H1 a xs->R (.ref a) H1)->tl σ H R) (hl:ts.length=xs.length) (hlen:xs.length<=100000)
  (step:∀ (i:Nat) x t H',xs[i]?=some x->ts[i]?=some t->Yf H H'->∀ R:VK,(∀ a aO,Yf H' aO->aO a=some (.tup t)->R (.ref a) aO)->te (some x::YH src σ) H' R)
  (fin:∀ D (as:List Addr) H',H D=none->Yf H H'->H' D=some (.lst (as.map V.ref))->as.length=xs.length->(∀ (j:Nat) a t,as[j]?=some a->ts[j]?=some t->H' a=some (.tup t))->Q (.ref D) H'):eX (none::src) (XL K tl) (YJ 0) XO te σ H Q :=
 ha _ fun a H1 s1 hS=>⟨a,rfl,⟨xs,hS⟩,fun D hD=>Ry (XN.imp fun H' (e:Yf H1 H')=>e.seq hS) ts (fun _ e=>e) hD hl hlen (fun i x t H' hx ht sm R r=>step i x t H' hx ht (s1.trans sm) R r) fun as H' sm=>fin D as H' (s1.free hD) (s1.trans sm)⟩
end
def YI {α:Type}:Sem α->Prop
 | .pure _=>True
 | .raise _=>True
 | .unsupported _=>True
 | .rule _ k=>YI (k ())
 | .at _ k=>YI (k ())
 | .load _ _ k=>∀ o,YI (k o)
 | .update _ _ f k=>(∀ o:Obj,(f o).dict=o.dict/\(f o).isFreed=o.isFreed)/\YI (k ())
 | .alloc _ k=>∀ a,YI (k a)
 | .stack k=>∀ x,YI (k x)
 | _=>False
def Xt (h:Heap) (e:Addr) (dc:Option Addr):Prop:=∃ o,h.get? e=some o/\o.dict=dc
theorem RB {α β:Type} {f:α->Sem β} (m:Sem α):YI m->(∀ a,YI (f a))->YI (m.bind f):=by
 induction m with
 | pure a=>intro _ hf;exact hf a
 | raise e=>intro _ _;simp only [Sem.bind,YI]
 | unsupported e=>intro _ _;simp only [Sem.bind,YI]
 | rule n k ih=>intro h hf;simp only [YI] at h;simp only [Sem.bind,YI];exact ih () h hf
 | «at» n k ih=>intro h hf;simp only [YI] at h;simp only [Sem.bind,YI];exact ih () h hf
 | load a b k ih=>intro h hf;simp only [YI] at h;simp only [Sem.bind,YI];exact fun o=>ih o (h o) hf
 | update a b g k ih=>intro h hf;simp only [YI] at h;simp only [Sem.bind,YI];exact ⟨h.1,ih () h.2 hf⟩
 | alloc a k ih=>intro h hf;simp only [YI] at h;simp only [Sem.bind,YI];exact fun o=>ih o (h o) hf
 | stack k ih=>intro h hf;simp only [YI] at h;simp only [Sem.bind,YI];exact fun o=>ih o (h o) hf
 | _=>intro h;simp only [YI] at h
theorem RD {M:Model} {Γ:PySem.Ctx} {α:Type} {Q:α->Pos->Shared->Prop} {E:Value->Pos->Shared->Prop} {e:Addr} {dc:Option Addr} (t:Sem α):YI t->∀ (p:Pos) (s:Shared),Sem.wp M Γ t Q E p s->Xt s.heap e dc->Sem.wp M Γ t (fun a p s'=>Q a p s'/\Xt s'.heap e dc) (fun v p s'=>E v p s'/\Xt s'.heap e dc) p s:=by
 induction t with
 | pure a=>intro _ p s h d;simp only [Sem.wp] at h ⊢;exact ⟨h,d⟩
 | raise a=>intro _ p s h d;simp only [Sem.wp] at h ⊢;exact ⟨h,d⟩
 | unsupported a=>intro _ p s h d;simp only [Sem.wp] at h
 | rule n k ih=>intro t p s h d;simp only [YI] at t;simp only [Sem.wp] at h ⊢;exact ih () t p s h d
 | «at» n k ih=>intro t p s h d;simp only [YI] at t;simp only [Sem.wp] at h ⊢;exact ih () t n s h d
 | load a b k ih=>intro t p s h d;simp only [YI] at t;simp only [Sem.wp] at h ⊢;obtain ⟨o,h1,h2⟩:=h;exact ⟨o,h1,ih o (t o) p s h2 d⟩
 | update a b f k ih =>
  intro t p s h d;simp only [YI] at t;simp only [Sem.wp] at h ⊢;obtain ⟨o,d1,d2⟩:=d;refine ⟨h.1,ih () t.2 p _ h.2 ?_⟩;by_cases c:a=e
  ·subst c
   exact ⟨f o,Heap.get?_update_self f d1 (by rw [(t.1 o).2];exact (Heap.get?_some_iff.mp d1).2),by rw [(t.1 o).1];exact d2⟩
  ·exact ⟨o,(Heap.get?_update_other _ _ c).trans d1,d2⟩
 | alloc a k ih=>intro t p s h d;simp only [YI] at t;simp only [Sem.wp] at h ⊢;obtain ⟨o1,d1,d2⟩:=d;exact ih _ (t _) p _ h ⟨o1,Heap.get?_push_of_some _ d1,d2⟩
 | stack k ih=>intro t p s h d;simp only [YI] at t;simp only [Sem.wp] at h ⊢;exact ih _ (t _) p s h d
 | _=>intro t;simp only [YI] at t
theorem Ur {M:Model} {A:Around} {α:Type} {t:Sem α} {Q:α->Shared->Prop} {E:Value->Shared->Prop} {s:Shared} {e:Addr} {dc:Option Addr} (T:YI t) (d:Xt s.heap e dc) (h:wpAny M A t Q E s):wpAny M A t (fun a s'=>Q a s'/\Xt s'.heap e dc) (fun v s'=>E v s'/\Xt s'.heap e dc) s :=
 fun Γ p hΓ=>RD t T p s (h Γ p hΓ) d
theorem YS {α β:Type} {m:Sem α} {f:α->Sem β} (h:YI m) (hf:∀ a,YI (f a)):YI (m >>= f):=RB m h hf
theorem Vf {α:Type} (a:α):YI (pure a:Sem α):=trivial
theorem RG {α:Type} (x:String):YI (unsupported x:Sem α):=trivial
theorem RJ:YI stack:=fun _=>trivial
theorem RL (a:Addr) (f:Obj->Obj) (h:∀ o:Obj,(f o).dict=o.dict/\(f o).isFreed=o.isFreed):YI (update a f):=⟨h,trivial⟩
theorem QS (v:Value):YI (fieldsOf v):=by
 unfold fieldsOf
 cases v<;>first | trivial | skip
 refine YS (fun o=>trivial) fun o=>?_
 cases o.data<;>trivial
theorem WD (v:Value) (i:Nat):YI (field v i):=by
 unfold field;refine YS (QS v) fun vs=>?_
 cases vs[i]?<;>trivial
theorem Le (f:Array Value->Array Value) (o:Obj):(Obj.mapFields f o).dict=o.dict/\(Obj.mapFields f o).isFreed=o.isFreed:=by
 obtain ⟨c,d,dt,sl⟩:=o
 cases dt<;>exact ⟨rfl,rfl⟩
theorem Us (a:Addr) (i:Nat) (v:Value):YI (updateField a i v):=by
 unfold updateField;refine YS (fun o=>trivial) fun o=>?_
 cases o.data with
 | fields vs =>
  dsimp only
  split
  ·exact ⟨Le _,trivial⟩
  ·trivial
 | _=>trivial
theorem XV (v:Value) (i:Nat) (x:Value):YI (setField v i x):=by
 unfold setField
 cases v<;>first | trivial | exact Us _ _ _
theorem Qc (v:Value) (f:Option Addr):YI (setFlight v f):=by
 unfold setFlight;refine YS (WD _ _) fun tb=>?_
 split
 ·exact XV _ _ _
 ·trivial
theorem QT (env:Env) (b:Bool) (l:List Env):YI (keptBack env b l):=by
 cases l with
 | nil =>
  rw [keptBack];by_cases c:(env.scope.isGenerator||env.scope.isCoroutine)=true
  ·rw [if_pos c];exact Vf _
  ·rw [if_neg c]
   refine YS ?_ fun x=>Vf _
   unfold underTheClaimsCaller;exact YS RJ fun x=>Vf _
 | cons x r=>rw [keptBack];exact Vf _
theorem UP:∀ l:List Env,YI (readyFrames l)
 | []=>trivial
 | env::outer=>by
  unfold readyFrames
  cases env.frame with
  | none=>trivial
  | some f =>
   dsimp only;refine YS (fun o=>trivial) fun o=>?_
   split
   ·trivial
   ·refine YS ?_ fun b=>YS (QT _ _ _) fun k=>YS (RL _ _ fun o=>by obtain ⟨c,d,dt,sl⟩:=o;cases dt<;>exact ⟨rfl,rfl⟩) fun _=>UP outer
    unfold behindIsImport
    split
    ·trivial
    ·split
     ·trivial
     ·exact YS (WD _ _) fun x=>trivial
theorem VM (env:Env):YI (PySem.frameOf env):=by
 unfold PySem.frameOf frameEnvs;refine YS (YS (fun x=>trivial) fun x=>trivial) fun l=>?_
 generalize l.dropWhile _=l';refine YS ?_ fun r=>?_
 ·cases l' with
  | nil=>trivial
  | cons x r =>
   unfold frameObject;exact YS (UP _) fun _=>trivial
 ·cases r<;>trivial
theorem Qd (ty:String) (vs:List Value):YI (newFields ty vs):=by
 unfold newFields newObj;dsimp only
 split
 ·exact YS (RG _) fun _=>YS (fun _=>trivial) fun _=>Vf _
 ·exact YS (m:=alloc _) (fun _=>trivial) fun _=>Vf _
theorem VC (a b c d e:Value) (pl:List Value):YI (EntryCells.newEntry a b c d e pl):=Qd _ _
theorem UQ (f:Addr) (b:Bool):YI (entryPlaceOf f b):=by
 unfold entryPlaceOf;refine YS (fun x=>trivial) fun l=>?_
 split<;>trivial
theorem Qe (e:Value) (env:Env):YI (noteFrame e env):=by
 unfold noteFrame
 cases env.frame with
 | none=>trivial
 | some f =>
  dsimp only;refine YS (WD _ _) fun hd=>?_
  split
  ·refine YS (WD _ _) fun x=>?_
   split
   ·trivial
   ·exact YS (XV _ _ _) fun _=>YS (VM _) fun _=>YS (UQ _ _) fun _=>YS (VC _ _ _ _ _ _) fun _=>XV _ _ _
  ·exact YS (VM _) fun _=>YS (UQ _ _) fun _=>YS (VC _ _ _ _ _ _) fun _=>XV _ _ _
theorem WO (env:Env) (e:Value):YI (leaving env e):=by
 unfold leaving;exact YS (Qe _ _) fun _=>Qc _ _
structure cN (P:Program) (w:World) (l:List Env) (H:Hp) (h:Heap) (e:Addr) (cls:Value) (H':Hp) (h' B:Heap):Prop where
 fl:∃ a0,Heap.FlyingW B l e cls a0 h'
 hok:aY P w H' B
 keep:∀ b o,h.get? b=some o->H b=none->b∉frs l->B.get? b=some o
 slot:∀ b o,h.get? b=some o->H b=none->b∈frs l->∃ sl,h'.get? b=some { o with slots:=sl }
 al:∀ b o,h.get? b=some o->b∉frs l->∃ o',B.get? b=some o'
 free:∀ b o,h.get? b=some o->H b=none->H' b=none
 tups:∀ b xs,H b=some (.tup xs)->H' b=some (.tup xs)
 bx:∀ b o u,H b=some (.bC o u)->H' b=some (.bC o u)
 bI:∀ b ps,H b=some (.aV ps)->∃ more,H' b=some (.aV (ps++more))
section
variable {P:Program} {w:World} {l:List Env} {H H':Hp} {h h' h'' B:Heap} {e:Addr} {cls:Value}
theorem cN.un (F:cN P w l H h e cls H' h' B) (hf:∀ b∈frs l,H b=none):Un (frs l) [] H H' h h':=by
 obtain ⟨a0,fl⟩:=F.fl;refine ⟨fun b o q n hb _=>fl.1 b o (F.keep b o q n hb),fun b o q n hb _=>F.slot b o q n hb,fun b o q n _=>F.free b o q n,fun b o q _=>?_,F.tups,F.bx,F.bI⟩;by_cases hb:b∈frs l
 ·obtain ⟨sl,z⟩:=F.slot b o q (hf b hb) hb
  exact ⟨_,z⟩
 ·obtain ⟨o',z⟩:=F.al b o q hb
  exact ⟨o',fl.1 b o' z⟩
theorem cN.held (F:cN P w l H h e cls H' h' B):aY P w H' h':=by
 obtain ⟨a0,fl⟩:=F.fl;exact F.hok.kept fl.1
theorem cN.on (F:cN P w l H h e cls H' h' B) (fl:∃ a0,Heap.FlyingW B l e cls a0 h'') (nf:∀ b∈frs l,∀ o,h.get? b=some o->∀ vs,o.data ≠ .fields vs) (sm:h'.UpToSlots h''):cN P w l H h e cls H' h'' B :=
 ⟨fl,F.hok,F.keep,fun b o q n hb=>by
  obtain ⟨sl,z⟩:=F.slot b o q n hb;obtain ⟨sl',z'⟩:=sm b _ z (nf b hb o q);exact ⟨sl',z'⟩,F.al,F.free,F.tups,F.bx,F.bI⟩
end
section
variable {X:Cx} {pins:List (Addr×Obj)} {σ:St} {H H':Hp} {s s':Shared} {h' B:Heap} {e:Addr} {cls:Value} {M:Model} {A:Around} {Q:Unit->Shared->Prop} {EE:Value->Shared->Prop}
theorem Inv.Lf (I:Inv X pins σ H s) {b:Addr} {o:Obj} (q:X.s₀.heap.get? b=some o):b≠X.env.locals:=Nat.ne_of_lt (Nat.lt_of_lt_of_le (Heap.lt_size q) I.ok.above)
theorem Inv.fD (I:Inv X pins σ H s) (hf:X.env.frame=some X.env.locals) {b:Addr} {o:Obj} (q:X.s₀.heap.get? b=some o) (n:b∉X.fs):b∉frs (X.env::X.outer):=fun z=>by
 unfold frs at z;rw [List.filterMap_cons,hf] at z
 rcases List.mem_cons.mp z with z | z
 ·exact I.Lf q z
 ·exact n z
theorem Inv.Cv (I:Inv X pins σ H s) (hf:X.env.frame=some X.env.locals) {b:Addr} (n:b∈X.fs):b∈frs (X.env::X.outer):=by
 unfold frs;rw [List.filterMap_cons,hf];exact List.mem_cons_of_mem _ n
theorem Inv.nQ {vs:List Value} (I:Inv X pins σ H s) (hs:X.stack=X.env::X.outer) (hf:X.env.frame=some X.env.locals) (hex:X.ex=[]) (hA:A.frames=some (X.env::X.outer)) (hm:Heap.MadeExcOf s.heap h' e cls vs)
  (hQ:∀ h'' B,cN X.prog X.w X.outer X.H₀ X.s₀.heap e cls H h'' B->Xt h'' e none->Q () { s with heap:=h'' }):wpAny M A (leaving X.env (.ref e)) Q EE { s with heap:=h' }:=by
 have nx:∀ b:Addr,b∉X.ex:=by
  rw [hex];intro b z
  cases z
 have st:=I.stack;have sf:=I.dZ;rw [hs] at st sf
 have hd0:Xt h' e none:=by
  obtain ⟨t,he,_⟩:=hm.there;exact ⟨_,he,rfl⟩
 refine wpAny_mono (Ur (WO _ _) (s:={ s with heap:=h' }) hd0 (wpAny_leaves_madeW (Q:=fun _ s'=>∃ h'',s'={ s with heap:=h'' }/\cN X.prog X.w X.outer X.H₀ X.s₀.heap e cls H h'' (PySem.W.hideAll s.heap (frs (X.env::X.outer)))) (base:=PySem.W.hideAll s.heap (frs (X.env::X.outer))) (h:=s.heap) hA hf (fun b o q=>PySem.W.of_hideAll _ q) (PySem.W.funFrames_hide st fun env he a ha=>List.mem_filterMap.mpr ⟨env,he,ha⟩) hm fun h'' t x1 x2 x3 x4=>⟨h'',rfl,?_⟩)) (fun _ s' z=>by
  obtain ⟨⟨h'',rfl,F⟩,d⟩:=z;exact hQ h'' _ F d) fun _ _ z=>z.1
 refine ⟨⟨_,x1⟩,fun b u q=>?_,fun b o q n nb=>PySem.W.hideAll_get _ (I.base.keep b o q n nb (nx b)) (I.fD hf q nb),fun b o q n hb=>?_,fun b o q nb=>?_,fun b o q n=>I.base.free b o q n (nx b),I.base.tups,I.base.bx,I.base.bI⟩
 ·refine (I.hok b u q).stay (fun c v hc r=>PySem.W.hideAll_get _ r fun z=>?_) (fun _ z=>z) fun _ _ z=>z
  have n:=sf c z;rcases hc with rfl | hc
  ·rw [n] at q;cases q
  ·rw [n] at hc;cases hc
 ·obtain ⟨sl,e1⟩:=I.base.slot b o q n hb (nx b)
  obtain ⟨_,o',e',d⟩:=I.ok.bN.mem hb;rw [q] at e'
  cases e'
  obtain ⟨sl',e2⟩:=x4 b _ (hm.keeps b _ e1) d;exact ⟨sl',e2⟩
 ·obtain ⟨o',e1⟩:=I.base.there b o q (nx b)
  exact ⟨o',PySem.W.hideAll_get _ e1 (I.fD hf q nb)⟩
theorem Inv.rA (I:Inv X pins σ H s) (hs:X.stack=X.env::X.outer) (hf:X.env.frame=some X.env.locals) (hex:X.ex=[]) (hA:A.frames=some (X.env::X.outer)) (F:cN X.prog X.w X.stack H s.heap e cls H' s'.heap B) {dc:Option Addr} (hd:Xt s'.heap e dc)
  (hQ:∀ h'',cN X.prog X.w X.outer X.H₀ X.s₀.heap e cls H' h'' B->Xt h'' e dc->Q () { s' with heap:=h'' }):wpAny M A (leaving X.env (.ref e)) Q EE s':=by
 have nx:∀ b:Addr,b∉X.ex:=by
  rw [hex];intro b z
  cases z
 rw [hs] at F
 obtain ⟨a0,fl⟩:=F.fl;refine wpAny_mono (Ur (WO _ _) hd (wpAny_leaves_onW (Q:=fun _ s2=>∃ h'',s2={ s' with heap:=h'' }/\cN X.prog X.w X.outer X.H₀ X.s₀.heap e cls H' h'' B) hA hf fl fun h'' x1 x2=>⟨h'',rfl,?_⟩)) (fun _ s2 z=>by
  obtain ⟨⟨h'',rfl,F⟩,d⟩:=z;exact hQ h'' F d) fun _ _ z=>z.1
 refine ⟨⟨_,x1⟩,F.hok,fun b o q n nb=>F.keep b o (I.base.keep b o q n nb (nx b)) (I.base.free b o q n (nx b)) (I.fD hf q nb),fun b o q n hb=>?_,fun b o q nb=>?_,fun b o q n=>?_,fun b xs q=>F.tups b xs (I.base.tups b xs q),fun b o u q=>F.bx b o u (I.base.bx b o u q),fun b ps q=>?_⟩
 ·obtain ⟨sl,e1⟩:=I.base.slot b o q n hb (nx b)
  obtain ⟨sl1,e2⟩:=F.slot b _ e1 (I.base.free b o q n (nx b)) (I.Cv hf hb);obtain ⟨_,o',e',d⟩:=I.ok.bN.mem hb;rw [q] at e'
  cases e'
  obtain ⟨sl',e3⟩:=x2 b _ e2 d;exact ⟨sl',e3⟩
 ·obtain ⟨o',e1⟩:=I.base.there b o q (nx b)
  exact F.al b o' e1 (I.fD hf q nb)
 ·obtain ⟨o',e1⟩:=I.base.there b o q (nx b)
  exact F.free b o' e1 (I.base.free b o q n (nx b))
 ·obtain ⟨m1,e1⟩:=I.base.bI b ps q
  obtain ⟨m2,e2⟩:=F.bI b _ e1;exact ⟨m1++m2,by rw [e2,Array.append_assoc]⟩
end
def j8 (P:Program) (w:World):dD:=fun l H s E e s'=>∃ (a:Addr) (cls:Value) (H':Hp) (B:Heap) (dc:Option Addr),e = .ref a/\s'.os=s.os/\AllBare s'.gens/\cN P w l H s.heap a cls H' s'.heap B/\Xt s'.heap a dc/\E cls dc H'
abbrev Gx.bZ (g:Gx) (N:List Str) (qual:Str) (st:Stmt) (f:Addr) (cdv:Value) (A:Around) (outer:List Env) (s:Shared) (H:Hp) (E:XK):Cx:=We (j8 g.P g.w) g.P g.w g.K g.mg g.base N qual (Yh st) f cdv A outer s H E
section
variable {g:Gx} {N:List Str} {qual:Str} {st:Stmt} {f:Addr} {cdv:Value} {A:Around} {outer:List Env} {s:Shared} {H:Hp} {E:XK}
theorem Xr:XS (j8 g.P g.w) (g.bZ N qual st f cdv A outer s H E) E:=by
 intro pins σ H1 s1 e s' I hq;obtain ⟨a,cls,H',B,dc,he,os,bare,F,hd,q⟩:=hq;subst he;exact I.rA rfl rfl rfl I.ok.frames F hd fun h'' F' hd'=>⟨a,cls,H',B,dc,rfl,os.trans I.os,bare,F',hd',q⟩
def Gm (X:Cx) (E:XK):Prop:=∀ (pins:List (Addr×Obj)) (σ:St) (H:Hp) (s:Shared) (h':Heap) (e:Addr) (cls:Value) (vs:List Value),Inv X pins σ H s->Heap.MadeExcOf s.heap h' e cls vs->E cls none H->X.xe (.ref e) { s with heap:=h' }
theorem RM:Gm (g.bZ N qual st f cdv A outer s H E) E:=by
 intro pins σ H1 s1 h' e cls vs I hm q;exact I.nQ rfl rfl rfl I.ok.frames hm fun h'' B F hd=>⟨e,cls,H1,B,none,rfl,I.os,I.bare,F,hd,q⟩
end
def Gx.bD (g:Gx) (k:Nat) (x:Str) (ps:List Str) (sp:Sp):Prop:=∃ f fd,aW g.P g.w g.K g.mg g.base (j8 g.P g.w) k f fd ps sp/\Y7 g.K fd ps []/\W.keepIn g.K (.ref f)=true/\g.mg x=some (.ref f)
def Cw (g:Gx) (k:Nat) (N:List Str) (qual:Str) (st:Stmt) (sp:Sp):Prop:=∀ (f:Addr) (cdv:Value) (A:Around) (outer:List Env) (s:Shared) (H:Hp) (vs:List V) (Q:VK) (E:XK),aQ k (g.bZ N qual st f cdv A outer s H E).A->sp vs H Q E ->
 ∃ t,cD (g.bZ N qual st f cdv A outer s H E) (YR st) t/\t { nx:=fun _ H'=>Q .non H',rt:=Q } (Xi N vs) H
section
variable {g:Gx} {k:Nat} {x qual m:Str} {st:Stmt} {N ps:List Str} {sp:Sp} {C:Addr}
theorem Gx.Raw.fnX (R:g.Raw x qual st ps) (S:aH N ps (Yh st)) (len:∀ vs H Q E,sp vs H Q E->vs.length=ps.length) (b:Cw g k N qual st sp):g.bD (k+1) x ps sp:=by
 obtain ⟨f,fd,F,bd,hm⟩:=R;refine ⟨f,fd,?_,bd,F.kp,hm⟩;obtain ⟨oc,od,kV,doc,pm,an,cdv,ct,osl,rfl,lk,hcd⟩:=F.ex;exact Q5 lk hcd S len fun A outer s H vs Q E hr h=>b f cdv A outer s H vs Q E hr h
theorem Gx.bD.mono {j:Nat} (F:g.bD j x ps sp) (h:j<=k):g.bD k x ps sp:=by
 obtain ⟨f,fd,F,r⟩:=F;exact ⟨f,fd,F.mono h,r⟩
theorem Gx.Raw.tW (R:g.Raw x qual st ps) (no:∀ vs H Q E,¬ sp vs H Q E):g.bD k x ps sp:=by
 obtain ⟨f,fd,F,bd,hm⟩:=R;exact ⟨f,fd,⟨fun vs H Q E h=>absurd h (no vs H Q E),fun A outer s H args us vs Q E _ _ _ _ h=>absurd h (no vs H Q E)⟩,bd,F.kp,hm⟩
end
section
variable {g:Gx} {X:Cx} {k j:Nat} {x:Str} {ps:List Str} {sp:Sp} {E:XK} {e:Expr} {es:List Expr} {t:TA} {p pos cpos np:Pos}
theorem Xg (F:g.bD j x ps sp) (hr:aQ k X.A) (hp:XS (j8 g.P g.w) X E) (ha:PA X (e::es) t) (hj:j<=k) (hX:X.gx=g) (hg:Gl X x) (hdb:(x==("__debug__":Str))=false)
  (he:starEach (e::es) X.env=(false,eval e X.env)::starEach es X.env) (hpl:(backTo pos (starEach es X.env)).any (·.1)=false):PE X (.Call (.Name x p) (e::es) [] pos) (UG sp [] E t):=by
 subst hX;obtain ⟨f,fd,F,b,kp,hm⟩:=F;exact Eo F (hr.mono hj) hg hm kp b .nil hp ha hdb he hpl
theorem PS.bA {st:Stmt} {t:TS} (h:PS X.bA st t):PS X st t:=fun pins s σ H D I hw =>
 wpAny_mono (h pins s σ H D (I.wish _) hw) (fun _ _ q=>q.bO) fun _ _ z=>False.elim z
abbrev WP:List Value:=[.type "ValueError",.type "Exception",.type "BaseException",.type "object"]
structure Gx.Exc (g:Gx) (x:Str) (C:Addr):Prop where
 bound:g.mg x=some (.ref C)
 own:W.excIn g.K C WP "ValueError.__new__"=true
theorem RN {K:W.Frag} {h:Heap} {C:Addr} {tl:List Value} {nw:String} (In:K.In h) (q:W.excIn K C tl nw=true) :
  ∃ (bm:List Value) (ns:Addr) (nm qn:Str) (bs:List Value) (hd:Bool) (sn:List Str) (sub:List Value) (ab:Bool) (col:Option Bool) (dd:Option Addr) (k0 k1 k2 k3 k5:Option Value) (mN:Str->Option Value),
   h.get? C=some (excClassObj nm qn C ns bs bm hd sn sub ab col dd k0 k1 k2 k3 k5 nw)/\h.Ns ns mN/\mN "__init__"=none/\OwnTail h tl bm:=by
 unfold W.excIn at q
 split at q
 case h_2=>exact absurd q (by decide)
 case h_1 dd cd sl lk =>
  split at q
  case h_2=>exact absurd q (by decide)
  case h_1 c2 bm k0 k1 k2 k3 n k5 em es =>
   simp only [beq_iff_eq,Bool.and_eq_true,Bool.not_eq_true'] at q;obtain ⟨⟨⟨⟨⟨q1,q2⟩,q3⟩,q4⟩,q5⟩,q6⟩:=q;obtain ⟨nm,bs,mro,ns,qn,hd,sn,sub,ab,col,del⟩:=cd;obtain ⟨lst⟩:=sl;dsimp only at em q3 q5 q6 es;subst q1 q2 em q3 es;exact ⟨bm,ns,nm,qn,bs,hd,sn,sub,ab,col,dd,k0,k1,k2,k3,k5,_,In _ _ lk,.of_isNs (W.isNs_of_in In q5),W.nsMap_none_of_in In q5 q6,W.tail_of_in In q4⟩
def xH (C:Addr) (E:XK) (t:TA):TS:=fun _ σ H=>t σ H fun vs H1=>vs.length<=sizeLine/\E (.ref C) none H1
theorem RP {C:Addr} (hC:g.Exc x C) (hR:Gm X E) (ha:PA X (e::es) t) (hc:X.calm=true) (hX:X.gx=g) (hg:Gl X x) (hdb:(x==("__debug__":Str))=false)
  (he:starEach (e::es) X.env=(false,eval e X.env)::starEach es X.env) (hpl:(backTo cpos (starEach es X.env)).any (·.1)=false) :
  PS X (.Raise (some (.Call (.Name x np) (e::es) [] cpos)) none pos) (xH C E t):=by
 subst hX;intro pins s σ H D I h;obtain ⟨bm,ns,nm,qn,bs,hd,sn,sub,ab,col,dd,k0,k1,k2,k3,k5,mN,hO,hN,hni,T⟩:=RN I.mod.dX hC.own;refine wpAny_Raise_call_subT (C:=C) (nm:=nm) (q:=qn) (N:=ns) (bs:=bs) (bm:=bm) (hdct:=hd) (sn:=sn) (sub:=sub) (ab:=ab) (col:=col) (dd:=dd) (k0:=k0) (k1:=k1) (k2:=k2) (k3:=k3) (k5:=k5)
  F.excBase_ValueError (mN:=mN) (T.hasType F.excBase_ValueError.hasBase) (I.ok.hd hc) ?_ hni (XC I hg hC.bound ⟨rfl,?_⟩ hdb)
 ·rw [he]
  show (false||(backTo cpos (starEach es X.env)).any (·.1))=false
  rw [hpl];rfl
 ·have a1:=ha cpos pins s σ H _ I h
  rw [he] at a1 ⊢
  refine Calls.evalArgs_plain (wpAny_mono a1 (fun us s2 hz=>?_) fun _ _ y=>y);obtain ⟨vs,H2,I2,r,q1,q2⟩:=hz;exact ⟨rfl,by rw [<- r.length];exact q1,I2.bk _ _ hO,hN.keeps I2.bk,T.keeps I2.bk,fun h' e hm=>hR pins σ H2 s2 h' e _ us I2 hm q2⟩
end
abbrev Cx.caught (X:Cx) (e:Addr):Cx:={ X with A:=X.A.mark (some (.ref e)),calm:=false,xe:=fun _ _=>False }
section
variable {X:Cx} {pins:List (Addr×Obj)} {σ:St} {H H' H1:Hp} {s s1 s':Shared} {e:Value} {D:Ends} {ts:TS} {b₀:Stmt} {suite:List Stmt} {c:Str} {cv:Value} {cp hpos:Pos}
theorem Inv.caught (I:Inv X pins σ H s) (a:Addr):Inv (X.caught a) pins σ H s :=
 ⟨⟨I.ok.mod,I.ok.kind,I.ok.glob,I.ok.blt,I.ok.above,I.ok.inj,I.ok.has,I.ok.cab,fun z=>(by cases z),I.ok.frames,I.ok.stk,I.ok.rR,I.ok.bs,I.ok.dO,I.ok.gk,I.ok.iI,I.ok.bN,I.ok.dY⟩,I.os,I.bare,I.base,I.loc,I.cell,I.free,I.aX,I.pin,I.hok,I.len⟩
theorem Inv.uncaught {a:Addr} (hd:X.calm=true->X.A.handled=none) (I:Inv (X.caught a) pins σ H s):Inv X pins σ H s :=
 ⟨⟨I.ok.mod,I.ok.kind,I.ok.glob,I.ok.blt,I.ok.above,I.ok.inj,I.ok.has,I.ok.cab,hd,I.ok.frames,I.ok.stk,I.ok.rR,I.ok.bs,I.ok.dO,I.ok.gk,I.ok.iI,I.ok.bN,I.ok.dY⟩,I.os,I.bare,I.base,I.loc,I.cell,I.free,I.aX,I.pin,I.hok,I.len⟩
theorem SP.uncaught {a:Addr} {f:Flow} (hd:X.calm=true->X.A.handled=none) (h:SP (X.caught a) pins D f s):SP X pins D f s:=by
 cases f with
 | next=>obtain ⟨σ',H',I,q⟩:=h;exact ⟨σ',H',I.uncaught hd,q⟩
 | brk=>obtain ⟨σ',H',I,q⟩:=h;exact ⟨σ',H',I.uncaught hd,q⟩
 | cont=>obtain ⟨σ',H',I,q⟩:=h;exact ⟨σ',H',I.uncaught hd,q⟩
 | ret u=>obtain ⟨v,σ',H',I,r,q⟩:=h;exact ⟨v,σ',H',I.uncaught hd,r,q⟩
theorem Inv.seen {a:Addr} {cls:Value} {B:Heap} (I:Inv X pins σ H1 s1) (F:cN X.prog X.w X.stack H1 s1.heap a cls H' s'.heap B) (os:s'.os=s1.os) (bare:AllBare s'.gens):Inv X pins σ H' s' :=
 I.call' (ch:=[]) os (F.un I.dZ) F.held bare fun b z=>nomatch z
theorem Inv.vC (I:Inv X pins σ H1 s1):∀ b∈frs X.stack,∀ o,s1.heap.get? b=some o->∀ vs,o.data ≠ .fields vs:=fun b hb o q=>by
 obtain ⟨_,o',e',d⟩:=I.stack.mem hb;rw [q] at e'
 cases e'
 exact d
theorem Inv.catch (I:Inv X pins σ H1 s1) (hs:X.stack=X.env::X.outer) (hf:X.env.frame=some X.env.locals) (hq:j8 X.prog X.w X.stack H1 s1 (fun cls _ H2=>PySem.W.exmOne X.K cls cv=some true/\ts D σ H2) e s')
  (pC:∀ a,cD (X.caught a) (b₀::suite) ts) (hc:Gl X c) (hcm:X.mg c=some cv) (hdb:(c==("__debug__":Str))=false) :
  wpAny (model X.prog X.w) X.A (noteFrame e X.env) (fun _ s₂=>wpAny (model X.prog X.w) X.A (setFlight e none) (fun _ s₃=>wpAny (model X.prog X.w) X.A (handleBy e X.env [.ExceptHandler (some (.Name c cp)) none (b₀::suite) hpos]) (SP X pins D) X.xe s₃) X.xe s₂) X.xe s':=by
 obtain ⟨a,cls,H2,B,dc,rfl,os,bare,F,hdc,hm,ht⟩:=hq;obtain ⟨a0,fl⟩:=F.fl;have nf:=I.vC;have Gn:=fl;rw [hs] at Gn
 have hfr:=I.ok.frames;rw [hs] at hfr
 refine wpAny_looks_onW hfr hf Gn fun h₄ held RQ=>wpAny_landsW held fun h₅ tX RT=>?_
 rw [<- hs] at tX
 have F5:=F.on ⟨a0,tX⟩ nf (RQ.trans RT);have I5:Inv X pins σ H2 { s' with heap:=h₅ }:=I.seen (s':={ s' with heap:=h₅ }) F5 os bare;have RV:=I5.caught a;refine wpAny_handleBy_cons (codeAny_handlers_test (XC RV hc hcm ?_ hdb)) (by intro q;cases q);obtain ⟨ob,hob,hcl⟩:=tX.there;have LT:PySem.W.Looks (model X.prog X.w) h₅ (typeOf (.ref a)) cls:=by
  subst hcl;exact (PySem.W.Looks.ld hob).andThen .now
 refine PySem.W.exm_one (K:=X.K) (h:=h₅) I5.aR LT hm _ _ _ _ (fun _ _ z=>z) ?_;refine codeAny_handlers_suite ?_;refine lands_againW tX fun h₆ RW RX=>?_
 have F6:=F5.on ⟨a0,RW⟩ nf RX;have I6:Inv X pins σ H2 { s' with heap:=h₆ }:=I.seen (s':={ s' with heap:=h₆ }) F6 os bare;refine wpAny_mono (pC a pins _ σ H2 D (I6.caught a) ht) (fun f s₂ z=>z.uncaught I.ok.hd) fun _ _ z=>z.elim
end
def xJ (K:W.Frag) (cv:Value) (sp:Sp) (t:TA) (i:Nat) (ts:TS):TS:=fun D σ H=>t σ H fun vs H1=>sp (vs++[]) H1 (fun v H2=>D.nx (σ.set i (some v)) H2) (fun cls _ H2=>W.exmOne K cls cv=some true/\ts D σ H2)
def Lg (a:Addr) (cls:Value) (dc:Option Addr):HO := .ext fun h=>∃ o vs,h.get? a=some o/\o.cls=cls/\o.data = .fields vs/\o.dict=dc
def Ends.gone (D:Ends) (j:Nat):Ends:={ nx:=fun σ H=>D.nx (σ.set j none) H,rt:=D.rt,bk:=fun σ H=>D.bk (σ.set j none) H,ct:=fun σ H=>D.ct (σ.set j none) H }
def Gp (K:W.Frag) (cv:Value) (sp:Sp) (t:TA) (i j:Nat) (ts:TS):TS:=fun D σ H=>t σ H fun vs H1=>sp (vs++[]) H1 (fun v H2=>D.nx (σ.set i (some v)) H2) (fun cls dc H2=>W.exmOne K cls cv=some true/\∀ a,H2 a=none->ts (D.gone j) (σ.set j (some (.ref a))) (upd H2 a (Lg a cls dc)))
section
variable {X:Cx}
theorem RZ {g:Gx} {x:Str} {C:Addr} {pos:Pos} (h:g.mg x=some (.ref C)) (hX:X.gx=g:=by rfl) (hg:Gl X x:=by rfl) (hd:(x==("__debug__":Str))=false:=by decide):PE X (.Name x pos) (tC (.ref C)):=by
 subst hX;exact U3 hg h rfl hd
end
theorem R0 {X:Cx} {a:Addr}:(X.caught a).K=X.K:=rfl
theorem W2 {K:W.Frag} {C:Addr} {f:Str} (h:W.findIn K (.ref C) f=some none):YZ K C f:=h
def Gx.pD (g:Gx) (k:Nat) (f:Addr) (ps:List Str) (sp:Sp):Prop:=∃ fd,aW g.P g.w g.K g.mg g.base bL k f fd ps sp/\Y7 g.K fd ps []/\W.keepIn g.K (.ref f)=true
def tFn (g:Gx) (k:Nat) (ps:List Str) (sp:Sp):TE:=fun _ H Q=>∀ f,g.pD k f ps sp->Q (.ref f) H
def R3 (g:Gx) (k i:Nat) (t:TA):TE:=fun σ H Q=>∃ f ps sp,σ[i]?=some (some (.ref f))/\g.pD k f ps sp/\t σ H fun vs H1=>sp vs H1 Q E0
section
variable {X:Cx} {g:Gx} {k j i:Nat} {x:Str} {ps:List Str} {sp:Sp} {p pos:Pos} {e:Expr} {es:List Expr} {t:TA}
theorem XI (F:g.Fn j x ps sp) (hX:X.gx=g) (hg:Gl X x) (hdb:(x==("__debug__":Str))=false):PE X (.Name x pos) (tFn g j ps sp):=by
 subst hX;obtain ⟨f,fd,F,b,kp,hm⟩:=F;intro pins s σ H Q I h;exact U3 (v := .ref f) hg hm rfl hdb pins s σ H Q I (h f ⟨fd,F,b,kp⟩)
theorem R4 (i:Nat) (hr:aQ k X.A) (ha:PA X (e::es) t) (hj:j<=k) (hX:X.gx=g) (hN:X.N[i]?=some x) (hv:oU X.env.scope x) (hdb:(x==("__debug__":Str))=false)
  (hcd:(x==("__classdict__":Str))=false) (he:starEach (e::es) X.env=(false,eval e X.env)::starEach es X.env) (hpl:(backTo pos (starEach es X.env)).any (·.1)=false):PE X (.Call (.Name x p) (e::es) [] pos) (R3 g j i t):=by
 subst hX;intro pins s σ H Q I h;obtain ⟨f,ps,sp,hσ,⟨fd,F,b,kp⟩,ht⟩:=h;refine wpAny_Call_Name_kw (aM (vL hN hv hdb hcd pins s σ H (fun v H1=>v = .ref f/\t σ H1 fun vs H1=>sp vs H1 Q E0) I (UA hσ ⟨rfl,ht⟩)) fun u s1 ⟨v,H1,I1,r,e,ht⟩=>?_);subst e;obtain rfl:u=Value.ref f:=r;refine PySem.W.callWith_K (h₀:=X.base) I1.ok.mod.dX kp (aM (ha pos pins s1 σ H1 _ I1 ht) fun us s2 ⟨vs,H2,I2,r2,q⟩=>⟨I2.aR,?_⟩) he hpl;exact UH F (hr.mono hj) b .nil VZ I2 r2 (by rw [List.append_nil];exact q)
end
theorem YG (es:List Expr) (x:Nat) (p:Pos) (es':List Expr) (env:Env):starEach (.Tuple es x p::es') env=(false,eval (.Tuple es x p) env)::starEach es' env:=rfl
theorem R5 (es:List Expr) (p:Pos) (es':List Expr) (env:Env):starEach (.List es p::es') env=(false,eval (.List es p) env)::starEach es' env:=rfl
section
variable {X:Cx} {pins:List (Addr×Obj)} {σ:St} {H:Hp} {s:Shared} {A:Around} {E Q:Value->Shared->Prop}
theorem Gq:∀ {Ts:List String} {us:List Value},Yt (Ts.map V.ty) us->us=Ts.map Value.type
 | [],_,r=>by cases r;rfl
 | T::Ts,_,r=>by
  cases r with
  | cons h t =>
   have:_=Value.type T:=h;rw [this,Gq t];rfl
theorem R6 {x:V} {u t:Value} {tp:Addr} {Ts:List String} {b:Bool} (I:Inv X pins σ H s) (rx:Yw x u) (ty:bW X.K H x t) (hT:H tp=some (.tup (Ts.map V.ty))) (e:W.kitAny X.K t (Ts.map Value.type)=some b) (h:∀ tk,Q (.bool b) { s with toks:=tk }) :
  wpAny (model X.prog X.w) A (call (.builtin "isinstance") [u,.ref tp]) Q E s:=by
 obtain ⟨_,us,r,o,g1,g2,n,g3⟩:=(show YN X.prog X.w H s.heap tp (.tup (Ts.map V.ty)) from I.hok tp _ hT);obtain ⟨oc,od,ot,sl⟩:=o;have wM:oc=Value.type "tuple":=g2;have R7:ot=Data.seq us.toArray n:=g3;subst wM R7;rw [Gq r] at g1
 cases ty with
 | non=>cases (show u=Value.none from rx);exact W.kia_tup W.kitx_none I.aR True.intro g1 e (fun z=>nomatch z) h
 | bl y=>cases (show u=Value.bool y from rx);exact W.kia_tup W.kitx_bool I.aR True.intro g1 e (fun z=>nomatch z) h
 | int i=>obtain ⟨t,q⟩:=(show ∃ t,u=Value.int i t from rx);cases q;exact W.kia_tup W.kitx_int I.aR True.intro g1 e (fun z=>nomatch z) h
 | str y=>obtain ⟨t,q⟩:=(show ∃ t,u=Value.str y t from rx);cases q;exact W.kia_tup W.kitx_str I.aR True.intro g1 e (fun z=>nomatch z) h
 | flt y=>obtain ⟨t,q⟩:=(show ∃ t,u=Value.float y t from rx);cases q;exact W.kia_tup W.kitx_float I.aR True.intro g1 e (fun z=>nomatch z) h
 | @lst a xs ea =>
  cases (show u=Value.ref a from rx)
  obtain ⟨_,_,n,_,h1⟩:=(show YN X.prog X.w H s.heap a (.lst xs) from I.hok a _ ea);exact W.kia_tup W.kitx_list I.aR ⟨_,h1,rfl⟩ g1 e (fun z=>nomatch z) h
 | @bC a ob xs ea =>
  cases (show u=Value.ref a from rx)
  obtain ⟨_,_,_,n,_,h1⟩:=(show YN X.prog X.w H s.heap a (.bC ob (.lst xs)) from I.hok a _ ea);exact W.kia_tup W.kitx_list I.aR ⟨_,h1,rfl⟩ g1 e (fun z=>nomatch z) h
 | @tup a xs ea =>
  cases (show u=Value.ref a from rx)
  obtain ⟨_,_,_,p⟩:=(show YN X.prog X.w H s.heap a (.tup xs) from I.hok a _ ea);obtain ⟨o,h1,h2,_⟩:=p;exact W.kia_tup W.kitx_tuple I.aR ⟨o,h1,h2⟩ g1 e (fun z=>nomatch z) h
 | @dK a kvs ea =>
  cases (show u=Value.ref a from rx)
  obtain ⟨_,_,vs,_,p⟩:=(show YN X.prog X.w H s.heap a (.dK kvs) from I.hok a _ ea);obtain ⟨o,es,ep,h1,h2,_⟩:=p;exact W.kia_tup W.kitx_dict I.aR ⟨o,h1,h2.1⟩ g1 e (fun z=>nomatch z) h
 | @dT a kvs ea =>
  cases (show u=Value.ref a from rx)
  obtain ⟨_,_,xs,_,o,es,ep,h1,h2,_⟩:=(show YN X.prog X.w H s.heap a (.dT kvs) from I.hok a _ ea);exact W.kia_tup W.kitx_dict I.aR ⟨o,h1,h2.1⟩ g1 e (fun z=>nomatch z) h
 | @ins a C dx fs ea cl ha hn htk hm =>
  cases (show u=Value.ref a from rx)
  obtain ⟨mA,O,_⟩:=Vb I.hok ea;obtain ⟨od,J,_⟩:=O.look;exact W.kia_tup (W.kitx_own (cl.get _) cl.hd ha hn htk hm) I.aR J g1 e (fun z=>nomatch z) h
end
section
variable {X:Cx}
theorem WQ:Xl X (.builtin "isinstance") (fun xs H Q=>∃ x tp Ts t b,xs=[x,.ref tp]/\H tp=some (.tup (List.map V.ty Ts))/\bW X.K H x t/\W.kitAny X.K t (Ts.map Value.type)=some b/\Q (.bl b) H):=by
 intro pins s σ H xs us Q I r h;obtain ⟨x,tp,Ts,t,b,rfl,hT,ty,e,q⟩:=h;obtain ⟨u,v,rfl,ru,rv⟩:=r.two
 cases rv
 exact R6 I ru ty hT e fun tk=>⟨.bl b,H,I.tok _,rfl,q⟩
end
section
variable {src:List (Option Nat)} {te:TE} {σ:St} {Q:VK}
variable {X:Cx} {H:Hp}
def tY (a b:TI):TI:=fun σ H R=>a σ H R\/b σ H R
theorem Gs {tg:Expr} {l:Expr} {a b:TI} (ha:PI X tg l a) (hb:PI X tg l b):PI X tg l (tY a b):=by
 intro pins s σ H R I h;rcases h with h | h
 ·exact ha pins s σ H R I h
 ·exact hb pins s σ H R I h
end
end L2
namespace L2
open PySem
section
variable {src:List (Option Nat)} {te:TE} {σ:St} {H:Hp} {Q:VK}
theorem Qf {J:It} {P:Hp->Prop} {xs:List V} (hJ:XM J P xs) {H1:Hp} {D:Addr} (Rl:Nat->V->Hp->Prop) (st:∀ i y H H',Rl i y H->Yf H H'->Rl i y H') (su:∀ i y H zs zs',Rl i y H->H D=some (.lst zs)->Rl i y (upd H D (.lst zs')))
  (hP:∀ H',Yf H1 H'->P H') (hD:H1 D=none) (hlen:xs.length<=100000)
  (step:∀ (i:Nat) x H' zs,xs[i]?=some x->Yf H1 H'->H' D=some (.lst zs)->∀ R:VK,(∀ y aO,Yf H' aO->Rl i y aO->R y aO)->te (some x::YH src σ) H' R)
  (fin:∀ (ys:List V) H',Yf H1 H'->H' D=some (.lst ys)->ys.length=xs.length->(∀ (j:Nat) y,ys[j]?=some y->Rl j y H')->Q (.ref D) H'):LC (none::src) J (YJ 0) XO te σ H1 Q D:=by
 have h6:100000<sizeLine:=by decide
 refine UL hJ (fun i zs σ' H'=>zs.length=i/\(∃ o,σ'=o::YH src σ)/\Yf H1 H'/\H' D=some (.lst zs)/\∀ (j:Nat) y,zs[j]?=some y->Rl j y H')
  ⟨rfl,⟨none,rfl⟩,.aG hD _,Yb,fun j y h=>by simp at h⟩ (fun i zs σ' H' ⟨_,_,p1,p2,_⟩=>⟨hP _ p1,p2⟩) (X7 0) ?_ ?_
 ·rintro i zs σ' H' x hx ⟨hi',⟨o,rfl⟩,sm,hd,hts⟩
  have hi:=(List.getElem?_eq_some_iff.mp hx).1
  show te (some x::YH src σ) H' _
  refine step i x H' zs hx sm hd _ fun y aO s2 hy=>⟨s2 _ _ hd,by omega,by simp [hi'],⟨_,rfl⟩,.cO hD (sm.trans s2) _,Yb,fun j z hj=>su _ _ _ _ _ ?_ (s2 _ _ hd)⟩
  rcases Nat.lt_trichotomy j zs.length with h1 | h1 | h1
  ·rw [List.getElem?_append_left h1] at hj
   exact st _ _ _ _ (hts j z hj) s2
  ·have hb:y=z:=by subst h1;simpa using hj
   subst hb;rw [h1,hi'];exact hy
  ·rw [List.getElem?_eq_none (by rw [List.length_append,List.length_singleton];omega)] at hj;cases hj
 ·rintro zs σ' H' ⟨hn,_,sm,hd,hts⟩
  exact fin zs H' sm hd hn hts
theorem R8 {K:W.Frag} {tl:TE} {xs:List V} {b:Addr} (Rl:Addr->Nat->V->Hp->Prop) (st:∀ D i y H H',Rl D i y H->Yf H H'->Rl D i y H') (su:∀ D i y H zs zs',Rl D i y H->H D=some (.lst zs)->Rl D i y (upd H D (.lst zs')))
  (ha:∀ R:V->Hp->Prop,R (.ref b) H->tl σ H R) (hS:aJ K H b xs) (hlen:xs.length<=100000)
  (step:∀ D (i:Nat) x H' zs,xs[i]?=some x->Yf H H'->H' D=some (.lst zs)->∀ R:VK,(∀ y aO,Yf H' aO->Rl D i y aO->R y aO)->te (some x::YH src σ) H' R)
  (fin:∀ D (ys:List V) H',H D=none->Yf H H'->H' D=some (.lst ys)->ys.length=xs.length->(∀ (j:Nat) y,ys[j]?=some y->Rl D j y H')->Q (.ref D) H'):eX (none::src) (XL K tl) (YJ 0) XO te σ H Q :=
 ha _ ⟨b,rfl,⟨xs,hS⟩,fun D hD=>Qf (XN.imp fun H' (e:Yf H H')=>e.seq hS) (Rl D) (st D) (su D) (fun _ e=>e) hD hlen (fun i x H' zs hx sm hd R r=>step D i x H' zs hx sm hd R r) fun ys H' sm=>fin D ys H' hD sm⟩
theorem R9 {K:W.Frag} {tl:TE} {xs:List V} {b:Addr} (Rl:Addr->Nat->V->Hp->Prop) (st:∀ D i y H H',Rl D i y H->Yf H H'->Rl D i y H') (su:∀ D i y H zs zs',Rl D i y H->H D=some (.lst zs)->Rl D i y (upd H D (.lst zs')))
  (ha:∀ R:V->Hp->Prop,R (.ref b) H->tl σ H R) (hS:aK K H b xs) (hlen:xs.length<=100000)
  (step:∀ D (i:Nat) x H' zs,xs[i]?=some x->Yf H H'->H' D=some (.lst zs)->∀ R:VK,(∀ y aO,Yf H' aO->Rl D i y aO->R y aO)->te (some x::YH src σ) H' R)
  (fin:∀ D (ys:List V) H',H D=none->Yf H H'->H' D=some (.lst ys)->ys.length=xs.length->(∀ (j:Nat) y,ys[j]?=some y->Rl D j y H')->Q (.ref D) H'):eX (none::src) (qK K tl) (YJ 0) XO te σ H Q :=
 ha _ ⟨b,rfl,⟨xs,hS⟩,fun D hD=>Qf (O9.imp fun H' (e:Yf H H')=>e.tup hS) (Rl D) (st D) (su D) (fun _ e=>e) hD hlen (fun i x H' zs hx sm hd R r=>step D i x H' zs hx sm hd R r) fun ys H' sm=>fin D ys H' hD sm⟩
end
mutual
inductive VL (H:Hp):V->PyData->List Addr->Prop
 | int (i:Int):VL H (.int i) (.int i) []
 | str (x:Str) (h:PyData.strOk x=true):VL H (.str x) (.str x) []
 | lst {a:Addr} {vs:List V} {ds:List PyData} {L:List Addr}:H a=some (.lst vs)->vs.length<=10000->pF H vs ds L->VL H (.ref a) (.list ds) (a::L)
 | tup {a:Addr} {vs:List V} {ds:List PyData} {L:List Addr}:H a=some (.tup vs)->vs.length<=10000->pF H vs ds L->VL H (.ref a) (.tuple ds) L
inductive pF (H:Hp):List V->List PyData->List Addr->Prop
 | nil:pF H [] [] []
 | cons {v:V} {d:PyData} {L:List Addr} {vs:List V} {ds:List PyData} {L':List Addr}:VL H v d L->pF H vs ds L'->pF H (v::vs) (d::ds) (L++L')
end
def tZ (H H':Hp):Prop:=∀ a vs,H a=some (.tup vs)->H' a=some (.tup vs)
theorem Ut {a b:TI} {g:TG} {tb:TS} {D:Ends} {σ:St} {H:Hp} (h:XY a g tb D σ H):XY (tY a b) g tb D σ H:=.inl h
theorem Sd {a b:TI} {g:TG} {tb:TS} {D:Ends} {σ:St} {H:Hp} (h:XY b g tb D σ H):XY (tY a b) g tb D σ H:=.inr h
end L2
namespace L2
open PySem
section
variable {src:List (Option Nat)} {te:TE} {σ:St} {H:Hp} {Q:VK}
theorem Sg {ta:TA} {n:Nat} (I:Addr->Nat->List V->Hp->Prop) (ha:∀ R:List V->Hp->Prop,R [.int n] H->ta σ H R) (hlen:n<=100000)
  (i0:∀ D,H D=none->I D 0 [] (upd H D (.lst []))) (dl:∀ D i zs H',I D i zs H'->zs.length=i/\H' D=some (.lst zs))
  (step:∀ D (i:Nat) zs H',H D=none->i<n->I D i zs H'->∀ R:VK,(∀ y aO,aO D=some (.lst zs)->I D (i+1) (zs++[y]) (upd aO D (.lst (zs++[y])))->R y aO)->te (some (.int i)::YH src σ) H' R)
  (fin:∀ D zs H',H D=none->I D n zs H'->Q (.ref D) H'):eX (none::src) (vW ta) (YJ 0) XO te σ H Q:=by
 refine ha _ ⟨n,rfl,by omega,by omega,fun D hD=>?_⟩;have h6:100000<sizeLine:=by decide
 refine UL (Uf (lo:=0) (n:=n) (P:=fun _=>True)) (fun i zs σ' H'=>(∃ o,σ'=o::YH src σ)/\i<=n/\I D i zs H') ⟨⟨none,rfl⟩,Nat.zero_le _,i0 D hD⟩ (fun i zs σ' H' q=>⟨trivial,(dl _ _ _ _ q.2.2).2⟩) (X7 0) ?_ ?_
 ·rintro i zs σ' H' x hx ⟨⟨o,rfl⟩,_,hI⟩
  have hi:i<n:=by have:=(List.getElem?_eq_some_iff.mp hx).1;simpa using this
  rw [List.getElem?_map,List.getElem?_range hi] at hx
  have e:V.int (0+(i:Int))=x:=Option.some.inj hx;rw [Int.zero_add] at e
  subst e;have hl:=(dl _ _ _ _ hI).1
  show te (some (.int i)::YH src σ) H' _
  exact step D i zs H' hD hi hI _ fun y aO hd hI'=>⟨hd,by omega,⟨_,rfl⟩,hi,hI'⟩
 ·rintro zs σ' H' ⟨_,_,hI⟩
  exact fin D zs H' hD (by simpa using hI)
end
end L2
namespace L2
open PySem PySem.Spec PyProof.Rows
theorem Sh {P:Program} {w:World} {X:Cx}:XS (j8 P w) X (fun _ _ _=>False):=by
 intro pins σ H s e s' I h;obtain ⟨_,_,_,_,_,_,_,_,_,_,z⟩:=h;exact z.elim
theorem Gu {X:Cx} {f:Value} {r1 r2:List V->Hp->VK->Prop} (h1:Xl X f r1) (h2:Xl X f r2):Xl X f (fun xs H Q=>r1 xs H Q\/r2 xs H Q):=fun pins s σ H xs us Q I v h =>
 h.elim (h1 pins s σ H xs us Q I v) (h2 pins s σ H xs us Q I v)
def Sq (l:List Str) (v:Str):List Str:=if l.any (·==v) then l else l++[v]
def met (val:Nat->Str) (i:Nat):List Str:=((List.range i).map val).foldl Sq []
def Ku (a:Addr) (n:Nat):HO := .ext fun h=>∃ (o:Obj) (es:Array (Int×Value)) (ep:Nat) (t:SetTable),h.get? a=some o/\o.ExactSet/\o.data = .set es ep t/\t.fits es.size=true/\es.size=n/\n<scanBound
def Lh:TT:=fun _ _ _=>False
theorem Ss {X:Cx} {e:Expr}:PT X e Lh:=fun _ _ _ _ _ _ h=>h.elim
section
variable {X:Cx} {e lo st:Expr} {te tl ts:TE} {pos p2:Pos}
def Gv (K:W.Frag) (te tl ts:TE):TE:=fun σ H Q=>te σ H fun x H1=>tl σ H1 fun y H2=>ts σ H2 fun z H3 =>
 ∃ (a:Addr) (xs:List V) (k n:Int),x = .ref a/\y = .int k/\z = .int n/\0<=k/\0<n/\aJ K H3 a xs/\∀ p ys,H3 p=none->(∀ v∈ys,v∈xs)->ys.length<=xs.length->Q (.ref p) (upd H3 p (.lst ys))
end
structure Cy (K:W.Frag) (B:Addr) (m:Str) (f:Addr):Prop where
 ga:W.specialIn K (.ref B) "__getattribute__"=some (some (.builtin "type.__getattribute__"))
 rd:W.readsIn K B (.type "type")=true
 at_:W.findCls K (.ref B) (.type "type") m=some (.val (.ref f))
 kp:W.keepIn K (.ref f)=true
def Gx.adI (g:Gx) (x m qual:Str) (st:Stmt) (ps:List Str):Prop:=∃ B f fd,dF g.K m qual st f fd/\Y7 g.K fd ps []/\Cy g.K B m f/\g.mg x=some (.ref B)
def Gw:R2:=fun y x H Q=>∃ a o,x = .ref a/\qY H a y o/\Q (.bl (!o.isSome)) H
def xK:R2:=fun y x H Q=>∃ a o,x = .ref a/\qY H a y o/\Q (.bl o.isSome) H
end L2
namespace L2
def Qg (a b:TE):TE:=fun σ H Q=>a σ H Q\/b σ H Q
theorem QK {X:Cx} {e:PySem.Expr} {a b:TE} (ha:PE X e a) (hb:PE X e b):PE X e (Qg a b):=fun pins s σ H Q I h=>h.elim (fun z=>ha pins s σ H Q I z) (fun z=>hb pins s σ H Q I z)
end L2
namespace L2
open PySem PySem.Spec PyProof.Rows
section
variable {g:TG} {tb:TS} {D:Ends} {σ:St} {H:Hp}
theorem Sv {K:W.Frag} {ta:TA} {a:Addr} {xs:List V} (Pv:Nat->St->Hp->Prop) (ha:∀ R:List V->Hp->Prop,R [.ref a] H->ta σ H R) (h0:Pv 0 σ H) (hl:∀ i σ H,i<=xs.length->Pv i σ H->aJ K H a xs)
  (hs:∀ i x σ H T,xs[i]?=some x->Pv i σ H->H T=none->g (.ref T) σ (upd H T (.tup [.int (i:Int),x])) fun σ2 H2=>tb { D with nx:=Pv (i+1),ct:=Pv (i+1),bk:=D.nx } σ2 H2) (hd:∀ σ H,Pv xs.length σ H->D.nx σ H):XY (FZ K ta) g tb D σ H:=by
 refine ha _ ⟨a,xs,rfl,hl 0 σ H (Nat.zero_le _) h0,?_⟩;refine ⟨fun i m σ H=>m=xs.length - i/\i<=xs.length/\Pv i σ H,⟨xs.length,by simp,Nat.zero_le _,h0⟩,?_⟩;rintro i m σ H ⟨rfl,hi,p⟩;have q:=hl i σ H hi p;by_cases hlt:i<xs.length
 ·have hx:xs[i]?=some xs[i]:=List.getElem?_eq_getElem hlt
  refine .inr ⟨⟨xs,_,q,hx⟩,Pv (i+1),fun σ' H' p'=>⟨xs.length - (i+1),by omega,rfl,hlt,p'⟩,?_⟩;rintro v H' ⟨T,rfl,hT,heq⟩;have e:=heq xs _ q hx;subst e;exact hs i _ σ H T hx p hT
 ·have e:i=xs.length:=by omega
  subst e;exact .inl ⟨⟨xs,q,Nat.le_refl _⟩,hd σ H p⟩
end
end L2
namespace L2
open PySem
theorem Qh {X:Cx} {K:W.Frag} (h:X.K=K:=by rfl):Xl X (.type "tuple") (fun xs H Q=>∃ p ys,xs=[.ref p]/\((aJ K H p ys/\∀ l,H l=none->Q (.ref l) (upd H l (.tup ys)))\/aK K H p ys/\Q (.ref p) H)):=by subst h;exact XA
theorem Sw {K:W.Frag} {src:List (Option Nat)} {te tl:TE} {σ:St} {H:Hp} {Q:VK} (G:Addr->List V->Hp->Prop) (ha:∀ R:V->Hp->Prop,(∀ b xs H1,aJ K H1 b xs->G b xs H1->R (.ref b) H1)->tl σ H R)
  (hb:∀ b xs H1,aJ K H1 b xs->G b xs H1->xs.length<=100000/\∃ Rl:Addr->Nat->V->Hp->Prop,(∀ D i y H H',Rl D i y H->Yf H H'->Rl D i y H')/\(∀ D i y H zs zs',Rl D i y H->H D=some (.lst zs)->Rl D i y (upd H D (.lst zs'))) /\
   (∀ D (i:Nat) x H' zs,xs[i]?=some x->Yf H1 H'->H' D=some (.lst zs)->∀ R:VK,(∀ y aO,Yf H' aO->Rl D i y aO->R y aO)->te (some x::YH src σ) H' R) /\
   (∀ D (ys:List V) H',H1 D=none->Yf H1 H'->H' D=some (.lst ys)->ys.length=xs.length->(∀ (j:Nat) y,ys[j]?=some y->Rl D j y H')->Q (.ref D) H')):eX (none::src) (XL K tl) (YJ 0) XO te σ H Q :=
 ha _ fun b xs H1 hS hG=>by
  obtain ⟨hlen,Rl,st,su,step,fin⟩:=hb b xs H1 hS hG;exact ⟨b,rfl,⟨xs,hS⟩,fun D hD=>Qf (XN.imp fun H' (e:Yf H1 H')=>e.seq hS) (Rl D) (st D) (su D) (fun _ e=>e) hD hlen (fun i x H' zs hx sm hd R r=>step D i x H' zs hx sm hd R r) fun ys H' sm=>fin D ys H' hD sm⟩
end L2
namespace L2
open PySem PySem.Spec PyProof.Rows
abbrev bG (f:Addr) (fd:FuncData):HO := .ext fun h=>h.get? f=some { cls := .type "function",data := .func fd }
abbrev cH (c:Addr) (q:Str):HO := .ext fun h=>h.CodeRec (.ref c) q
abbrev Wm (c:Addr) (v:V):HO := .ext fun h=>∃ u,Yw v u/\h.IsCell c (some u)
section
variable {P:Program} {w:World} {H H':Hp} {h h':Heap}
theorem xM {f:Addr} {fd:FuncData} (e:h.get? f=some { cls := .type "function",data := .func fd }):YN P w H h f (bG f fd):=⟨e,⟨_,e⟩,fun _ _ p k=>k _ p⟩
theorem Sx {c:Addr} {q:Str} (e:h.CodeRec (.ref c) q):YN P w H h c (cH c q):=by
 obtain ⟨c',o,vs,t,e1,e2,e3⟩:=id e
 cases e1
 refine ⟨e,⟨_,e2⟩,fun h1 h2 p k=>?_⟩;obtain ⟨c',o,vs,t,e1,e2,e3⟩:=p
 cases e1
 exact ⟨c,o,vs,t,rfl,k _ e2,e3⟩
theorem Uu {c:Addr} {v:V} {u:Value} (r:Yw v u) (e:h.IsCell c (some u)):YN P w H h c (Wm c v):=by
 obtain ⟨o,e1,e2⟩:=id e;refine ⟨⟨u,r,e⟩,⟨_,e1⟩,fun h1 h2 p k=>?_⟩;obtain ⟨u,r,o,e1,e2⟩:=p;exact ⟨u,r,o,k _ e1,e2⟩
theorem aY.track {c:Addr} {o:HO} (x:aY P w H h) (hn:H c=none) (new:YN P w (upd H c o) h c o):aY P w (upd H c o) h:=fun b u e=>by
 by_cases hb:b=c
 ·subst hb;rw [Yb] at e;cases e;exact new
 ·rw [Yg hb] at e
  exact (x b u e).stay (fun _ _ _ q=>q) (fun d q=>by rw [Yg (Ym q hn)];exact q) fun d xs q=>by rw [Yg (Ym q hn)];exact q
end
def off (H:Hp) (cs:List Addr):Hp:=fun b=>if b∈cs then none else H b
def on (H' H:Hp) (cs:List Addr):Hp:=fun b=>if b∈cs then H b else H' b
section
variable {H H':Hp} {cs:List Addr} {b:Addr} {o:HO}
theorem Ws (h:b∈cs):off H cs b=none:=if_pos h
theorem YE (h:b∉cs):off H cs b=H b:=if_neg h
theorem V2 (h:b∈cs):on H' H cs b=H b:=if_pos h
theorem Y5 (h:b∉cs):on H' H cs b=H' b:=if_neg h
theorem Xp (h:H b=none):off H cs b=none:=by unfold off;split<;>first | rfl | exact h
theorem VN (h:off H cs b=some o):H b=some o/\b∉cs:=by
 by_cases hb:b∈cs
 ·rw [Ws hb] at h;cases h
 ·rw [YE hb] at h;exact ⟨h,hb⟩
end
abbrev Yr:=List (Str×Addr×V)
def Yr.cl (l:Yr):List (Str×Addr):=l.map fun p=>(p.1,p.2.1)
def Yr.as (l:Yr):List Addr:=l.map fun p=>p.2.1
def Yr.vs (l:Yr):List V:=l.map fun p=>p.2.2
def Yr.In (l:Yr) (H:Hp):Prop:=∀ p∈l,H p.2.1=some (Wm p.2.1 p.2.2)
section
variable {l:Yr} {H:Hp}
theorem YX {c:Addr} (h:c∈l.as):∃ p∈l,p.2.1=c:=by
 obtain ⟨p,hp,e⟩:=List.mem_map.mp h;exact ⟨p,hp,e⟩
theorem X9:∀ {l:Yr} {x:Str} {c:Addr},l.cl.lookup x=some c->∃ p∈l,p.1=x/\p.2.1=c
 | p::l,x,c,h=>by
  rw [Yr.cl,List.map_cons,List.lookup_cons] at h
  cases hb:x==p.1 with
  | true=>rw [hb] at h;exact ⟨p,.head _,(eq_of_beq hb).symm,Option.some.inj h⟩
  | false =>
   rw [hb] at h
   obtain ⟨q,h1,h2⟩:=X9 (l:=l) h;exact ⟨q,.tail _ h1,h2⟩
theorem VO:∀ {l:Yr},(l.map (·.1)).Nodup->∀ p∈l,l.cl.lookup p.1=some p.2.1
 | a::q,nd,p,hp=>by
  rw [List.map_cons,List.nodup_cons] at nd
  rw [Yr.cl,List.map_cons,List.lookup_cons];rcases List.mem_cons.mp hp with rfl | hp
  ·simp
  ·have:(p.1==a.1)=false:=by
    rw [beq_eq_false_iff_ne];intro z;exact nd.1 (z▸List.mem_map_of_mem hp)
   rw [this];exact VO nd.2 p hp
theorem Qi {b:Addr} {xs:List V} (hl:l.In H) (h:H b=some (.tup xs)):off H l.as b=some (.tup xs):=by
 rw [YE fun hb=>?_]
 ·exact h
 ·obtain ⟨p,hp,rfl⟩:=YX hb
  rw [hl p hp] at h;cases h
theorem WG {b:Addr} {o:HO} (hl:l.In H) (h:H b=some o) (ho:∀ φ,o ≠ .ext φ):off H l.as b=some o:=by
 rw [YE fun hb=>?_]
 ·exact h
 ·obtain ⟨p,hp,rfl⟩:=YX hb
  rw [hl p hp] at h
  exact ho _ (Option.some.inj h).symm
theorem Sy {P:Program} {w:World} {h:Heap} (hl:l.In H) (x:aY P w H h):aY P w (off H l.as) h:=fun b o e=>by
 obtain ⟨e1,e2⟩:=VN e;refine (x b o e1).stay (fun _ _ _ q=>q) (fun c q=>WG hl q fun φ z=>by cases z) fun c xs q=>Qi hl q
end
def VP (P:Program) (w:World) (K:W.Frag) (mg:Str->Option Value) (base:Heap) (N:List Str) (qual:Str) (scope:Scope) (f:Addr) (cd:Value) (cl:List (Str×Addr)) (A:Around) (outer:List Env) (s:Shared) (H:Hp):Cx where
 prog:=P
 w:=w
 K:=K
 mg:=mg
 base:=base
 A:=A.deeper (W.envX qual scope s.heap.objs.size f cd cl)
 N:=N
 s₀:=s
 H₀:=H
 env:=W.envX qual scope s.heap.objs.size f cd cl
 outer:=outer
 stack:=W.envX qual scope s.heap.objs.size f cd cl::outer
 ex:=[]
 calm:=true
 fn:=fun _=>false
 pn:=[]
 xe:=fun _ _=>False
structure cu (N ps:List Str) (l:List Str) (sc:Scope):Prop where
 kind:sc.kind = .function
 co:sc.isCoroutine=false
 gen:sc.isGenerator=false
 nd:N.Nodup
 pre:N.take ps.length=ps
 suf:N.drop (N.length - l.length)=l
 len:ps.length+l.length<=N.length
 par:∀ x∈ps,sc.names.lookup x=some .local
 SJ:∀ x∈l,sc.names.lookup x=some .free
 ig:∀ y∈sc.names,y.2 ≠ .cell
 all:∀ y∈sc.names,y.2 = .free->y.1∈l
def WR (N:List Str) (vs fv:List V):St:=vs.map some++List.replicate (N.length - vs.length - fv.length) none++fv.map some
section
variable {P:Program} {w:World} {K:W.Frag} {mg:Str->Option Value} {base:Heap} {N ps:List Str} {qual name:Str} {scope:Scope} {f c:Addr} {A:Around} {outer:List Env} {s:Shared} {H:Hp} {us:List Value} {vs:List V} {l:Yr} {cd:Value}
theorem Qj:∀ {ps:List Str} {us:List Value} {i:Nat} {x:Str} {u:Value},ps.Nodup->ps[i]?=some x->us[i]?=some u->(ps.zip us).reverse.lookup x=some u:=by
 intro ps us i x u nd h1 h2;have hm:(x,u)∈ps.zip us:=List.mem_of_getElem? (show (ps.zip us)[i]?=some (x,u) from List.getElem?_zip_eq_some.mpr ⟨h1,h2⟩);have key:∀ (q:List (Str×Value)),(q.map (·.1)).Nodup->(x,u)∈q->q.lookup x=some u:=by
  intro q
  induction q with
  | nil=>intro _ h;cases h
  | cons a q ih =>
   intro nd h;rw [List.lookup_cons];rw [List.map_cons,List.nodup_cons] at nd
   rcases List.mem_cons.mp h with rfl | h
   ·simp
   ·have:(x==a.1)=false:=by
     rw [beq_eq_false_iff_ne];intro z;exact nd.1 (z▸List.mem_map_of_mem h)
    rw [this];exact ih nd.2 h
 refine key _ ?_ (List.mem_reverse.mpr hm);rw [List.map_reverse];have hz:∀ (ps:List Str) (us:List Value),ps.Nodup->((ps.zip us).map (·.1)).Nodup/\∀ z∈(ps.zip us).map (·.1),z∈ps:=by
  intro ps
  induction ps with
  | nil=>intro us _;simp
  | cons a ps ih =>
   intro us nd
   cases us with
   | nil=>simp
   | cons u us =>
    have nd':=List.nodup_cons.mp nd;obtain ⟨i1,i2⟩:=ih us nd'.2;rw [List.zip_cons_cons,List.map_cons];refine ⟨List.nodup_cons.mpr ⟨fun hm=>nd'.1 (i2 _ hm),i1⟩,fun z hz=>?_⟩;rcases List.mem_cons.mp hz with rfl | hz
    ·exact .head _
    ·exact .tail _ (i2 z hz)
 exact List.pairwise_reverse.mpr ((hz ps us nd).1.imp fun h=>Ne.symm h)
theorem Vs {h1:Heap} {tk:Nat} (S:cu N ps (l.map (·.1)) scope) (hnd:l.as.Nodup) (hd:A.handled=none) (e0:cY P w K mg base A outer s H) (hl:vs.length=ps.length) (r:Yt vs us) (cellAt:∀ p∈l,∃ u,Yw p.2.2 u/\s.heap.IsCell p.2.1 (some u)) (hoff:aY P w (off H l.as) s.heap)
  (hns:h1.Ns s.heap.objs.size (fun x=>(ps.zip us).reverse.lookup x)) (hk:∀ b o,s.heap.get? b=some o->h1.get? b=some o) :
  Inv (VP P w K mg base N qual scope f cd l.cl A outer s (off H l.as)) [] (WR N vs l.vs) (off H l.as) { s with heap:=h1,toks:=tk }:=by
 have adJ:l.cl.map (·.1)=l.map (·.1):=by rw [Yr.cl,List.map_map];rfl
 have SM:(l.map (·.1)).Nodup:=by rw [<- S.suf];exact S.nd.sublist (List.drop_sublist _ _)
 have gP:∀ b:Addr,b∉(VP P w K mg base N qual scope f cd l.cl A outer s (off H l.as)).ex:=fun b z=>absurd (show b∈([]:List Addr) from z) (by simp)
 have lk:=VO SM;have Li:∀ p∈l,∀ q∈l,p.2.1=q.2.1->p=q:=fun p hp q hq e=>by
  obtain ⟨i,hi,e1⟩:=List.getElem_of_mem hp;obtain ⟨j,hj,e2⟩:=List.getElem_of_mem hq;have h1:l.as[i]?=some p.2.1:=by rw [Yr.as,List.getElem?_map,List.getElem?_eq_getElem hi,e1];rfl
  have h2:l.as[j]?=some p.2.1:=by rw [Yr.as,List.getElem?_map,List.getElem?_eq_getElem hj,e2,e];rfl
  have hij:i=j:=by
   obtain ⟨g1,g2⟩:=List.getElem?_eq_some_iff.mp h1;obtain ⟨g3,g4⟩:=List.getElem?_eq_some_iff.mp h2;exact (List.getElem_inj hnd).mp (g2.trans g4.symm)
  subst hij;rw [<- e1,<- e2]
 refine ⟨⟨e0.mod,S.kind,rfl,rfl,Nat.le_refl _,fun y z c h1 h2=>?_,fun y hy=>?_,fun y c h _=>absurd h (by show ¬ (false=true);decide),fun _=>hd,Around.frames_deeper e0.frames,.inr ⟨rfl,rfl⟩,fun b z=>absurd z (gP b),fun b o e=>⟨(e0.bs b o e).1,Xp (e0.bs b o e).2⟩,e0.dO,fun b _ _=>gP b,fun b z=>absurd z (gP b),e0.bN,fun b hb=>Xp (e0.dY b hb)⟩,
  rfl,e0.bare,Un.kept hk,⟨_,hns,fun i y v h1 h2 h3=>?_⟩,fun y c h=>?_,Xp (e0.hok.fresh (Nat.le_refl _)),fun y c h=>?_,fun p hp=>absurd (show p∈([]:List (Addr×Obj)) from hp) (by simp),hoff.kept hk,?_⟩
 ·obtain ⟨p,hp,e1,e2⟩:=X9 h1
  obtain ⟨q,hq,e3,e4⟩:=X9 h2;have:=Li p hp q hq (e2.trans e4.symm);rw [<- e1,<- e3,this]
 ·have hy:scope.names.lookup y=some .cell\/scope.names.lookup y=some .free:=hy
  rcases hy with hy | hy
  ·exact absurd rfl (S.ig _ (PySem.mem_of_lookup hy))
  ·obtain ⟨p,hp,e⟩:=List.mem_map.mp (S.all _ (PySem.mem_of_lookup hy) rfl)
   exact ⟨p.2.1,by show l.cl.lookup y=_;rw [<- show p.1=y from e];exact lk p hp⟩
 ·have hvl:l.vs.length=(l.map (·.1)).length:=by rw [Yr.vs,List.length_map,List.length_map]
  have hsl:=S.len;unfold WR at h2;by_cases hi:i<vs.length
  ·have ha:vs[i]?=some v:=by
    rw [List.append_assoc,List.getElem?_append_left (by simpa using hi),List.getElem?_map] at h2
    cases e:vs[i]? with
    | none=>rw [e] at h2;cases h2
    | some a=>rw [e] at h2;cases h2;rfl
   obtain ⟨u,hu,rv⟩:=r.get ha;have hp:ps[i]?=some y:=by
    rw [<- S.pre,List.getElem?_take_of_lt (by omega)];exact h1
   have sH:ps.Nodup:=by rw [<- S.pre];exact S.nd.sublist (List.take_sublist _ _)
   exact ⟨u,rv,.inl ⟨S.par y (List.mem_of_getElem? hp),Qj sH hp hu⟩⟩
  ·by_cases hi2:i<vs.length+(N.length - vs.length - l.vs.length)
   ·rw [List.getElem?_append_left (by rw [List.length_append,List.length_map,List.length_replicate];exact hi2),List.getElem?_append_right (by rw [List.length_map];omega),List.getElem?_replicate] at h2
    split at h2<;>cases h2
   ·rw [List.getElem?_append_right (by rw [List.length_append,List.length_map,List.length_replicate];omega),List.length_append,List.length_map,List.length_replicate,List.getElem?_map] at h2
    obtain ⟨v',hv',e⟩:=Option.map_eq_some_iff.mp h2
    cases e
    have hv2:(l.map fun p=>p.2.2)[i - (vs.length+(N.length - vs.length - l.vs.length))]?=some _:=hv';rw [List.getElem?_map] at hv2
    obtain ⟨p,hp,rfl⟩:=Option.map_eq_some_iff.mp hv2;have hpm:=List.mem_of_getElem? hp;have hy:(l.map (·.1))[i - (vs.length+(N.length - vs.length - l.vs.length))]?=some y:=by
     rw [<- S.suf,List.getElem?_drop];rw [show N.length - (l.map (·.1)).length+(i - (vs.length+(N.length - vs.length - l.vs.length)))=i by omega];exact h1
    rw [List.getElem?_map,hp] at hy
    have ey:p.1=y:=Option.some.inj hy;obtain ⟨u,ru,hc⟩:=cellAt p hpm;obtain ⟨o,ho,hd'⟩:=hc;refine ⟨u,ru,.inr ⟨.inr ?_,p.2.1,by show l.cl.lookup y=_;rw [<- ey];exact lk p hpm,o,hk _ _ ho,hd'⟩⟩;exact S.SJ y (by rw [<- ey];exact List.mem_map_of_mem hpm)
 ·obtain ⟨p,hp,e1,e2⟩:=X9 (show l.cl.lookup y=some c from h)
  obtain ⟨u,ru,o,ho,hd'⟩:=cellAt p hp;exact ⟨some u,o,by rw [<- e2];exact hk _ _ ho,hd'⟩
 ·obtain ⟨p,hp,e1,e2⟩:=X9 (show l.cl.lookup y=some c from h)
  exact Ws (by rw [<- e2];exact List.mem_map_of_mem hp)
 ·unfold WR
  show _=N.length
  have hvl:l.vs.length=(l.map (·.1)).length:=by rw [Yr.vs,List.length_map,List.length_map]
  have hsl:=S.len;rw [List.length_append,List.length_append,List.length_map,List.length_map,List.length_replicate];omega
theorem SN {h1:Heap} {tk:Nat} (S:cu N ps (l.map (·.1)) scope) (hnd:l.as.Nodup) (hd:A.handled=none) (e0:cY P w K mg base A outer s H) (hl:vs.length=ps.length) (r:Yt vs us) (hin:l.In H)
  (hns:h1.Ns s.heap.objs.size (fun x=>(ps.zip us).reverse.lookup x)) (hk:∀ b o,s.heap.get? b=some o->h1.get? b=some o) :
  Inv (VP P w K mg base N qual scope f cd l.cl A outer s (off H l.as)) [] (WR N vs l.vs) (off H l.as) { s with heap:=h1,toks:=tk } :=
 Vs S hnd hd e0 hl r (fun p hp=>(e0.hok _ _ (hin p hp)).1) (Sy hin e0.hok) hns hk
theorem Cz {Q:VK} {v:V} {u:Value} {σ':St} {H':Hp} {s':Shared} (e0:cY P w K mg base A outer s H) (hin:l.In H) (J:Inv (VP P w K mg base N qual scope f cd l.cl A outer s (off H l.as)) [] σ' H' s') (hlk:∀ p∈l,l.cl.lookup p.1=some p.2.1) (rv:Yw v u) (q:(∀ c∈l.as,H' c=none)->Q v (on H' H l.as)) :
  CE outer P w H s Q u s':=by
 have un:=J.base;have nin:∀ {b:Addr},H b=none->b∉l.as:=fun hb hm=>by
  obtain ⟨p,hp,rfl⟩:=YX hm;rw [hin p hp] at hb;cases hb
 have aX:∀ c∈l.as,H' c=none:=fun c hc=>by
  obtain ⟨p,hp,rfl⟩:=YX hc;exact J.aX p.1 p.2.1 (hlk p hp)
 refine ⟨v,on H' H l.as,J.os,J.bare,⟨fun b o e n hb hx=>un.keep b o e (Xp n) hb hx,fun b o e n hb hx=>un.slot b o e (Xp n) hb hx,fun b o e n hx=>?_,fun b o e hx=>un.there b o e hx,fun b xs e=>?_,fun b o u e=>?_,fun b ps e=>?_⟩,fun b o e=>?_,rv,q aX⟩
 ·rw [Y5 (nin n)]
  exact un.free b o e (Xp n) hx
 ·have h1:=Qi hin e
  rw [Y5 (VN h1).2];exact un.tups b xs h1
 ·have h1:=WG hin e fun φ z=>by cases z
  rw [Y5 (VN h1).2];exact un.bx b o u h1
 ·have h1:=WG hin e fun φ z=>by cases z
  rw [Y5 (VN h1).2];exact un.bI b ps h1
 ·by_cases hb:b∈l.as
  ·rw [V2 hb] at e
   obtain ⟨p,hp,rfl⟩:=YX hb;rw [hin p hp] at e
   cases e
   obtain ⟨⟨u,r,oc,ho,hd'⟩,_⟩:=e0.hok _ _ (hin p hp);refine Uu r ⟨oc,un.keep _ _ ho (Ws hb) (fun hf=>?_) (by intro z;exact absurd (show p.2.1∈([]:List Addr) from z) (by simp)),hd'⟩;have:=e0.dY _ hf;rw [hin p hp] at this;cases this
  ·rw [Y5 hb] at e
   refine (J.hok b o e).stay (fun _ _ _ q=>q) (fun c q=>?_) fun c xs q=>?_
   ·rw [Y5 fun hc=>?_]
    ·exact q
    ·rw [aX c hc] at q;cases q
   ·rw [Y5 fun hc=>?_]
    ·exact q
    ·rw [aX c hc] at q;cases q
end
def uc (H:Hp) (f c:Addr) (fd:FuncData) (qual:Str) (l:Yr):Prop:=H f=some (bG f fd)/\H c=some (cH c qual)/\l.In H
def Bm (mg:Str->Option Value) (base:Heap):Prop:=∃ bm ob,mg "__builtins__"=some (.ref bm)/\bm≠builtinsNs/\bm≠mainGlobals/\base.get? bm=some ob/\ob.cls = .type "module"/\ob.dict=some builtinsNs/\ob.data = .plain
section
variable {X:Cx} {pins:List (Addr×Obj)} {σ:St} {H:Hp} {s:Shared}
theorem Inv.ud {P c':Addr} {ps more:Array Value} {h':Heap} {tk:Nat} {fd:FuncData} {qual:Str} (I:Inv X pins σ H s) (hP:H P=some (.aV ps)) (hx:Heap.ExtBut P s.heap h') (hge:s.heap.objs.size<=c') (hlt:c'<h'.objs.size) (hrec:h'.CodeRec (.ref c') qual) (htb:h'.get? P=some (W.tabObj (ps++more))) :
  Inv X pins σ (upd (upd (upd H P (.aV (ps++more))) c' (cH c' qual)) h'.objs.size (bG h'.objs.size fd)) { s with heap:=h'.push { cls := .type "function",data := .func fd },toks:=tk }:=by
 have hPl:P<s.heap.objs.size:=I.hok.lt hP;have hcf:s.heap.objs.size<=h'.objs.size:=Nat.le_trans hge (Nat.le_of_lt hlt);have pG:∀ {b:Addr},b<s.heap.objs.size->b≠c'/\b≠h'.objs.size:=fun e=>⟨Nat.ne_of_lt (Nat.lt_of_lt_of_le e hge),Nat.ne_of_lt (Nat.lt_of_lt_of_le e hcf)⟩
 have f9:∀ {b:Addr} {o:HO},H b=some o->b≠c'/\b≠h'.objs.size:=fun e=>pG (I.hok.lt e)
 have push:∀ b o,h'.get? b=some o->(h'.push { cls := .type "function",data := .func fd }).get? b=some o:=fun b o e=>Heap.get?_push_of_some _ e
 have hget:∀ {b:Addr},b≠P->b≠c'->b≠h'.objs.size->(upd (upd (upd H P (.aV (ps++more))) c' (cH c' qual)) h'.objs.size (bG h'.objs.size fd)) b=H b:=fun h1 h2 h3=>by rw [Yg h3,Yg h2,Yg h1]
 have Gy:(upd (upd (upd H P (.aV (ps++more))) c' (cH c' qual)) h'.objs.size (bG h'.objs.size fd)) P=some (.aV (ps++more)):=by rw [Yg (pG hPl).2,Yg (pG hPl).1,Yb]
 refine I.un ⟨fun b o e n _ _=>push b o (hx b o (fun z=>by rw [z,hP] at n;cases n) e),fun b o e n _ _=>⟨o.slots,push b o (hx b o (fun z=>by rw [z,hP] at n;cases n) e)⟩,fun b o e n _=>?_,fun b o e _=>?_,fun b xs e=>?_,fun b o u e=>?_,fun b qs e=>?_⟩ fun b o e=>?_
 ·have:=Heap.lt_size e
  rw [hget (fun z=>by rw [z,hP] at n;cases n) (pG this).1 (pG this).2];exact n
 ·by_cases hb:b=P
  ·subst hb;exact ⟨_,push _ _ htb⟩
  ·exact ⟨o,push b o (hx b o hb e)⟩
 ·rw [hget (Xy e hP (by intro z;cases z)) (f9 e).1 (f9 e).2];exact e
 ·rw [hget (Xy e hP (by intro z;cases z)) (f9 e).1 (f9 e).2];exact e
 ·by_cases hb:b=P
  ·subst hb
   rw [hP] at e;cases e
   exact ⟨more,Gy⟩
  ·exact ⟨#[],by rw [hget hb (f9 e).1 (f9 e).2,e];simp⟩
 ·by_cases h3:b=h'.objs.size
  ·subst h3
   rw [Yb] at e;cases e
   exact xM (Heap.get?_push_size _ rfl)
  ·by_cases h2:b=c'
   ·subst h2
    rw [Yg h3,Yb] at e;cases e
    exact Sx (hrec.push _)
   ·by_cases h1:b=P
    ·subst h1
     rw [Gy] at e;cases e
     exact push _ _ htb
    ·rw [hget h1 h2 h3] at e
     refine (I.hok b o e).stay (fun c u hc q=>push c u (hx c u ?_ q)) (fun c q=>?_) fun c xs q=>?_
     ·rcases hc with rfl | hc
      ·exact h1
      ·exact Xy hc hP (by intro z;cases z)
     ·rw [hget (Xy q hP (by intro z;cases z)) (f9 q).1 (f9 q).2];exact q
     ·rw [hget (Xy q hP (by intro z;cases z)) (f9 q).1 (f9 q).2];exact q
end
def uf (P:Addr) (pos:Pos) (q:Str) (mk:Addr->FuncData->Prop) (H:Hp) (Q:VK):Prop:=∃ ps,H P=some (.aV ps)/\TriplesOk ps.toList /\
 ((codeAmong pos ps.toList=none/\∀ f c fd,H f=none->H c=none->f≠c->mk c fd->Q (.ref f) (upd (upd (upd H P (.aV (ps++#[rawInt pos.line,rawInt pos.col,.ref c]))) c (cH c q)) f (bG f fd))) \/
  ∃ c,codeAmong pos ps.toList=some (.ref c)/\∀ f fd,H f=none->mk c fd->Q (.ref f) (upd H f (bG f fd)))
section
variable {X:Cx} {c P:Addr} {name qual:Str} {params:Arguments} {body:List Stmt} {eb:Expr} {scope:Scope} {clos:List (Str×Addr)} {pos:Pos} {ln:Nat}
abbrev xO (name qual:Str) (params:Arguments) (body:List Stmt) (scope:Scope) (clos:List (Str×Addr)) (c:Addr) (fd:FuncData):Prop:=∃ doc pm ctv,fd=W.fnX name qual params body scope clos .none .none doc pm none (.ref c) ctv
abbrev Gz (qual:Str) (params:Arguments) (body:Expr) (scope:Scope) (clos:List (Str×Addr)) (c:Addr) (fd:FuncData):Prop:=∃ pm ctv,fd=W.kla_fn "<lambda>" qual params body scope clos pm (.ref c) ctv
theorem QL {pins:List (Addr×Obj)} {σ:St} {H:Hp} {s:Shared} {ps:Array Value} (I:Inv X pins σ H s) (bm:Bm X.mg X.base) (hP:H P=some (.aV ps)):mainGlobals≠P/\s.heap.BuiltinsAt X.mg P:=by
 refine ⟨fun z=>?_,?_⟩
 ·obtain ⟨o,es,ep,e,_⟩:=I.mod.glob
  have:=(I.bs _ _ e).2;rw [z,hP] at this;cases this
 ·obtain ⟨b,ob,h1,h2,h3,h4,h5⟩:=bm
  refine ⟨b,ob,h1,h2,h3,fun z=>?_,(I.bs _ _ h4).1,h5⟩;have:=(I.bs _ _ h4).2;rw [z,hP] at this;cases this
theorem CG {pins:List (Addr×Obj)} {σ:St} {H:Hp} {s:Shared} {Q:VK} (bm:Bm X.mg X.base) (C:W.CodeHd X.base c P) (hcode:X.env.code = .ref c) (hcl:closureFor scope X.env=pure clos) (I:Inv X pins σ H s) (h:uf P pos qual (xO name qual params body scope clos) H Q) :
  wpAny (model X.prog X.w) X.A (makeFunction name qual params (.stmts body) scope X.env [] [] [] pos ln) (EP X pins σ Q) X.xe s:=by
 obtain ⟨ps,hP,ht,h⟩:=h;obtain ⟨hgP,hb⟩:=QL I bm hP;have pH:s.heap.get? P=some (W.tabObj ps):=I.hok P _ hP;rcases h with ⟨hnf,h⟩ | ⟨c',hf,h⟩
 ·refine W.makeFunction_K (mg:=X.mg) hcl I.ok.glob (I.mod.glob.keeps I.bk) hcode (C.keeps I.bk) pH ht hnf hgP hb fun c' ctv doc h' tk hx hge hlt hrec htb=>?_
  refine ⟨.ref h'.objs.size,_,I.ud hP hx hge hlt hrec htb,rfl,h _ _ _ (I.hok.fresh (Nat.le_trans hge (Nat.le_of_lt hlt))) (I.hok.fresh hge) (Nat.ne_of_gt hlt) ⟨_,_,_,rfl⟩⟩
 ·refine W.makeFunction_hit (mg:=X.mg) hcl I.ok.glob (I.mod.glob.keeps I.bk) hcode (C.keeps I.bk) pH ht hf hb fun ctv doc h' tk hk hsz=>?_
  exact ⟨.ref h'.objs.size,_,I.laid (fun b o e=>Heap.get?_push_of_some _ (hk b o e)) hsz (xM (Heap.get?_push_size _ rfl)),rfl,h _ _ (I.hok.fresh hsz) ⟨_,_,_,rfl⟩⟩
theorem SQ {pins:List (Addr×Obj)} {σ:St} {H:Hp} {s:Shared} {Q:VK} (bm:Bm X.mg X.base) (C:W.CodeHd X.base c P) (hcode:X.env.code = .ref c) (hcl:closureFor scope X.env=pure clos) (I:Inv X pins σ H s) (h:uf P pos qual (Gz qual params eb scope clos) H Q) :
  wpAny (model X.prog X.w) X.A (makeFunction "<lambda>" qual params (.expr eb) scope X.env [] [] [] pos ln) (EP X pins σ Q) X.xe s:=by
 obtain ⟨ps,hP,ht,h⟩:=h;obtain ⟨hgP,hb⟩:=QL I bm hP;have pH:s.heap.get? P=some (W.tabObj ps):=I.hok P _ hP;rcases h with ⟨hnf,h⟩ | ⟨c',hf,h⟩
 ·refine W.kla_makeFunction (mg:=X.mg) hcl I.ok.glob (I.mod.glob.keeps I.bk) hcode (C.keeps I.bk) pH ht hnf hgP hb fun c' ctv h' tk hx hge hlt hrec htb=>?_
  refine ⟨.ref h'.objs.size,_,I.ud hP hx hge hlt hrec htb,rfl,h _ _ _ (I.hok.fresh (Nat.le_trans hge (Nat.le_of_lt hlt))) (I.hok.fresh hge) (Nat.ne_of_gt hlt) ⟨_,_,rfl⟩⟩
 ·refine W.kla_makeFunctionHit (mg:=X.mg) hcl I.ok.glob (I.mod.glob.keeps I.bk) hcode (C.keeps I.bk) pH ht hf hb fun ctv h' tk hk hsz=>?_
  exact ⟨.ref h'.objs.size,_,I.laid (fun b o e=>Heap.get?_push_of_some _ (hk b o e)) hsz (xM (Heap.get?_push_size _ rfl)),rfl,h _ _ (I.hok.fresh hsz) ⟨_,_,rfl⟩⟩
def Lj (i:Nat) (P:Addr) (pos:Pos) (q:Str) (mk:Addr->FuncData->Prop):TS:=fun D σ H=>uf P pos q mk H fun v H'=>D.nx (σ.set i (some v)) H'
theorem SX (i:Nat) (bm:Bm X.mg X.base) (C:W.CodeHd X.base c P) (hcode:X.env.code = .ref c) (hcl:closureFor scope X.env=pure clos) (hN:X.N.Nodup) (hi:X.N[i]?=some name) (hx:Loc X.env.scope name) (hq:qualnameIn X.env name name=qual)
  (hd0:params.defaults=[]) (hk0:params.kw_defaults=[]) (ha:annTrees params none X.env=[]) (hf:X.fn name=true\/X.env.scope.names.lookup name=some .local) :
  PS X (.FunctionDef name params body [] none [] scope none name pos) (Lj i P pos qual (xO name qual params body scope clos)):=by
 intro pins s σ H D I h;refine W.nestDef_K hd0 hk0 ha ?_;rw [hq];refine aM (CG bm C hcode hcl I h) fun v s1 ⟨x,H1,I1,r,q⟩=>?_
 exact Uj I1 hN hi hx r (fun s2 I2=>⟨_,H1,I2,q⟩) hf
def Lk (P:Addr) (pos:Pos) (q:Str) (mk:Addr->FuncData->Prop):TE:=fun _ H Q=>uf P pos q mk H Q
theorem UR (bm:Bm X.mg X.base) (C:W.CodeHd X.base c P) (hcode:X.env.code = .ref c) (hcl:closureFor scope X.env=pure clos) (hq:X.env.qual++"<lambda>"=qual) (hdef:defaultsOf params X.env=([],[])) :
  PE X (.Lambda params eb scope pos) (Lk P pos qual (Gz qual params eb scope clos)):=by
 intro pins s σ H Q I h;refine W.kla_eval hdef ?_;rw [hq];exact SQ bm C hcode hcl I h
end
def lay (H:Hp):Yr->Hp
 | []=>H
 | p::l=>upd (lay H l) p.2.1 (Wm p.2.1 p.2.2)
theorem Vg {H:Hp} {b:Addr}:∀ {l:Yr},b∉l.as->lay H l b=H b
 | [],_=>rfl
 | p::l,h=>by
  have h1:b≠p.2.1:=fun z=>h (by rw [z];exact .head _)
  rw [lay,Yg h1];exact Vg fun z=>h (.tail _ z)
theorem GC {H:Hp}:∀ {l:Yr},l.as.Nodup->l.In (lay H l)
 | [],_=>fun p hp=>by cases hp
 | q::l,nd=>fun p hp=>by
  have nd':=List.nodup_cons.mp nd;rcases List.mem_cons.mp hp with rfl | hp
  ·exact Yb
  ·have hne:p.2.1≠q.2.1:=fun z=>nd'.1 (by
    have:p.2.1∈Yr.as l:=List.mem_map_of_mem (f:=fun p:Str×Addr×V=>p.2.1) hp;rw [z] at this
    exact this)
   rw [lay,Yg hne];exact GC nd'.2 p hp
def Xu (X:Cx) (σ:St) (l:Yr):Prop:=l.as.Nodup/\∀ p∈l,∃ i:Nat,X.N[i]?=some p.1/\σ[i]?=some (some p.2.2)/\X.env.kindOf p.1=some .cell/\X.env.cells.lookup p.1=some p.2.1
theorem QM {X:Cx} {pins:List (Addr×Obj)} {σ:St} {H:Hp} {s:Shared} (I:Inv X pins σ H s):∀ {l:Yr},Xu X σ l->aY X.prog X.w (lay H l) s.heap
 | [],_=>I.hok
 | p::l,h=>by
  have nd':=List.nodup_cons.mp h.1;have ih:=QM I (l:=l) ⟨nd'.2,fun q hq=>h.2 q (.tail _ hq)⟩;obtain ⟨i,h1,h2,h3,h4⟩:=h.2 p (.head _);obtain ⟨m,hn,hl⟩:=I.loc;obtain ⟨u,r,lk⟩:=hl i p.1 p.2.2 h1 h2 (.inr (.inl h3));rcases lk with ⟨k,_⟩ | ⟨_,c,hc,hcell⟩
  ·rw [h3] at k;cases k
  ·rw [h4] at hc
   cases hc
   refine ih.track ?_ (Uu r hcell);rw [Vg nd'.1];exact I.aX p.1 p.2.1 h4
def PR (X:Cx) (b:List Stmt) (t:(St->V->Hp->Prop)->St->Hp->Prop):Prop:=∀ (pins:List (Addr×Obj)) (s:Shared) (σ:St) (H:Hp) (R:St->V->Hp->Prop),Inv X pins σ H s->t R σ H ->
 wpAny (model X.prog X.w) X.A (execs b X.env) (fun fl s'=>∃ u,fl = .ret u/\∃ v σ' H',Inv X pins σ' H' s'/\Yw v u/\R σ' v H') X.xe s
section
variable {X:Cx} {st:Stmt} {rest:List Stmt} {t:TS} {u:(St->V->Hp->Prop)->St->Hp->Prop} {e:Expr} {te:TE} {pos:Pos}
def Ln (te:TE):(St->V->Hp->Prop)->St->Hp->Prop:=fun R σ H=>te σ H fun v H'=>R σ v H'
theorem S5 (he:PE X e te):PR X [.Return (some e) pos] (Ln te):=by
 intro pins s σ H R I h;refine wpAny_execs_cons (wpAny_Return_some (aM (he pins s σ H _ I h) fun v s1 ⟨x,H1,I1,r1,q1⟩=>⟨v,rfl,x,σ,H1,I1,r1,q1⟩))
end
theorem dF.S6 {P:Program} {w:World} {K:PySem.W.Frag} {mg:Str->Option Value} {base:Heap} {x qual:Str} {st:Stmt} {f:Addr} {fd:FuncData} {N ps:List Str} {k:Nat} {sp:Sp} (F:dF K x qual st f fd) (S:aH N ps (Yh st)) (len:∀ vs H Q E,sp vs H Q E->vs.length=ps.length)
  (hbody:∀ (cdv:Value) (A:Around) (outer:List Env) (s:Shared) (H:Hp) (vs:List V) (Q:VK) (E:XK),fd.code=cdv->aQ k (A.deeper (envOfC qual (Yh st) s.heap.objs.size f cdv))->sp vs H Q E ->
   ∃ t,PR (We bL P w K mg base N qual (Yh st) f cdv A outer s H E).bA (YR st) t /\
    t (fun σ v H'=>∃ l,Xu (We bL P w K mg base N qual (Yh st) f cdv A outer s H E).bA σ l/\((∀ c∈l.as,H' c=none)->Q v (lay H' l))) (Xi N vs) H):aW P w K mg base bL (k+1) f fd ps sp:=by
 obtain ⟨oc,od,kV,doc,pm,an,cdv,ct,osl,rfl,lk,hcd⟩:=F.ex;refine ⟨len,fun A outer s H args us vs Q E hr e0 hb r hsp=>?_⟩;have hl:=len _ _ _ _ hsp;have KX:K.In s.heap:=e0.mod.dX.keeps fun b o e=>(e0.bs b o e).1
 have lim:s.heap.NoLimit:=e0.mod.nolimit.keeps fun b o e=>(e0.bs b o e).1
 have hkind:∀ y∈ps.zip us,(Yh st).names.lookup y.1=some .local\/((Yh st).names.lookup y.1=some .cell/\((cellsFrom (s.heap.objs.size+1) (Yh st).names []).lookup y.1).isSome=true):=fun ⟨n,v⟩ hy=>by
  rcases S.par n (List.of_mem_zip hy).1 with q | q
  ·exact .inl q
  ·exact .inr ⟨q,PySem.W.cellsFrom_some _ _ _ (.inl q)⟩
 refine codeAny_call_function hr.depth (KX _ _ lk) rfl S.co S.gen rfl (PySem.W.codeRec_of KX hcd) (hb _ _ _ _ ?_);refine wpAny_newFunctionEnv_cells S.kind hkind fun env he s1 xx=>?_
 subst he;refine ⟨lim.keeps xx.toInCall.keep,codeAny_func ?_⟩;obtain ⟨t,ht,hq⟩:=hbody cdv A outer s H vs Q E rfl (hr.deeper _) hsp;have I:Inv (We bL P w K mg base N qual (Yh st) f cdv A outer s H E).bA [] (Xi N vs) H s1:=(QB (CX:=bL) (E:=E) S hr.hd e0 hl r xx).wish _;refine wpAny_mono (ht [] s1 (Xi N vs) H _ I hq) (fun fl s' hs=>?_) fun e s' hs=>hs.elim
 obtain ⟨u,rfl,v,σ',H',J,rv,l,hc,q⟩:=hs;have un:=J.base;have hab:∀ b∈l.as,s.heap.objs.size<=b:=fun b hb=>by
  obtain ⟨p,hp,rfl⟩:=YX hb;obtain ⟨i,h1,h2,h3,h4⟩:=hc.2 p hp;exact J.ok.cab p.1 p.2.1 rfl h4
 have hno:∀ b∈l.as,H' b=none:=fun b hb=>by
  obtain ⟨p,hp,rfl⟩:=YX hb;obtain ⟨i,h1,h2,h3,h4⟩:=hc.2 p hp;exact J.aX p.1 p.2.1 h4
 have keep:∀ {b:Addr} {o:HO},H' b=some o->lay H' l b=some o:=fun {b o} e=>by
  rw [Vg fun hb=>?_]
  ·exact e
  ·rw [hno b hb] at e;cases e
 refine ⟨v,lay H' l,J.os,J.bare,⟨un.keep,un.slot,fun b o e n hx=>?_,un.there,fun b xs e=>keep (un.tups b xs e),fun b o u e=>keep (un.bx b o u e),fun b qs e=>?_⟩,QM J hc,rv,q hno⟩
 ·rw [Vg fun hb=>?_]
  ·exact un.free b o e n hx
  ·have h1:=hab b hb
   have h2:=Heap.lt_size (show s.heap.get? b=some o from e);exact absurd (Nat.lt_of_lt_of_le h2 h1) (Nat.lt_irrefl _)
 ·obtain ⟨more,e'⟩:=un.bI b qs e
  exact ⟨more,keep e'⟩
def S7 (g:Gx) (k i:Nat) (t:TA):TE:=fun σ H Q=>∃ f fd ps sp,σ[i]?=some (some (.ref f))/\aW g.P g.w g.K g.mg g.base bL k f fd ps sp/\(∀ us:List Value,us.length=ps.length->bindArgs fd ⟨us,[]⟩=pure (ps.zip us))/\H f=some (bG f fd)/\t σ H fun vs H1=>H1 f=some (bG f fd)/\sp vs H1 Q E0
section
variable {X:Cx} {g:Gx} {k j i:Nat} {x:Str} {p pos:Pos} {e:Expr} {es:List Expr} {t:TA}
theorem GD {pins:List (Addr×Obj)} {σ:St} {H:Hp} {s:Shared} {f:Addr} {fd:FuncData} (I:Inv X pins σ H s) (h:H f=some (bG f fd)):W.FnAt f s.heap:=⟨_,_,_,_,(I.hok _ _ h).1⟩
theorem Vt (i:Nat) (hr:aQ k X.A) (ha:PA X (e::es) t) (hj:j<=k) (hX:X.gx=g) (hN:X.N[i]?=some x) (hv:oU X.env.scope x) (hdb:(x==("__debug__":Str))=false)
  (hcd:(x==("__classdict__":Str))=false) (he:starEach (e::es) X.env=(false,eval e X.env)::starEach es X.env) (hpl:(backTo pos (starEach es X.env)).any (·.1)=false):PE X (.Call (.Name x p) (e::es) [] pos) (S7 g j i t):=by
 subst hX;intro pins s σ H Q I h;obtain ⟨f,fd,ps,sp,hσ,F,b,hf,ht⟩:=h;refine wpAny_Call_Name_kw (aM (vL hN hv hdb hcd pins s σ H (fun v H1=>v = .ref f/\H1 f=some (bG f fd)/\t σ H1 fun vs H1=>H1 f=some (bG f fd)/\sp vs H1 Q E0) I (UA hσ ⟨rfl,hf,ht⟩)) fun u s1 ⟨v,H1,I1,r,e,hf1,ht⟩=>?_);subst e;obtain rfl:u=Value.ref f:=r;refine PySem.W.callWith_F (GD I1 hf1) (aM (ha pos pins s1 σ H1 _ I1 ht) fun us s2 ⟨vs,H2,I2,r2,hf2,q⟩=>⟨GD I2 hf2,?_⟩) he hpl;exact UH F (hr.mono hj) (.all b) .nil VZ I2 r2 (by rw [List.append_nil];exact q)
end
abbrev xP:=List (Str×Addr×Addr)
theorem S8 {P:Program} {w:World} {K:PySem.W.Frag} {mg mb:Str->Option Value} {CX:dD} {k:Nat} {fa a:Addr} {fd:FuncData} {x:Str} {sp:Sp} {s₁:Shared} {vs:List Value} {ns:List Int} (tabs:xP)
  (KX:K.In s₁.heap) (hns:s₁.heap.Ns mainGlobals mg) (hb:s₁.heap.Ns builtinsNs mb) (hbb:∀ x:Str,x≠"__name__"->mb x=bootBuiltins x) (hlim:s₁.heap.NoLimit) (hg:s₁.gens=#[])
  (ha:s₁.heap.get? a=some { cls := .type "list",data := .seq vs.toArray }) (hi:IntsAre vs ns) (hl:ns.length<=sizeLine) (hr:aQ k callerA)
  (hT:∀ q∈tabs,PySem.W.CodeHd s₁.heap q.2.1 q.2.2/\s₁.heap.get? q.2.2=some (PySem.W.tabObj #[])) (hK:∀ q∈tabs,K.lookup q.2.2=none)
  (S9:∃ bm ob,mg "__builtins__"=some (.ref bm)/\bm≠builtinsNs/\s₁.heap.get? bm=some ob/\ob.cls = .type "module"/\ob.dict=some builtinsNs/\ob.data = .plain)
  (F:∀ base:Heap,K.In base->base.Ns mainGlobals mg->Bm mg base->(∀ q∈tabs,PySem.W.CodeHd base q.2.1 q.2.2)->aW P w K mg base CX k fa fd [x] sp) (hbind:∀ (s:Shared) (u:Value),BindsTo s fd ⟨[u],[]⟩ [(x,u)])
  (hsp:∀ H:Hp,(∀ q∈tabs,H q.2.2=some (.aV #[]))->aJ K H a (ns.map V.int)->sp [.ref a] H (fun v _=>v = .bl true) fun _ _ _=>False)
  (Tc:∀ H e s',CX [] H s₁ (fun _ _ _=>False) e s'->False) :
  codeAny (model P w) callerA (.call (.ref fa) ⟨[.ref a],[]⟩) (fun r s'=>r = .ok (.ret (.bool true))/\OldK s₁.heap s'.heap/\s'.os=s₁.os/\AllBare s'.gens) s₁:=by
 have rv:=QF hi;have lenV:=hi.length;have tobj:∀ b∈tabs.map (·.2.2),s₁.heap.get? b=some (PySem.W.tabObj #[]):=fun b hb=>by
  obtain ⟨q,hq,rfl⟩:=List.mem_map.mp hb;exact (hT q hq).2
 have aT:a∉tabs.map (·.2.2):=fun hb=>by
  have:=tobj a hb;rw [ha] at this
  cases this
 have core:∀ H:Hp,(∀ b,H b=none\/(∃ o xs,H b=some (.bC o (.lst xs)))\/(b∈tabs.map (·.2.2)/\H b=some (.aV #[])))->aJ K H a (ns.map V.int)->aY P w H s₁.heap->(∀ b,H b≠none->b=a\/b∈tabs.map (·.2.2))->(H a≠none->K.lookup a=none)->(∀ q∈tabs,H q.2.2=some (.aV #[])) ->
   codeAny (model P w) callerA (.call (.ref fa) ⟨[.ref a],[]⟩) (fun r s'=>r = .ok (.ret (.bool true))/\OldK s₁.heap s'.heap/\s'.os=s₁.os/\AllBare s'.gens) s₁:=by
  intro H hO hS hok hA hKa hTb;have fM:∀ {b:Addr} {o:Obj},s₁.heap.get? b=some o->H b=none->(WJ s₁.heap H).get? b=some o:=fun e n=>MF e n
  have GF:∀ {b:Addr} {o:Obj},s₁.heap.get? b=some o->o.cls ≠ .type "list"->o≠PySem.W.tabObj #[]->H b=none:=fun {b o} e d1 d2=>by
   cases q:H b with
   | none=>rfl
   | some u =>
    rcases hA b (by rw [q];simp) with e' | e'
    ·subst e'
     rw [ha] at e;cases e
     exact absurd rfl d1
    ·rw [tobj b e'] at e
     exact absurd (Option.some.inj e).symm d2
  have gP:∀ {b:Addr} {o:Obj} {es:Array DictEntry} {ep:Nat},s₁.heap.get? b=some o->o.data = .dict es ep->H b=none:=fun {b o es ep} e d=>by
   cases q:H b with
   | none=>rfl
   | some u =>
    rcases hA b (by rw [q];simp) with e' | e'
    ·subst e'
     rw [ha] at e;cases e
     have d':Data.seq vs.toArray _=Data.dict es ep:=d
     cases d'
    ·rw [tobj b e'] at e
     cases e
     have d':Data.fields #[]=Data.dict es ep:=d
     cases d'
  have ug:∀ {b:Addr} {m:Str->Option Value},s₁.heap.Ns b m->(WJ s₁.heap H).Ns b m:=fun {b m} ⟨o,es,ep,e,d,r⟩=>⟨o,es,ep,fM e (gP e d),d,r⟩
  have GJ:K.In (WJ s₁.heap H):=fun b o e=>fM (KX b o e) (by
   cases q:H b with
   | none=>rfl
   | some u =>
    rcases hA b (by rw [q];simp) with e' | e'
    ·subst e'
     rw [hKa (by rw [q];simp)] at e;cases e
    ·obtain ⟨z,hz,rfl⟩:=List.mem_map.mp e'
     rw [hK z hz] at e;cases e)
  have hM:Mod K mg (WJ s₁.heap H):=⟨GJ,ug hns,⟨mb,ug hb,hbb⟩,let ⟨mc,h1,h2⟩:=hlim;⟨mc,ug h1,h2⟩⟩;have e0:cY P w K mg (WJ s₁.heap H) callerA [] s₁ H:=⟨rfl,hM,fun b o e=>MJ e,Nat.le_of_eq (Mz _ _),trivial,fun b hb=>absurd (show b∈([]:List Addr) from hb) (by simp),hok,.of_eq hg⟩;have Td:Bm mg (WJ s₁.heap H):=by
   obtain ⟨bm,ob,b1,b2,b3,b4,b5,b6⟩:=S9;refine ⟨bm,ob,b1,b2,fun z=>?_,fM b3 (GF b3 (by rw [b4];decide) fun z=>by rw [z] at b4;cases b4),b4,b5,b6⟩;obtain ⟨o,es,ep,e,d,_⟩:=hns;rw [z,e] at b3;cases b3
   rw [d] at b6;cases b6
  have Te:∀ q∈tabs,PySem.W.CodeHd (WJ s₁.heap H) q.2.1 q.2.2:=fun q hq=>by
   obtain ⟨o,vs',file,tf,flags,tg,inF,text,tt,e1,e2,r⟩:=(hT q hq).1;exact ⟨o,vs',file,tf,flags,tg,inF,text,tt,fM e1 (GF e1 (by rw [e2];decide) fun z=>by rw [z] at e2;cases e2),e2,r⟩
  refine codeAny_mono ((F _ GJ (ug hns) Td Te).run callerA [] s₁ H ⟨[.ref a],[]⟩ [.ref a] [.ref a] _ _ hr e0 (hbind s₁ (.ref a)) (.cons rfl .nil) (hsp H hTb hS)) fun r s' h=>?_
  cases r with
  | error e=>exact (Tc H e s' h).elim
  | ok fl =>
   cases fl with
   | next=>exact False.elim h
   | brk=>exact False.elim h
   | cont=>exact False.elim h
   | ret u =>
    obtain ⟨v,H',os,bare,un,hok',r',q⟩:=h;have q':v = .bl true:=q;subst q';obtain rfl:u=Value.bool true:=r';have each:∀ b o,s₁.heap.get? b=some o->s'.heap.get? b=some o\/((∃ z∈tabs,z.2.2=b)/\o=PySem.W.tabObj #[]/\∃ ps,s'.heap.get? b=some (PySem.W.tabObj ps)):=fun b o e=>by
     rcases hO b with q | ⟨ob,xs,z⟩ | ⟨z1,z2⟩
     ·exact .inl (un.keep b o e q (by intro z;exact absurd (show b∈([]:List Addr) from z) (by simp)) (by simp))
     ·have z2:=un.bx b ob _ z
      obtain ⟨e1,_⟩:=hok b _ z;obtain ⟨e2,_⟩:=hok' b _ z2;rw [e] at e1;cases e1
      exact .inl e2
     ·obtain ⟨q,hq,e3⟩:=List.mem_map.mp z1
      obtain ⟨more,e4⟩:=un.bI b _ z2;have e5:s'.heap.get? b=some (PySem.W.tabObj (#[]++more)):=hok' b _ e4;rw [tobj b z1] at e
      exact .inr ⟨⟨q,hq,e3⟩,(Option.some.inj e).symm,_,e5⟩
    refine ⟨rfl,⟨fun b o e=>?_,fun b o e=>?_⟩,os,bare⟩
    ·rcases each b o e with h | ⟨⟨z,hz,rfl⟩,rfl,ps,h⟩
     ·exact .inl h
     ·exact .inr (.inl ⟨((hT z hz).1.tab (hT z hz).2).isCodeTable,rfl,#[],ps,rfl,by rw [Array.empty_append];exact h⟩)
    ·rcases each b o e with h | ⟨_,_,ps,h⟩
     ·exact ⟨o,h⟩
     ·exact ⟨_,h⟩
 have xQ:∀ q∈tabs,q.2.2∈tabs.map (·.2.2):=fun q hq=>List.mem_map_of_mem hq
 have xR:∀ {H:Hp} {b:Addr},b∈tabs.map (·.2.2)->YN P w H s₁.heap b (.aV #[]):=fun hb=>tobj _ hb
 cases hk:K.lookup a with
 | some o =>
  have e:=KX a o hk;rw [ha] at e
  cases e
  refine core (fun b=>if b∈tabs.map (·.2.2) then some (.aV #[]) else none) (fun b=>?_) (.inr ⟨_,vs.toArray,_,hk,rfl,rfl,rfl,by rw [List.size_toArray,lenV];exact hl,by simpa using rv⟩) (fun b u z=>?_) (fun b z=>?_) (fun z=>absurd (if_neg aT) z) fun q hq=>if_pos (xQ q hq)
  ·by_cases hb:b∈tabs.map (·.2.2)
   ·exact .inr (.inr ⟨hb,if_pos hb⟩)
   ·exact .inl (if_neg hb)
  ·by_cases hb:b∈tabs.map (·.2.2)
   ·have z':=(if_pos hb).symm.trans z
    cases z'
    exact xR hb
   ·have z':=(if_neg hb).symm.trans z
    cases z'
  ·by_cases hb:b∈tabs.map (·.2.2)
   ·exact .inr hb
   ·exact absurd (if_neg hb) z
 | none =>
  refine core (fun b=>if b∈tabs.map (·.2.2) then some (.aV #[]) else if b=a then some (.bC { cls := .type "list",data := .seq vs.toArray } (.lst (ns.map V.int))) else none) (fun b=>?_) (.inl (.inr ⟨{ cls := .type "list",data := .seq vs.toArray },(if_neg aT).trans (if_pos rfl)⟩)) (fun b u z=>?_) (fun b z=>?_) (fun _=>hk) fun q hq=>if_pos (xQ q hq)
  ·by_cases hb:b∈tabs.map (·.2.2)
   ·exact .inr (.inr ⟨hb,if_pos hb⟩)
   ·by_cases hb2:b=a
    ·exact .inr (.inl ⟨_,_,(if_neg hb).trans (if_pos hb2)⟩)
    ·exact .inl ((if_neg hb).trans (if_neg hb2))
  ·by_cases hb:b∈tabs.map (·.2.2)
   ·have z':=(if_pos hb).symm.trans z
    cases z'
    exact xR hb
   ·have z1:=(if_neg hb).symm.trans z
    by_cases hb2:b=a
    ·have z':=(if_pos hb2).symm.trans z1
     cases z'
     subst hb2;exact ⟨ha,by rw [List.length_map];exact hl,vs,_,rv,ha⟩
    ·have z':=(if_neg hb2).symm.trans z1
     cases z'
  ·by_cases hb:b∈tabs.map (·.2.2)
   ·exact .inr hb
   ·by_cases hb2:b=a
    ·exact .inl hb2
    ·exact absurd ((if_neg hb).trans (if_neg hb2)) z
def V3 (K:W.Frag) (tabs:xP):Sp:=fun vs H Q _=>∃ (a:Addr) (ns:List Int),vs=[.ref a]/\aJ K H a (ns.map V.int)/\ns.length<=63/\(∀ q∈tabs,H q.2.2=some (.aV #[]))/\∀ H',Q (.bl true) H'
def Q6 (s:Stmt) (j:Nat):Stmt:=(YR s).getD j (.Pass ⟨0,0,0,0⟩)
def Gx.dH (g:Gx) (x qual:Str) (st:Stmt) (ps:List Str) (c:Addr):Prop:=∃ f fd,dF g.K x qual st f fd/\Y7 g.K fd ps []/\g.mg x=some (.ref f)/\fd.code = .ref c
theorem Gx.dH.Tf {g:Gx} {k:Nat} {x qual:Str} {st:Stmt} {N ps:List Str} {c:Addr} {sp:Sp} (R:g.dH x qual st ps c) (S:aH N ps (Yh st)) (len:∀ vs H Q E,sp vs H Q E->vs.length=ps.length)
  (b:∀ (f:Addr) (A:Around) (outer:List Env) (s:Shared) (H:Hp) (vs:List V) (Q:VK) (E:XK),aQ k (g.cx N qual st f (.ref c) A outer s H E).A->sp vs H Q E ->
   ∃ t,PR (g.cx N qual st f (.ref c) A outer s H E) (YR st) t/\t (fun σ v H'=>∃ l,Xu (g.cx N qual st f (.ref c) A outer s H E) σ l/\((∀ c∈l.as,H' c=none)->Q v (lay H' l))) (Xi N vs) H):g.Fn (k+1) x ps sp:=by
 obtain ⟨f,fd,F,bd,hm,hc⟩:=R;refine ⟨f,fd,F.S6 S len fun cdv A outer s H vs Q E e hr h=>?_,bd,F.kp,hm⟩;have e':cdv = .ref c:=e.symm.trans hc;subst e';exact b f A outer s H vs Q E hr h
theorem Qk {K:PySem.W.Frag} {h:Heap} {mg:Str->Option Value} {f:Addr} {x:Str} {st:Stmt} {c:Addr} {oc kV dc pm cd ct:Value} {od an:Option Addr} {sl:Array (Option Value)} (X:K.In h) (G:h.Ns mainGlobals mg) (ps:List Str)
  (a:PySem.W.nsIn K mainGlobals x=some (some (.ref f))) (l:K.lookup f=some ⟨oc,od,.func (PySem.W.fnOf x x (Y2 st) (YR st) (Yh st) .none kV dc pm an cd ct),sl⟩) (cc:PySem.W.codeIn K cd x=true) (k:PySem.W.keepIn K (.ref f)=true) (e:cd = .ref c)
  (b:∀ (kV doc pm:Value) (an:Option Addr) (cdv ct:Value) (us:List Value),us.length=ps.length->bindArgs (PySem.W.fnOf x x (Y2 st) (YR st) (Yh st) .none kV doc pm an cdv ct) ⟨us,[]⟩=pure (ps.zip us)) :
  ∀ P w base,(Gx.mk P w K mg base).dH x x st ps c:=fun P w base =>
 have F:=Vd (st:=st) l cc k
 ⟨f,_,F,F.binds b,PySem.W.mg_of X G a,e⟩
end L2
namespace HT
open PySem PySem.Spec PyProof.Rows
variable {prog:Program} {w:World} {A:Around} {E:Value->Shared->Prop} {s:Shared}
end HT
namespace L2
open PySem PySem.Spec PyProof.Rows
section
variable {tb:TS} {D:Ends} {σ:St} {H:Hp}
theorem Tg {K:W.Frag} {ta:TA} (i j:Nat) {xs ys:List V} (Pv:Addr->Addr->Nat->St->Hp->Prop) (ha:∀ R:List V->Hp->Prop,(∀ a b H1,Pv a b 0 σ H1->R [.ref a,.ref b] H1)->ta σ H R)
  (hl:∀ a b n σ H,n<=min xs.length ys.length->Pv a b n σ H->aK K H a xs/\aK K H b ys)
  (hs:∀ a b (n:Nat) x y σ H T,xs[n]?=some x->ys[n]?=some y->Pv a b n σ H->H T=none->tb { D with nx:=Pv a b (n+1),ct:=Pv a b (n+1),bk:=D.nx } ((σ.set i (some x)).set j (some y)) (upd H T (.tup [x,y])))
  (hd:∀ a b σ H,Pv a b (min xs.length ys.length) σ H->D.nx σ H):XY (wO K ta) (U4 K 2 (WX (YJ i) (WX (YJ j) oY))) tb D σ H:=by
 refine ha _ fun a b H1 h0=>?_
 obtain ⟨s1,s2⟩:=hl a b 0 σ H1 (Nat.zero_le _) h0;refine ⟨a,b,xs,ys,rfl,s1,s2,?_⟩;refine ⟨fun n m σ H=>m=min xs.length ys.length - n/\n<=min xs.length ys.length/\Pv a b n σ H,⟨min xs.length ys.length,by simp,Nat.zero_le _,h0⟩,?_⟩;rintro n m σ H ⟨rfl,hn,p⟩;obtain ⟨g1,g2⟩:=hl a b n σ H hn p;by_cases hlt:n<min xs.length ys.length
 ·have hx:xs[n]?=some (xs[n]'(by omega)):=List.getElem?_eq_getElem _
  have hy:ys[n]?=some (ys[n]'(by omega)):=List.getElem?_eq_getElem _;refine .inr ⟨⟨xs,ys,_,_,g1,g2,hx,hy⟩,Pv a b (n+1),fun σ' H' p'=>⟨min xs.length ys.length - (n+1),by omega,rfl,hlt,p'⟩,?_⟩;rintro v H' ⟨T,rfl,hT,heq⟩;have e:=heq xs ys _ _ g1 g2 hx hy;subst e;exact ⟨T,_,rfl,aK.of Yb,rfl,_,_,rfl,_,_,rfl,rfl,hs a b n _ _ σ H T hx hy p hT⟩
 ·have e:n=min xs.length ys.length:=by omega
  subst e;refine .inl ⟨⟨xs,ys,g1,g2,?_⟩,hd a b σ H p⟩;omega
theorem Ti {K:W.Frag} {ta:TA} (b:Bool) (i j:Nat) {xs ys:List V} (Pv:Addr->Addr->Nat->St->Hp->Prop) (ha:∀ R:List V->Hp->Prop,(∀ a b H1,Pv a b 0 σ H1->R [.ref a,.ref b] H1)->ta σ H R)
  (hl:∀ a c n σ H,n<=min xs.length ys.length->Pv a c n σ H->(if b=true then aJ K H a xs else aK K H a xs)/\(if b=true then aJ K H c ys else aK K H c ys))
  (hs:∀ a b (n:Nat) x y σ H T,xs[n]?=some x->ys[n]?=some y->Pv a b n σ H->H T=none->tb { D with nx:=Pv a b (n+1),ct:=Pv a b (n+1),bk:=D.nx } ((σ.set i (some x)).set j (some y)) (upd H T (.tup [x,y])))
  (hd:∀ a b σ H,Pv a b (min xs.length ys.length) σ H->D.nx σ H):XY (tY (wQ K ta) (wO K ta)) (U4 K 2 (WX (YJ i) (WX (YJ j) oY))) tb D σ H:=by
 cases b with
 | true=>exact .inl (PN (K:=K) i j Pv ha (fun a c n σ H h1 h2=>by simpa using hl a c n σ H h1 h2) hs hd)
 | false=>exact .inr (Tg (K:=K) i j Pv ha (fun a c n σ H h1 h2=>by simpa using hl a c n σ H h1 h2) hs hd)
end
def Lp (s:Stmt):Expr:=match s with
 | .Return (some e) _=>e
 | _ => .Constant .none 0 ⟨0,0,0,0⟩
def Ql (e:Expr):Arguments:=match e with
 | .Lambda a _ _ _=>a
 | _=>{ posonlyargs:=[],args:=[],vararg:=none,kwonlyargs:=[],kw_defaults:=[],kwarg:=none,defaults:=[] }
def Qm (e:Expr):Expr:=match e with
 | .Lambda _ b _ _=>b
 | e=>e
def Wf (e:Expr):Scope:=match e with
 | .Lambda _ _ sc _=>sc
 | _=>{ kind := .function,names:=[],isGenerator:=false,isCoroutine:=false }
theorem Tj {P:Program} {w:World} {K:W.Frag} {mg:Str->Option Value} {base:Heap} {k:Nat} {f c:Addr} {qual:Str} {params:Arguments} {body:Expr} {scope:Scope} {pm ctv:Value} {N ps:List Str} {l:Yr} {sp:List V->Hp->VK->Prop}
  (S:cu N ps (l.map (·.1)) scope) (hnd:l.as.Nodup) (len:∀ vs H Q,sp vs H Q->vs.length=ps.length)
  (hbody:∀ (A:Around) (outer:List Env) (s:Shared) (H:Hp) (vs:List V) (Q:VK),aQ k (A.deeper (W.envX qual scope s.heap.objs.size f (.ref c) l.cl))->sp vs H Q ->
   ∃ t,PE (VP P w K mg base N qual scope f (.ref c) l.cl A outer s H) body t/\t (WR N vs l.vs) H Q) :
  aW P w K mg base bL (k+1) f (W.kla_fn "<lambda>" qual params body scope l.cl pm (.ref c) ctv) ps
   (fun vs H Q _=>uc H f c (W.kla_fn "<lambda>" qual params body scope l.cl pm (.ref c) ctv) qual l/\sp vs (off H l.as) fun v H'=>(∀ c∈l.as,H' c=none)->Q v (on H' H l.as)):=by
 refine ⟨fun vs H Q E h=>len _ _ _ h.2,fun A outer s H args us vs Q E hr e0 hb r hsp=>?_⟩;obtain ⟨⟨hf,hc,hin⟩,hsp⟩:=hsp;have hl:=len _ _ _ hsp;have lim:s.heap.NoLimit:=e0.mod.nolimit.keeps fun b o e=>(e0.bs b o e).1
 have hfo:=(e0.hok _ _ hf).1;have hco:s.heap.CodeRec (.ref c) qual:=(e0.hok _ _ hc).1;refine W.kla_callFunE hr.depth hfo rfl S.co S.gen rfl hco (hb _ _ _ _ ?_);refine wpAny_newFunctionEnv S.ig (fun y hy=>S.par y.1 (List.of_mem_zip hy).1) (fun h₁ hns hsb=>?_) S.kind;have hk₁:∀ b o,s.heap.get? b=some o->h₁.get? b=some o:=fun b o e=>hsb.extBut b o (Nat.ne_of_lt (Heap.lt_size e)) (Heap.get?_push_of_some _ e)
 refine ⟨lim.keeps hk₁,W.kla_codeExpr ?_⟩;obtain ⟨t,ht,hq⟩:=hbody A outer s (off H l.as) vs _ (hr.deeper _) hsp;have I:=SN (cd := .ref c) (qual:=qual) (f:=f) (tk:=s.toks+(ps.zip us).length) S hnd hr.hd e0 hl r hin hns hk₁;have lk:=VO (l:=l) (by rw [<- S.suf];exact S.nd.sublist (List.drop_sublist _ _));refine wpAny_mono (ht [] _ _ _ _ I hq) (fun u s' hs=>?_) fun e s' hs=>hs.elim
 obtain ⟨v,H',J,rv,q⟩:=hs;exact Cz e0 hin J lk rv q
section
variable {src:List (Option Nat)} {te:TE} {σ:St} {H:Hp} {Q:VK}
theorem Tn {K:W.Frag} {tl:TE} {xs:List V} {b:Addr} (I:Addr->Nat->List V->Hp->Prop) (ha:∀ R:V->Hp->Prop,R (.ref b) H->tl σ H R) (hS:aJ K H b xs) (hlen:xs.length<=100000)
  (i0:∀ D,H D=none->I D 0 [] (upd H D (.lst []))) (dl:∀ D i zs H',H D=none->I D i zs H'->zs.length=i/\H' D=some (.lst zs)/\aJ K H' b xs)
  (step:∀ D (i:Nat) x zs H',H D=none->xs[i]?=some x->I D i zs H'->∀ R:VK,(∀ y aO,aO D=some (.lst zs)->I D (i+1) (zs++[y]) (upd aO D (.lst (zs++[y])))->R y aO)->te (some x::YH src σ) H' R)
  (fin:∀ D zs H',H D=none->I D xs.length zs H'->Q (.ref D) H'):eX (none::src) (XL K tl) (YJ 0) XO te σ H Q:=by
 refine ha _ ⟨b,rfl,⟨xs,hS⟩,fun D hD=>?_⟩;have h6:100000<sizeLine:=by decide
 refine UL XN (fun i zs σ' H'=>(∃ o,σ'=o::YH src σ)/\i<=xs.length/\I D i zs H') ⟨⟨none,rfl⟩,Nat.zero_le _,i0 D hD⟩ (fun i zs σ' H' q=>⟨(dl _ _ _ _ hD q.2.2).2.2,(dl _ _ _ _ hD q.2.2).2.1⟩) (X7 0) ?_ ?_
 ·rintro i zs σ' H' x hx ⟨⟨o,rfl⟩,_,hI⟩
  have hi:i<xs.length:=(List.getElem?_eq_some_iff.mp hx).1;have hl:=(dl _ _ _ _ hD hI).1
  show te (some x::YH src σ) H' _
  exact step D i x zs H' hD hx hI _ fun y aO hd hI'=>⟨hd,by omega,⟨_,rfl⟩,hi,hI'⟩
 ·rintro zs σ' H' ⟨_,_,hI⟩
  exact fin D zs H' hD hI
theorem US {ta:TA} {n:Nat} (f:Nat->V) (ha:∀ R:List V->Hp->Prop,(∀ H1,Yf H H1->R [.int n] H1)->ta σ H R) (hlen:n<=100000)
  (step:∀ (i:Nat) H',i<n->Yf H H'->∀ R:VK,(∀ aO,Yf H' aO->R (f i) aO)->te (some (.int i)::YH src σ) H' R)
  (fin:∀ D H',H D=none->Yf H H'->H' D=some (.lst ((List.range n).map f))->Q (.ref D) H'):eX (none::src) (vW ta) (YJ 0) XO te σ H Q:=by
 refine ha _ fun H1 s1=>⟨n,rfl,by omega,by omega,fun D hD=>?_⟩
 refine wX (Uf (lo:=0) (n:=n) (P:=fun _=>True)) ((List.range n).map f) (fun _ _=>trivial) hD (by simp) (by simpa using hlen) (fun i x y H' hx hy sm R r=>?_) fun H' sm hd=>fin D H' (s1.free hD) (s1.trans sm) hd
 have hi:i<n:=by have:=(List.getElem?_eq_some_iff.mp hx).1;simpa using this
 rw [List.getElem?_map,List.getElem?_range hi] at hx hy
 have e:V.int (0+(i:Int))=x:=Option.some.inj hx;rw [Int.zero_add] at e
 have e2:f i=y:=Option.some.inj hy;subst e e2;exact step i H' hi (s1.trans sm) R r
end
mutual
inductive RK (h:Heap):Value->PyData->Prop
 | int (i:Int) (t:Tok):RK h (.int i t) (.int i)
 | str (x:Str) (t:Tok) (hx:PyData.strOk x=true):RK h (.str x t) (.str x)
 | tup {a:Addr} {o:Obj} {vs:Array Value} {n:Nat} {ds:List PyData}:h.get? a=some o->o.cls = .type "tuple"->o.data = .seq vs n->c7 h vs.toList ds->RK h (.ref a) (.tuple ds)
inductive c7 (h:Heap):List Value->List PyData->Prop
 | nil:c7 h [] []
 | cons {v:Value} {d:PyData} {vs:List Value} {ds:List PyData}:RK h v d->c7 h vs ds->c7 h (v::vs) (d::ds)
end
mutual
inductive KO:PyData->Prop
 | int (i:Int):KO (.int i)
 | str (x:Str):KO (.str x)
 | tup {ds:List PyData}:gb ds->KO (.tuple ds)
inductive gb:List PyData->Prop
 | nil:gb []
 | cons {d:PyData} {ds:List PyData}:KO d->gb ds->gb (d::ds)
end
mutual
theorem RK.ko {h:Heap}:∀ {v:Value} {d:PyData},RK h v d->KO d
 | _,_,.int i t => .int i
 | _,_,.str x t _ => .str x
 | _,_,.tup _ _ _ hs => .tup hs.ko
theorem c7.ko {h:Heap}:∀ {vs:List Value} {ds:List PyData},c7 h vs ds->gb ds
 | _,_,.nil => .nil
 | _,_,.cons a b => .cons a.ko b.ko
end
mutual
theorem RK.reads {h:Heap}:∀ {v:Value} {d:PyData},RK h v d->(∃ as,Reads h v d as)/\d.canLay0=true
 | _,_,.int i t=>⟨⟨_,.int i t⟩,rfl⟩
 | _,_,.str x t hx=>⟨⟨_,.str x t⟩,by simpa [PyData.canLay0] using hx⟩
 | _,_,.tup h1 h2 h3 hs=>by
  obtain ⟨⟨as,r⟩,l⟩:=hs.reads;exact ⟨⟨_,.tuple h1 h2 h3 r⟩,by rw [PyData.canLay0];exact l⟩
theorem c7.reads {h:Heap}:∀ {vs:List Value} {ds:List PyData},c7 h vs ds->(∃ as,ReadsAll h vs ds as)/\PyData.canLayAll0 ds=true
 | _,_,.nil=>⟨⟨_,.nil⟩,rfl⟩
 | _,_,.cons a b=>by
  obtain ⟨⟨as,r⟩,l⟩:=a.reads;obtain ⟨⟨bs,r'⟩,l'⟩:=b.reads;exact ⟨⟨_,.cons r r'⟩,by rw [PyData.canLayAll0,l,l'];rfl⟩
end
theorem RK.inj {h:Heap} {d:PyData} {v:Value} {e:PyData} (a:RK h v d) (b:RK h v e):d=e:=by
 obtain ⟨⟨_,r⟩,l⟩:=a.reads;obtain ⟨⟨_,r'⟩,_⟩:=b.reads;exact (r.unique _ _ r').1
mutual
theorem RK.keeps {h h':Heap} {x:Addr} {o:Obj} {es:Array DictEntry} {ep:Nat} (ho:h.get? x=some o) (hd:o.data = .dict es ep) (hs:Heap.SameBut x h h'):∀ {v:Value} {d:PyData},RK h v d->RK h' v d
 | _,_,.int i t => .int i t
 | _,_,.str y t hy => .str y t hy
 | _,_,.tup (a:=a) h1 h2 h3 ks=>by
  have hne:a≠x:=by
   rintro rfl;rw [ho] at h1
   cases h1
   rw [hd] at h3
   exact nomatch h3
  exact .tup ((hs.2 a hne).trans h1) h2 h3 (c7.keeps ho hd hs ks)
theorem c7.keeps {h h':Heap} {x:Addr} {o:Obj} {es:Array DictEntry} {ep:Nat} (ho:h.get? x=some o) (hd:o.data = .dict es ep) (hs:Heap.SameBut x h h'):∀ {vs:List Value} {ds:List PyData},c7 h vs ds->c7 h' vs ds
 | _,_,.nil => .nil
 | _,_,.cons a b => .cons (RK.keeps ho hd hs a) (c7.keeps ho hd hs b)
end
noncomputable instance adG:DecidableEq PyData:=fun a b=>Classical.propDecidable (a=b)
mutual
theorem KO.eqv:∀ {d e:PyData},KO d->KO e->d.eqv e=decide (d=e)
 | .int a,.int b,_,_=>by
  by_cases h:a=b
  ·subst h;simp [PyData.eqv]
  ·simp [PyData.eqv,h]
 | .str a,.str b,_,_=>by
  by_cases h:a=b
  ·subst h;simp [PyData.eqv]
  ·simp [PyData.eqv,h]
 | .int a,.str b,_,_=>by simp [PyData.eqv]
 | .str a,.int b,_,_=>by simp [PyData.eqv]
 | .int a,.tuple b,_,_=>by simp [PyData.eqv]
 | .str a,.tuple b,_,_=>by simp [PyData.eqv]
 | .tuple a,.int b,_,_=>by simp [PyData.eqv]
 | .tuple a,.str b,_,_=>by simp [PyData.eqv]
 | .tuple a,.tuple b,.tup x,.tup y=>by
  rw [PyData.eqv,gb.eqv x y];by_cases h:a=b
  ·subst h;simp
  ·simp [h]
theorem gb.eqv:∀ {ds es:List PyData},gb ds->gb es->PyData.eqvAll ds es=decide (ds=es)
 | [],[],_,_=>by simp [PyData.eqvAll]
 | [],_::_,_,_=>by simp [PyData.eqvAll]
 | _::_,[],_,_=>by simp [PyData.eqvAll]
 | d::ds,e::es,.cons x xs,.cons y ys=>by
  rw [PyData.eqvAll,KO.eqv x y,gb.eqv xs ys];by_cases h:d=e
  ·subst h
   by_cases h2:ds=es
   ·subst h2;simp
   ·simp [h2]
  ·simp [h]
end
section
variable {P:Program} {w:World}
mutual
def kh (P:Program) (w:World):PyData->Int
 | .int i=>(XJ P w).hash (.inl i)
 | .str x=>(XJ P w).hash (.inr x)
 | .tuple ds=>reduceHash (Builtin.Tuple.tupleHashOf (dI P w ds))
 | _=>0
def dI (P:Program) (w:World):List PyData->List Int
 | []=>[]
 | d::ds=>kh P w d::dI P w ds
end
mutual
def kdr:PyData->Nat
 | .int _=>1
 | .str _=>1
 | .tuple ds=>Wg ds+1
 | _=>0
def Wg:List PyData->Nat
 | []=>0
 | d::ds=>kdr d+Wg ds
end
theorem Tq (a b:List PyData):dI P w (a++b)=dI P w a++dI P w b:=by
 induction a with
 | nil=>simp [dI]
 | cons x a ih=>simp [dI,ih]
theorem Tr (a b:List PyData):Wg (a++b)=Wg a+Wg b:=by
 induction a with
 | nil=>simp [Wg]
 | cons x a ih=>simp [Wg,ih,Nat.add_assoc]
theorem Tt (a b:List PyData):PyData.depthAll (a++b)=max (PyData.depthAll a) (PyData.depthAll b):=by
 induction a with
 | nil=>simp [PyData.depthAll]
 | cons x a ih=>simp [PyData.depthAll,ih,Nat.max_assoc]
theorem UT {s:Shared} {a:Addr} {o:Obj} (h1:s.heap.get? a=some o) (h2:o.cls = .type "tuple"):s.TypeIs (.ref a) "tuple":=⟨o,h1,h2⟩
theorem GK:∀ (n:Nat) {A:Around} {E:Value->Shared->Prop} {s:Shared} {v:Value} {d:PyData} {Q:Int->Shared->Prop},RK s.heap v d->d.depth<=n->A.units+n<cLine->Q (kh P w d) { s with toks:=s.toks+kdr d }->wpAny (model P w) A (pyHash v) Q E s
 | n,A,E,s,_,_,Q,.int i t,_,_,h=>(XJ P w).pyHash (Fe (k := .inl i) (show Yw (.int i) (.int i t) from ⟨t,rfl⟩)) (by simpa [kh,kdr] using h)
 | n,A,E,s,_,_,Q,.str x t _,_,_,h=>(XJ P w).pyHash (Fe (k := .inr x) (show Yw (.str x) (.str x t) from ⟨t,rfl⟩)) (by simpa [kh,kdr] using h)
 | 0,A,E,s,_,_,Q,.tup _ _ _ _,hd,_,h=>by simp [PyData.depth] at hd
 | n+1,A,E,s,_,_,Q,.tup (a:=a) (ds:=ds) h1 h2 h3 ks,hd,hu,h=>by
  have hT:=UT h1 h2;unfold pyHash
  first | unfold pyHashByItsType | skip
  first | refine wpAny_bind (wpAny_cRoomFor_or (.inr (by omega)) ?_) | skip
  refine wpAny_bind (wpAny_specialOf hT F.slot_tuple_hash.lookup ?_)
  show wpAny _ _ (if (some (Value.builtin "tuple.__hash__")==some Value.none)=true then _ else _) Q E s
  rw [if_neg (by rw [beq_builtin_none];exact Bool.false_ne_true)];refine wpAny_bind (wpAny_specialOf hT F.slot_tuple_hash.lookup ?_);refine wpAny_bind (wpAny_callSpecialIfBoundUnlessNone?_slot hT F.slot_tuple_hash (wpAny_call_entry F.slot_tuple_hash hT F.entry_tuple_hash ?_ (F.args_tuple_hash_1 _)))
  show wpAny _ _ (Builtin.Tuple.tupleItemsOf (.ref a) >>= _) _ _ s
  refine wpAny_bind (wpAny_tupleItemsOf h1 h3 ?_);refine wpAny_bind ?_;rw [<- Array.forIn_toList];have hdd:PyData.depthAll ds<=n:=by simp only [PyData.depth] at hd;omega
  refine wpAny_forIn_list _ (fun rest (b:Array Int) s'=>∃ done left,ds=done++left/\c7 s.heap rest left/\b.toList=dI P w done/\s'={ s with toks:=s.toks+Wg done }) _ ?_ ?_ _ _ ⟨[],ds,rfl,ks,by simp [dI],by simp [Wg]⟩
  ·rintro x rest b s' ⟨done,left,e,hl,hb,rfl⟩
   cases hl with
   | @cons _ d _ ds' hk hl' =>
    have hdk:d.depth<=n:=by
     rw [e,Tt] at hdd
     simp only [PyData.depthAll] at hdd;omega
    have hin:A.in1.units+n<cLine:=by
     have:A.in1.units=A.units+1:=rfl;omega
    refine wpAny_bind (GK n (s:={ s with toks:=s.toks+Wg done }) hk hdk hin ?_);have fin:∃ nR left',ds=nR++left'/\c7 s.heap rest left'/\(b.push (kh P w d)).toList=dI P w nR/\({ s with toks:=s.toks+Wg done+kdr d }:Shared)={ s with toks:=s.toks+Wg nR } :=
     ⟨done++[d],ds',by rw [e];simp,hl',by rw [Tq,Array.toList_push,hb];simp [dI],by rw [Tr];simp [Wg,Nat.add_assoc]⟩
    first
     | exact wpAny_pure fin
     | exact wpAny_bind (wpAny_pure (wpAny_pure fin))
  ·rintro b s' ⟨done,left,e,hl,hb,rfl⟩
   cases hl
   rw [List.append_nil] at e
   subst e
   show wpAny _ _ (retInt (Builtin.Tuple.tupleHashOf b.toList)) _ _ _
   rw [hb];refine wpAny_ret_mkInt ?_;simp only [kh,kdr] at h;unfold reduceHash at h
   show wpAny _ _ (if (decide (-(2:Int)^63<=Builtin.Tuple.tupleHashOf (dI P w ds))&&decide (Builtin.Tuple.tupleHashOf (dI P w ds)<2^63))=true then _ else _) Q E _
   by_cases hr:(decide (-(2:Int)^63<=Builtin.Tuple.tupleHashOf (dI P w ds))&&decide (Builtin.Tuple.tupleHashOf (dI P w ds)<2^63))=true
   ·rw [if_pos hr]
    rw [if_pos hr] at h
    exact wpAny_pure (by simpa [Nat.add_assoc] using h)
   ·rw [if_neg hr]
    rw [if_neg hr] at h
    exact wpAny_bind (wpAny_rule (wpAny_pure (by simpa [Nat.add_assoc] using h)))
theorem GP:∀ (n:Nat) {A:Around} {E:Value->Shared->Prop} {s:Shared} {v:Value} {d:PyData} {Q:Bool->Shared->Prop},RK s.heap v d->d.depth<=n->Q true s->wpAny (model P w) A (eqIsQuiet n v) Q E s
 | n,A,E,s,_,_,Q,.int i t,_,h=>by rw [eqIsQuiet_byValue _ (by rfl)];exact wpAny_pure h
 | n,A,E,s,_,_,Q,.str x t _,_,h=>by rw [eqIsQuiet_byValue _ (by rfl)];exact wpAny_pure h
 | 0,A,E,s,_,_,Q,.tup _ _ _ _,hd,h=>by simp [PyData.depth] at hd
 | n+1,A,E,s,_,_,Q,.tup (a:=a) (ds:=ds) h1 h2 h3 ks,hd,h=>by
  have hT:=UT h1 h2;have hdd:PyData.depthAll ds<=n:=by simp only [PyData.depth] at hd;omega
  unfold eqIsQuiet;refine wpAny_bind (wpAny_specialOf hT F.slot_tuple_eq.lookup ?_);refine wpAny_bind (wpAny_isInstance hT isSubtype_tuple_tuple ?_);simp only [Bool.not_true,Bool.false_eq_true,if_false];refine wpAny_bind (wpAny_seqItems h1 h3 ?_);refine wpAny_bind ?_;rw [Option.getD_some,<- Array.forIn_toList];refine wpAny_forIn_list _ (fun rest r s'=>r.1=none/\s'=s/\∃ left,c7 s.heap rest left/\PyData.depthAll left<=n) _ ?_ ?_ _ _ ⟨rfl,rfl,ds,ks,hdd⟩
  ·rintro v rest r s' ⟨hr,rfl,left,hl,hdl⟩
   cases hl with
   | @cons _ d _ ds' hk hl' =>
    simp only [PyData.depthAll] at hdl;refine wpAny_bind (GP n hk (by omega) ?_);simp only [Bool.not_true,Bool.false_eq_true,if_false];exact wpAny_pure ⟨rfl,rfl,ds',hl',by omega⟩
  ·rintro ⟨r1,r2⟩ s' ⟨hr,rfl,_⟩
   simp only at hr;subst hr;exact wpAny_pure h
noncomputable def j9 (P:Program) (w:World):HeapKind P w PyData where
 is:=fun h d a=>RK h (.ref a) d/\d.depth<=8
 hash:=kh P w
 draws:=kdr
 room:=fun A=>A.units+8<cLine
 inj:=fun hx hy=>hx.1.inj hy.1
 keeps:=fun x ho hd hs=>⟨x.1.keeps ho hd hs,x.2⟩
 pyHash:=fun hu hk h=>GK 8 hk.1 hk.2 hu h
 eqBool:=fun {A E s x y a b Q} hu hx hy h=>by
  obtain ⟨⟨as,r1⟩,l1⟩:=hx.1.reads;obtain ⟨⟨bs,r2⟩,l2⟩:=hy.1.reads;have hm:min x.depth y.depth<=8:=Nat.le_trans (Nat.min_le_left _ _) hx.2;exact SeqAt.eqAt_reads x y A s _ _ _ _ r1 r2 l1 l2 (by omega) P w E Q (by rw [KO.eqv hx.1.ko hy.1.ko];exact h)
 quiet:=fun hk h=>GP 8 hk.1 hk.2 h
end
abbrev Dx:=List (PyData×Addr×Addr)
def GQ (x:PyData×Addr×Addr):PyData×Addr×Value:=(x.1,x.2.1,.ref x.2.2)
noncomputable def uh (P:Program) (w:World) (a:Addr) (xs:Dx):HO := .ext fun h=>(a==sysModules)=false/\∃ o es ep,h.get? a=some o/\o.ExactDict/\o.data = .dict es ep/\es.toList=(xs.map GQ).map (entryOfKey (j9 P w))
theorem Tv {P:Program} {w:World} {H:Hp} {h:Heap} {a:Addr} {xs:Dx} (hd:(a==sysModules)=false) (e:∃ o es ep,h.get? a=some o/\o.ExactDict/\o.data = .dict es ep/\es.toList=(xs.map GQ).map (entryOfKey (j9 P w))):YN P w H h a (uh P w a xs):=by
 refine ⟨⟨hd,e⟩,?_,fun h1 h2 p k=>?_⟩
 ·obtain ⟨o,es,ep,h1,_⟩:=e
  exact ⟨o,h1⟩
 ·obtain ⟨q,o,es,ep,g1,g2⟩:=p
  exact ⟨q,o,es,ep,k _ g1,g2⟩
def Tw (P:Program) (w:World):TE:=fun _ H Q=>∀ p,H p=none->Q (.ref p) (upd H p (uh P w p []))
section
variable {X:Cx} {o i e value:Expr} {pos pos' tpos:Pos} {td ty tv:TE} {k:Nat}
theorem Tz:PE X (.Dict [] [] pos) (Tw X.prog X.w):=fun pins s σ H Q I h =>
 wpAny_Dict_empty ⟨.ref s.heap.objs.size,_,I.laid (a:=s.heap.objs.size) (o:=uh X.prog X.w s.heap.objs.size []) (t':=s.toks) (fun _ _ q=>Heap.get?_push_of_some _ q) (Nat.le_refl _) (Tv (beq_eq_false_iff_ne.mpr (Ne.symm (Nat.ne_of_lt I.big))) ⟨_,#[],0,Heap.get?_push_size _ rfl,⟨rfl,rfl,rfl⟩,rfl,rfl⟩),rfl,h _ (I.hok.fresh (Nat.le_refl _))⟩
end
end L2
namespace PySem.W
open PySem PyProof.Rows
open Builtin Builtin.ObjectAttr
section
variable {prog:Program} {w:World} {A:Around} {E:Value->Shared->Prop} {s:Shared} {K:Frag} {x C C' D:Addr} {ox:Obj} {od:Option Obj} {mA:Str->Option Value} {name:Str} {v:Value} {R:Result->Shared->Prop}
def fO (K:Frag) (C C':Addr):Bool:=(clsIn K C).any fun cd=>cd.mro==[.ref C,.ref C',.type "ValueError",.type "Exception",.type "BaseException",.type "object"]
theorem UU {tk:Tok} (X:K.In s.heap) (I:InstAt s.heap x ox C od) (hm:fO K C C'=true) (ha:findIn K (.ref C) name=some none)
  (h:wpAny (model prog w) A.in1 (storeInOwnDict (.ref x) (.ref C) (.str name tk) name v false)
   (fun fin s'=>match fin with | .done f=>R (.ok f) s' | .again c'=>c'.quiet=true/\codeAny (model prog w) A c' R s') (fun e s'=>R (.error e) s') s) :
  codeAny (model prog w) A (.call (.builtin "object.__setattr__") ⟨[.ref x,.str name tk,v],[]⟩) R s:=by
 have SF:=PySem.F.store_object;obtain ⟨cd,hc,ho⟩:=any_some hm;have ho:=eq_of_beq ho;have sub:Looks (model prog w) s.heap (isInstance (.ref x) (.type "object")) true:=I.type.andThen (looks_mroIn X (by unfold mroIn;rw [hc,Option.bind_some,ho];rfl));refine codeAny_call_builtin SF.slot.plain SF.entry (@check_slot (model prog w) _ _ s "object.__setattr__" "object" "__setattr__" (.ref x) [.str name tk,v] [] _ SF.kind SF.split sub (SF.args (.ref x) (.str name tk) v) ?_);have hmro:Looks (model prog w) s.heap (mroOf (.ref C)) cd.mro:=(looks_clsIn X hc).andThen .now;rw [osa_eq,refuse_eq];refine wpAny_bind (wpAny_bind (I.type.here (wpAny_bind (hmro.here ?_))));rw [ho,refuseLoop_ref,refuseLoop_ref,PySem.F.store_ValueError.passes];refine wpAny_pure (wpAny_bind (I.type.here (wpAny_bind ((looks_findIn X ha).here (wpAny_bind (wpAny_pure ?_))))));exact h
end
section
variable {prog:Program} {w:World} {A:Around} {E:Value->Shared->Prop} {s:Shared} {K:Frag} {x C C' D:Addr} {ox:Obj} {od:Option Obj} {mA:Str->Option Value} {name:Str} {v:Value} {vs:Array Value} {Q:Unit->Shared->Prop}
theorem GR (hf:ox.data = .fields vs):notCls ox=true:=by unfold notCls;rw [hf]
theorem nU {ns:List Str} (X:K.In s.heap) (hx:s.heap.get? x=some ox) (hc:ox.cls = .ref C) (hf:ox.data = .fields vs) (hdc:ox.dict=some D) (hn:s.heap.Ns1 D mA) (hne:D≠x) (hd:hasDictIn K C=true) (hm:fO K C C'=true) (ha:findIn K (.ref C) name=some none)
  (hs:findIn K (.ref C) "__setattr__"=some (some (.builtin "object.__setattr__"))) (hw:PySem.Within mA ns) (hsz:ns.length<=sizeLine)
  (h:∀ h',h'.Ns1 D (fun y=>if y=name then some v else mA y)->Heap.SameBut D s.heap h'->Q () { s with heap:=h',toks:=s.toks+2 }):wpAny (model prog w) A (setAttr (.ref x) name v) Q E s:=by
 obtain ⟨oD,_,_,Lq,_⟩:=id hn;have J:InstAt s.heap x ox C (some oD):=⟨hx,hc,GR hf,by rw [hdc];exact Lq⟩;refine set_plain X J hs (UU (s:={ s with toks:=s.toks+1 }) (C':=C') X J hm ha ?_);obtain ⟨cd,hcd,hd'⟩:=any_some hd;refine wpAny_bind (wpAny_pure (wpAny_bind (wpAny_bind (wpAny_loadPart hx ?_))));simp only [hc];refine wpAny_bind (Looks.here (s:={ s with toks:=s.toks+1 }) (looks_clsIn X hcd) ?_);rw [hd',hdc];refine wpAny_pure (a:=some D) (wpAny_bind (wpAny_pure (wpAny_bind ?_)));refine wpAny_nsSet1 (s:={ s with toks:=s.toks+1 }) hn fun h' hn2 hs2=>?_
 obtain ⟨oD,esD,epD,hoD,hdD,hcD⟩:=hn2.count (PySem.Within.cons name v hw);refine wpAny_bind (wpAny_lookBehind hoD (by rw [hdD];exact pastItsLine_dict (Nat.le_trans hcD (by rw [List.length_cons];omega))) ?_);exact wpAny_pure (h _ hn2 hs2)
theorem pI (X:K.In s.heap) (hx:s.heap.get? x=some ox) (hc:ox.cls = .ref C) (hf:ox.data = .fields vs) (hdc:ox.dict=none) (hd:hasDictIn K C=true) (hm:fO K C C'=true) (ha:findIn K (.ref C) name=some none)
  (hs:findIn K (.ref C) "__setattr__"=some (some (.builtin "object.__setattr__")))
  (h:∀ h',h'.Ns1 s.heap.objs.size (fun y=>if y=name then some v else none)->h'.get? x=some { ox with dict:=some s.heap.objs.size }->(∀ b o,b≠x->s.heap.get? b=some o->h'.get? b=some o)->Q () { s with heap:=h',toks:=s.toks+2 }):wpAny (model prog w) A (setAttr (.ref x) name v) Q E s:=by
 have J:InstAt s.heap x ox C none:=⟨hx,hc,GR hf,by rw [hdc];exact True.intro⟩;refine set_plain X J hs (UU (s:={ s with toks:=s.toks+1 }) (C':=C') X J hm ha ?_);obtain ⟨cd,hcd,hd'⟩:=any_some hd;refine wpAny_bind (wpAny_pure (wpAny_bind (wpAny_bind (wpAny_loadPart hx ?_))));simp only [hc];refine wpAny_bind (Looks.here (s:={ s with toks:=s.toks+1 }) (looks_clsIn X hcd) ?_);rw [hd',hdc,hf];rw [if_neg (by decide)];dsimp only;rw [if_neg (by simp [typeHasDict])];have hx₁:(s.heap.push { cls := .type "dict",data := .dict #[] }).get? x=some ox:=Heap.get?_push_of_some _ hx;have hxs:x≠s.heap.objs.size:=Nat.ne_of_lt (Heap.lt_size hx);refine wpAny_bind (wpAny_alloc' (wpAny_bind (wpAny_update' hx₁ (wpAny_pure ?_))));generalize hH:(s.heap.push { cls := .type "dict",data := .dict #[] }).update x (fun o=>{ cls:=o.cls,dict:=some s.heap.objs.size,data:=o.data,slots:=o.slots })=H2;have hgd:H2.get? s.heap.objs.size=some { cls := .type "dict",data := .dict #[] }:=by
  rw [<- hH];exact (Heap.get?_update_ne _ _ _ _ hxs.symm).trans (Heap.get?_push_at rfl rfl)
 have hx2:H2.get? x=some { cls:=ox.cls,dict:=some s.heap.objs.size,data:=ox.data,slots:=ox.slots }:=by
  rw [<- hH];refine Heap.get?_update_self _ hx₁ ?_;have hfr:=(Heap.get?_some_iff.mp hx).2;obtain ⟨oc,od,odt,osl⟩:=ox
  cases odt<;>first | rfl | exact hfr
 have hko:∀ b o,b≠x->s.heap.get? b=some o->H2.get? b=some o:=fun b o hb e=>by
  rw [<- hH];exact (Heap.get?_update_ne _ _ _ _ hb).trans (Heap.get?_push_of_some _ e)
 have hnd:H2.Ns s.heap.objs.size (fun _=>none):=⟨_,#[],_,hgd,rfl,fun e he=>absurd he (by simp),fun _=>rfl⟩;refine wpAny_bind (wpAny_pure (wpAny_bind ?_));refine wpAny_nsSet1 (s:={ s with heap:=H2,toks:=s.toks+1 }) (Heap.Ns1.of_empty hnd) fun h' hn2 hs2=>?_
 obtain ⟨oD,esD,epD,hoD,hdD,hcD⟩:=hn2.count (PySem.Within.cons name v PySem.Within.nil);refine wpAny_bind (wpAny_lookBehind hoD (by rw [hdD];exact pastItsLine_dict (Nat.le_trans hcD (by rw [List.length_cons,List.length_nil,sizeLine_eq];omega))) ?_);exact wpAny_pure (h _ hn2 ((hs2.2 x hxs).trans hx2) fun b o hb e=>(hs2.2 b (Nat.ne_of_lt (Heap.lt_size e))).trans (hko b o hb e))
end
end PySem.W
namespace PySem.W
open PySem PyProof.Rows
theorem TF {K:Frag} {h:Heap} {N:Addr} {mg:Str->Option Value} {n:Str} {v:Value} (X:K.In h) (G:h.Ns N mg) (e:nsIn K N n=some (some v)):mg n=some v:=by
 obtain ⟨o,es,ep,ho,hd,_,hf⟩:=G;unfold nsIn at e
 split at e
 ·rename_i c d es' n' sl q
  have:=X _ _ q;rw [ho] at this
  cases this
  cases hd
  split at e
  ·rename_i he
   rw [<- hf];unfold nsFind findBy;rw [<- Array.find?_toList,he]
   cases e
   rfl
  ·split at e<;>cases e
 ·cases e
def d8 (K:Frag) (C:Addr) (tl:List Value) (nw:String) (f:Addr):Bool:=match K.lookup C with
 | some ⟨.type "type",_,.cls cd,sl⟩=>(match cd.mro,sl.toList with
  | .ref c::bm,[_,_,_,_,some (.builtin n),_]=>(c==C&&n==nw)&&((!cd.hasDel&&tailIn K tl bm)&&(nsOkIn K cd.ns&&nsIn K cd.ns "__init__"==some (some (.ref f))))
  | _,_=>false)
 | _=>false
theorem eO {K:Frag} {h:Heap} {C f:Addr} {tl:List Value} {nw:String} (In:K.In h) (q:d8 K C tl nw f=true) :
  ∃ (bm:List Value) (ns:Addr) (nm qn:Str) (bs:List Value) (hd:Bool) (sn:List Str) (sub:List Value) (ab:Bool) (col:Option Bool) (dd:Option Addr) (k0 k1 k2 k3 k5:Option Value) (mN:Str->Option Value),
   h.get? C=some (excClassObj nm qn C ns bs bm hd sn sub ab col dd k0 k1 k2 k3 k5 nw)/\h.Ns ns mN/\mN "__init__"=some (.ref f)/\OwnTail h tl bm:=by
 unfold d8 at q
 split at q
 case h_2=>exact absurd q (by decide)
 case h_1 dd cd sl lk =>
  split at q
  case h_2=>exact absurd q (by decide)
  case h_1 c2 bm k0 k1 k2 k3 n k5 em es =>
   simp only [beq_iff_eq,Bool.and_eq_true,Bool.not_eq_true'] at q;obtain ⟨⟨q1,q2⟩,⟨q3,q4⟩,q5,q6⟩:=q;obtain ⟨nm,bs,mro,ns,qn,hd,sn,sub,ab,col,del⟩:=cd;obtain ⟨lst⟩:=sl;dsimp only at em q3 q5 q6 es;subst q1 q2 em q3 es;have hN:h.Ns ns _ := .of_isNs (isNs_of_in In q5);exact ⟨bm,ns,nm,qn,bs,hd,sn,sub,ab,col,dd,k0,k1,k2,k3,k5,_,In _ _ lk,hN,TF In hN q6,tail_of_in In q4⟩
abbrev W3 (a0:Value):Array Value:=#[a0,.none,.none,.none,.bool false,.none]
section
variable {prog:Program} {w:World} {A:Around} {E:Value->Shared->Prop} {h:Heap} {g:Array GenState} {d:Drawn} {t:Nat} {os:OsState}
variable {nm q:Str} {C N:Addr} {bs bm bmB:List Value} {hdct:Bool} {sn:List Str} {sub:List Value} {ab:Bool} {col:Option Bool} {dd:Option Addr} {k0 k1 k2 k3 k5:Option Value} {B newId initId:String}
theorem QU (F:ExcBaseFacts B newId initId bmB) (T:OwnTail h bmB bm) {mN:Str->Option Value} {rest:List Value} {fI:Addr} {oI:Obj} {Q:Fin->Shared->Prop}
  (hC:h.get? C=some (excClassObj nm q C N bs bm hdct sn sub ab col dd k0 k1 k2 k3 k5 newId)) (hn:h.Ns N mN) (hi:mN "__init__"=some (.ref fI))
  (hfI:h.get? fI=some oI) (hfc:oI.cls = .type "function")
  (hq:∀ h' e,Heap.MadeExcOf h h' e (.ref C) rest->e=h.objs.size+1 ->
   wpAny (model prog w) A (call (.ref fI) (.ref e::rest)) (fun r s'=>r = .none/\Q (.done (.ret (.ref e))) s') E ⟨h',g,d,t,os⟩) (hrest:rest.length<=sizeLine) :
  wpAny (model prog w) A (Builtin.«type.__call__» ⟨.ref C::rest,[]⟩) Q E ⟨h,g,d,t,os⟩:=by
 repeat (first | with_reducible refine wpAny_loadPart_at hC ?_ | with_reducible refine wpAny_madeBy_exc hC ?_ | wp_step)
 refine codeAny_call_builtin_code (Code.quiet_builtin _ F.quiet) (wpAny_check_new_subT F T hC ?_);refine codeAny_exc_new_subT F T hC ?_ hrest
 show wpAny _ _ _ _ _ _
 have keep:∀ b o,h.get? b=some o->((h.push { cls := .type "tuple",data := .seq rest.toArray }).push { cls := .ref C,data := .fields #[.ref h.objs.size,.none,.none,.none,.bool false,.none] }).get? b=some o :=
  fun b o e=>Heap.get?_push_of_some _ (Heap.get?_push_of_some _ e)
 have hget:((h.push { cls := .type "tuple",data := .seq rest.toArray }).push
   { cls := .ref C,data := .fields #[.ref h.objs.size,.none,.none,.none,.bool false,.none] }).get? (h.objs.size+1)=some
   { cls := .ref C,data := .fields #[.ref h.objs.size,.none,.none,.none,.bool false,.none] }:=by heap_get
 have hC₁:=keep _ _ hC;have hn₁:=hn.keeps keep;have hcC:(Value.ref C::bm).contains (.ref C)=true:=by simp
 have T₁:=T.keeps keep;unfold isInstance
 repeat (first | with_reducible refine wpAny_loadPart_at hget ?_ | (with_reducible refine wpAny_isSubtype_exc hC₁ ?_;rw [hcC]) | wp_step)
 show wpAny _ _ (typeLookup (.ref C) _) _ _ _
 refine wpAny_typeLookup_tail hC₁ hn₁ T₁ F.mroIs F.init.lookup ?_;rw [hi];refine wpAny_holding (wpAny_bind ?_);unfold bindSpecial;refine wpAny_bind (wpAny_typeOf (T:="function") ⟨_,keep _ _ hfI,hfc⟩ ?_);rw [if_pos (by decide)];refine wpAny_pure (wpAny_bind (wpAny_mono (hq _ (h.objs.size+1) ⟨keep,Heap.get?_none_of_le (Nat.le_succ _),h.objs.size,hget,Heap.get?_none_of_le (Nat.le_refl _),?_⟩ rfl) (fun r s' hr=>?_) fun _ _ x=>x))
 ·exact Heap.get?_push_of_some _ (Heap.get?_push_at rfl rfl)
 ·obtain ⟨rfl,hQ⟩:=hr
  wp_walk
  exact hQ
theorem jm (F:ExcBaseFacts B newId initId bmB) (T:OwnTail h bmB bm) {mN:Str->Option Value} {rest:List Value} {fI:Addr} {oI:Obj} {Q:Value->Shared->Prop}
  (hC:h.get? C=some (excClassObj nm q C N bs bm hdct sn sub ab col dd k0 k1 k2 k3 k5 newId)) (hn:h.Ns N mN) (hi:mN "__init__"=some (.ref fI))
  (hfI:h.get? fI=some oI) (hfc:oI.cls = .type "function")
  (hq:∀ h' e,Heap.MadeExcOf h h' e (.ref C) rest->e=h.objs.size+1 ->
   wpAny (model prog w) (A.under (.builtin "type.__call__" ⟨.ref C::rest,[]⟩)) (call (.ref fI) (.ref e::rest)) (fun r s'=>r = .none/\Q (.ref e) s') E ⟨h',g,d,t,os⟩) (hrest:rest.length<=sizeLine) :
  wpAny (model prog w) A (call (.ref C) rest) Q E ⟨h,g,d,t,os⟩:=by
 have f1:=tc_lookup;have f2:=tc_bind (.ref C);have hT:(⟨h,g,d,t,os⟩:Shared).TypeIs (.ref C) "type":=⟨_,hC,rfl⟩;refine wpAny_call (codeAny_of_tree ?_)
 show wpAny _ _ (callAny (.ref C) _) _ _ _
 repeat (any_goals (first | assumption | with_reducible refine wpAny_loadPart_at hC ?_ | wp_step))
 refine ⟨rfl,?_⟩;exact codeAny_call_builtin_at (Code.quiet_builtin _ (by decide +kernel)) entry_typeCall (wpAny_check_type_call_sub hC (QU F T hC hn hi hfI hfc (fun h' e hm he=>hq h' e hm he) hrest))
theorem jq (F:ExcBaseFacts B newId initId bmB) (T:OwnTail h bmB bm) {e:Addr} {dc:Option Addr} {sl:Array (Option Value)} {t0:Addr} {m:Value} {Q:Value->Shared->Prop}
  (hC:h.get? C=some (excClassObj nm q C N bs bm hdct sn sub ab col dd k0 k1 k2 k3 k5 newId)) (he:h.get? e=some ⟨.ref C,dc,.fields (W3 (.ref t0)),sl⟩)
  (hq:∀ h' T,h'.get? e=some ⟨.ref C,dc,.fields (W3 (.ref T)),sl⟩->(∀ b o,b≠e->h.get? b=some o->h'.get? b=some o)->Q .none ⟨h',g,d,t,os⟩) :
  wpAny (model prog w) A (call (.builtin initId) [.ref e,m]) Q E ⟨h,g,d,t,os⟩:=by
 refine wpAny_call (codeAny_call_builtin F.init.plain F.initEntry (wpAny_check_init_subT F T hC he rfl ?_));have um:(h.push { cls := .type "tuple",data := .seq [m].toArray }).get? e=some ⟨.ref C,dc,.fields (W3 (.ref t0)),sl⟩:=Heap.get?_push_of_some _ he
 wp_walk
 refine hq _ h.objs.size ((Heap.get?_update_self _ um rfl).trans rfl) fun b o hb eb=>?_
 exact (Heap.get?_update_other _ _ (Ne.symm hb)).trans (Heap.get?_push_of_some _ eb)
end
section
variable {M:Model} {A:Around} {E:Value->Shared->Prop} {env:Env}
variable {nm q:Str} {C N:Addr} {bs bm bmB:List Value} {hdct:Bool} {sn:List Str} {sub:List Value} {ab:Bool} {col:Option Bool} {dd:Option Addr} {k0 k1 k2 k3 k5:Option Value} {B newId initId:String}
theorem Vh {s:Shared} {x:Sem Value} {Q:Flow->Shared->Prop} (hbase:bm.contains (.type "BaseException")=true) (hh:A.handled=none)
  (h:wpAny M A x (fun v s₁=>∃ e dc t0 sl,v = .ref e/\s₁.heap.get? C=some (excClassObj nm q C N bs bm hdct sn sub ab col dd k0 k1 k2 k3 k5 newId)/\s₁.heap.get? e=some ⟨.ref C,dc,.fields (W3 (.ref t0)),sl⟩/\E (.ref e) s₁) E s) :
  wpAny M A (raiseStmt env (some x) none) Q E s:=by
 have hcB:(Value.ref C::bm).contains (.type "BaseException")=true:=by rw [List.contains_cons,hbase,Bool.or_true]
 unfold raiseStmt;refine wpAny_bind (wpAny_mono h (fun v s₁ h₁=>?_) fun _ _ x=>x);obtain ⟨e,dc,t0,sl,rfl,hC,he,hE⟩:=h₁;obtain ⟨hp,g,d,tk,os⟩:=s₁
 repeat (first | with_reducible refine wpAny_loadPart_at he ?_ | with_reducible refine wpAny_loadPart_at hC ?_ | (with_reducible refine wpAny_isSubtype_exc hC ?_;rw [hcB]) | wp_step)
 exact wpAny_raiseNew_none hh hE
end
section
variable {prog:Program} {w:World} {A:Around} {E:Value->Shared->Prop} {s:Shared} {env:Env}
variable {nm q:Str} {C N:Addr} {bs bm bmB:List Value} {hdct:Bool} {sn:List Str} {sub:List Value} {ab:Bool} {col:Option Bool} {dd:Option Addr} {k0 k1 k2 k3 k5:Option Value} {B newId initId:String}
theorem iK {x:Str} {np cpos pos:Pos} {args:List Expr} {Q:Flow->Shared->Prop}
  (hbase:bm.contains (.type "BaseException")=true) (hh:A.handled=none) (hplain:(backTo cpos (starEach args env)).any (·.1)=false)
  (h:wpAny (model prog w) A (eval (.Name x np) env) (fun f s₁=>f = .ref C/\wpAny (model prog w) A (evalArgs (.ref C) true (backTo cpos (starEach args env)) [])
   (fun a s₂=>a.kw=[]/\s₂.heap.get? C=some (excClassObj nm q C N bs bm hdct sn sub ab col dd k0 k1 k2 k3 k5 newId) /\
    wpAny (model prog w) A (call (.ref C) a.pos) (fun v s₃=>∃ e dc t0 sl,v = .ref e/\s₃.heap.get? C=some (excClassObj nm q C N bs bm hdct sn sub ab col dd k0 k1 k2 k3 k5 newId)/\s₃.heap.get? e=some ⟨.ref C,dc,.fields (W3 (.ref t0)),sl⟩/\E (.ref e) s₃) E s₂) E s₁) E s) :
  wpAny (model prog w) A (exec (.Raise (some (.Call (.Name x np) args [] cpos)) none pos) env) Q E s:=by
 rw [arm_exec_Raise]
 first
  | refine wpAny_bind (wpAny_standAt (Vh (C:=C) (nm:=nm) (q:=q) (N:=N) (bs:=bs) (bm:=bm) (hdct:=hdct) (sn:=sn) (sub:=sub) (ab:=ab) (col:=col) (dd:=dd) (k0:=k0) (k1:=k1) (k2:=k2) (k3:=k3) (k5:=k5) (newId:=newId) hbase hh (wpAny_bind (wpAny_mono (wpAny_Call_ofName (wpAny_mono h (fun f s₁ h₁=>?_) fun _ _ x=>x)) (fun v s₃ h₃=>wpAny_bind (wpAny_standAt (wpAny_pure h₃))) fun _ _ x=>x))))
  | (refine wpAny_bind (wpAny_standAt (Vh (C:=C) (nm:=nm) (q:=q) (N:=N) (bs:=bs) (bm:=bm) (hdct:=hdct) (sn:=sn) (sub:=sub) (ab:=ab) (col:=col) (dd:=dd) (k0:=k0) (k1:=k1) (k2:=k2) (k3:=k3) (k5:=k5) (newId:=newId) hbase hh ?_));refine wpAny_bind (wpAny_mono (wpAny_Call_ofName (wpAny_mono h (fun f s₁ h₁=>?_) fun _ _ x=>x)) (fun v s₃ h₃=>wpAny_bind (wpAny_standAt (wpAny_pure h₃))) fun _ _ x=>x))
 obtain ⟨rfl,h₁⟩:=h₁;unfold callWith;refine wpAny_bind (wpAny_holding (wpAny_mono h₁ (fun a s₂ h₂=>wpAny_bind (wpAny_standAt ?_)) fun _ _ x=>x));obtain ⟨apos,akw⟩:=a;obtain ⟨hkw,hC,h₂⟩:=h₂;obtain rfl:akw=[]:=hkw;obtain ⟨hp,g,d,tk,os⟩:=s₂;simp only [hplain];refine wpAny_bind (wpAny_keeperOf_exc hC ?_);exact wpAny_bind (wpAny_mono h₂ (fun v s₃ h₃=>wpAny_bind (wpAny_holding (wpAny_point (wpAny_pure h₃)))) fun _ _ x=>x)
end
end PySem.W
namespace L2
open PySem PySem.Spec PyProof.Rows
open PySem.W (W3)
def XE (a:Addr) (cls:Value) (dc:Option Addr):HO := .ext fun h=>∃ t0 sl,h.get? a=some ⟨cls,dc,.fields (W3 (.ref t0)),sl⟩
def del (H:Hp) (a:Addr):Hp:=fun b=>if b=a then none else H b
theorem TJ {H:Hp} {a:Addr}:del H a a=none:=by unfold del;rw [if_pos rfl]
theorem WS {H:Hp} {a b:Addr} (h:b≠a):del H a b=H b:=by unfold del;rw [if_neg h]
theorem TQ {H:Hp} {a b:Addr} {o:HO} (h:del H a b=some o):b≠a/\H b=some o:=by
 unfold del at h
 split at h
 ·cases h
 ·exact ⟨‹_›,h⟩
section
variable {P:Program} {w:World} {H:Hp} {h:Heap} {a t0:Addr} {cls:Value} {dc:Option Addr} {sl:Array (Option Value)}
theorem Qn (q:h.get? a=some ⟨cls,dc,.fields (W3 (.ref t0)),sl⟩):YN P w H h a (XE a cls dc):=⟨⟨t0,sl,q⟩,⟨_,q⟩,fun h1 h2 ⟨t,sl,p⟩ k=>⟨t,sl,k _ p⟩⟩
end
section
variable {X:Cx} {pins:List (Addr×Obj)} {σ:St} {H:Hp} {s:Shared} {e:Addr} {cls:Value} {M:Model} {A:Around} {Q:Unit->Shared->Prop} {EE:Value->Shared->Prop} {dc:Option Addr}
theorem Inv.nW (I:Inv X pins σ H s) (hs:X.stack=X.env::X.outer) (hf:X.env.frame=some X.env.locals) (hex:X.ex=[]) (hA:A.frames=some (X.env::X.outer)) (he:H e=some (XE e cls dc)) (hnew:X.s₀.heap.get? e=none)
  (hQ:∀ h'' B,cN X.prog X.w X.outer X.H₀ X.s₀.heap e cls (del H e) h'' B->Xt h'' e dc->Q () { s with heap:=h'' }):wpAny M A (leaving X.env (.ref e)) Q EE s:=by
 have nx:∀ b:Addr,b∉X.ex:=by
  rw [hex];intro b z
  cases z
 have st:=I.stack;have sf:=I.dZ;rw [hs] at st sf
 obtain ⟨⟨t0,sl,q0⟩,_,_⟩:=I.hok e _ he;have hne:∀ b o,X.s₀.heap.get? b=some o->b≠e:=fun b o q z=>by rw [z,hnew] at q;cases q
 have hd0:Xt s.heap e dc:=⟨_,q0,rfl⟩;have xT:(PySem.W.hideAll s.heap (e::frs (X.env::X.outer))).StaysIn s.heap:=fun b o q=>PySem.W.of_hideAll _ q
 refine wpAny_mono (Ur (WO _ _) hd0 (wpAny_leaving_firstW (Q:=fun _ s'=>∃ h'',s'={ s with heap:=h'' }/\cN X.prog X.w X.outer X.H₀ X.s₀.heap e cls (del H e) h'' (PySem.W.hideAll s.heap (e::frs (X.env::X.outer)))) (a0 := .ref t0) (base:=PySem.W.hideAll s.heap (e::frs (X.env::X.outer))) hA (PySem.W.funFrames_hide st fun env he a ha=>List.mem_cons_of_mem _ (List.mem_filterMap.mpr ⟨env,he,ha⟩)) hf q0 xT (PySem.W.hideAll_none _ (List.mem_cons_self ..)) rfl rfl rfl fun h'' hL=>⟨h'',rfl,?_⟩)) (fun _ s' z=>by
  obtain ⟨⟨h'',rfl,F⟩,d⟩:=z;exact hQ h'' _ F d) fun _ _ z=>z.1
 obtain ⟨k1,⟨_,_,k2⟩,k3,k4⟩:=hL;have uo:∀ b o,X.s₀.heap.get? b=some o->b∉frs X.outer->b∉e::frs (X.env::X.outer):=fun b o q nb z=>by
  rcases List.mem_cons.mp z with z | z
  ·exact hne b o q z
  ·exact I.fD hf q nb z
 refine ⟨⟨_,k1,PySem.W.hideAll_none _ (List.mem_cons_self ..),k2,k3⟩,fun b u q=>?_,fun b o q n nb=>PySem.W.hideAll_get _ (I.base.keep b o q n nb (nx b)) (uo b o q nb),fun b o q n hb=>?_,fun b o q nb=>?_,fun b o q n=>?_,fun b xs q=>?_,fun b o u q=>?_,fun b ps q=>?_⟩
 ·obtain ⟨nb,q⟩:=TQ q
  refine (I.hok b u q).stay (fun c v hc r=>PySem.W.hideAll_get _ r fun z=>?_) (fun c r=>?_) fun c xs r=>?_
  ·rcases List.mem_cons.mp z with z | z
   ·subst z
    rcases hc with hc | hc
    ·exact nb hc.symm
    ·rw [he] at hc;cases hc
   ·have n:=sf c z
    rcases hc with rfl | hc
    ·rw [n] at q;cases q
    ·rw [n] at hc;cases hc
  ·rw [WS fun z=>by rw [z,he] at r;cases r];exact r
  ·rw [WS fun z=>by rw [z,he] at r;cases r];exact r
 ·obtain ⟨sl,e1⟩:=I.base.slot b o q n hb (nx b)
  obtain ⟨_,o',e',d⟩:=I.ok.bN.mem hb;rw [q] at e'
  cases e'
  obtain ⟨sl',e2⟩:=k4 b _ e1 d;exact ⟨sl',e2⟩
 ·obtain ⟨o',e1⟩:=I.base.there b o q (nx b)
  exact ⟨o',PySem.W.hideAll_get _ e1 (uo b o q nb)⟩
 ·rw [WS (hne b o q)];exact I.base.free b o q n (nx b)
 ·have z:=I.base.tups b xs q
  rw [WS fun y=>by rw [y,he] at z;cases z];exact z
 ·have z:=I.base.bx b o u q
  rw [WS fun y=>by rw [y,he] at z;cases z];exact z
 ·obtain ⟨m,z⟩:=I.base.bI b ps q
  exact ⟨m,by rw [WS fun y=>by rw [y,he] at z;cases z];exact z⟩
end
def GX (X:Cx) (E:XK):Prop:=∀ (pins:List (Addr×Obj)) (σ:St) (H:Hp) (s:Shared) (e:Addr) (cls:Value) (dc:Option Addr),Inv X pins σ H s->H e=some (XE e cls dc)->(∀ o,X.s₀.heap.get? e=some o->e∈X.ex)->E cls dc (del H e)->X.xe (.ref e) s
section
variable {g:Gx} {N:List Str} {qual:Str} {st:Stmt} {f:Addr} {cdv:Value} {A:Around} {outer:List Env} {s:Shared} {H:Hp} {E:XK}
theorem TV:GX (g.bZ N qual st f cdv A outer s H E) E:=by
 intro pins σ H1 s1 e cls dc I he hn q;exact I.nW rfl rfl rfl I.ok.frames he (by
  cases hq:s.heap.get? e with
  | none=>exact hq
  | some o=>exact absurd (hn o hq) (by simp [We])) fun h'' B F hd=>⟨e,cls,del H1 e,B,dc,rfl,I.os,I.bare,F,hd,q⟩
end
def Wy (a:Addr) (fs:List (Str×V)):HO := .ext fun h=>∃ mA,h.Ns1 a mA/\(∀ f,Wc (fs.lookup f) (mA f))/\PySem.Within mA (fs.map (·.1))
structure xU (K:W.Frag) (C f:Addr):Prop where
 own:W.d8 K C WP "ValueError.__new__" f=true
 fn:W.isFn K (.ref f)=true
section
variable {X:Cx} {pins:List (Addr×Obj)} {σ:St} {H:Hp} {s:Shared} {C f:Addr} {k:Nat} {fd:FuncData} {ps:List Str} {sp:Sp} {ds:List Value} {bH:List V} {E:XK} {CX:dD}
theorem TX {Q:VK} {us:List Value} {vs:List V} (M:xU X.K C f) (F:aW X.prog X.w X.K X.mg X.base CX k f fd ps sp) (hr:aQ (k+1) X.A) (hb:Y7 X.K fd ps ds) (hd:Yt bH ds)
  (hx:XS CX X E) (I:Inv X pins σ H s) (r:Yt vs us) (hz:us.length<=sizeLine)
  (h:∀ x,H x=none->s.heap.get? x=none->sp (.ref x::(vs++bH)) (upd H x (XE x (.ref C) none)) (fun v H2=>v = .non/\Q (.ref x) H2) E) :
  wpAny (model X.prog X.w) X.A (call (.ref C) us) (EP X pins σ Q) X.xe s:=by
 obtain ⟨bm,ns,nm,qn,bs,hdd,sn,sub,ab,col,dd,k0,k1,k2,k3,k5,mN,hO,hN,hi,T⟩:=PySem.W.eO I.aR M.own;obtain ⟨oI,ho,hoc⟩:=Option.map_eq_some_iff.mp (beq_iff_eq.mp M.fn);obtain ⟨hh,gg,dr,tk,os⟩:=s;refine PySem.W.jm PySem.F.excBase_ValueError T hO hN hi (I.aR _ _ ho) hoc (fun h' x hm ex=>?_) hz;obtain ⟨t0,he,_,_⟩:=hm.there;have hq:=h x (I.hok.fresh (by rw [ex];exact Nat.le_succ _)) hm.new;have I2:Inv X pins σ (upd H x (XE x (.ref C) none)) ⟨h',gg,dr,tk,os⟩:=I.laid (t':=tk) (a:=x) (o:=XE x (.ref C) none) (fun b u q=>hm.keeps b u q) (by rw [ex];exact Nat.le_succ _) (Qn he);have r2:Yt (V.ref x::(vs++bH)) (Value.ref x::(us++ds)) := .cons rfl (r.append hd);have hl:(Value.ref x::us++ds).length=ps.length:=by
  have e:=r2.length;rw [F.len _ _ _ _ hq] at e
  exact e.symm
 refine wpAny_call (codeAny_mono (F.run _ X.stack _ _ ⟨Value.ref x::us,[]⟩ (Value.ref x::(us++ds)) _ _ E (hr.make C us []) (I2.env0.make C us []) (hb _ (Value.ref x::us) I2.aR hl) r2 hq) fun r s' hq'=>?_)
 cases r with
 | error e=>exact hx pins σ _ _ e s' I2 hq'
 | ok fl =>
  cases fl with
  | ret u =>
   obtain ⟨v,H',I3,rv,ev,q3⟩:=I2.after hq';subst ev;exact ⟨rv,⟨V.ref x,H',I3,rfl,q3⟩⟩
  | next=>exact False.elim hq'
  | brk=>exact False.elim hq'
  | cont=>exact False.elim hq'
end
structure kj (K:W.Frag) (C C':Addr):Prop where
 hd:W.hasDictIn K C=true
 ln:W.fO K C C'=true
 sa:W.findIn K (.ref C) "__setattr__"=some (some (.builtin "object.__setattr__"))
section
variable {P:Program} {w:World} {H:Hp} {h:Heap} {a:Addr} {fs:List (Str×V)} {mA:Str->Option Value}
theorem GZ (n:h.Ns1 a mA) (r:∀ f,Wc (fs.lookup f) (mA f)) (wi:PySem.Within mA (fs.map (·.1))):YN P w H h a (Wy a fs):=by
 obtain ⟨od,es,ep,e,c⟩:=id n;exact ⟨⟨mA,n,r,wi⟩,⟨od,e⟩,fun h1 h2 ⟨mB,⟨od,es,ep,e,c⟩,r,wi⟩ k=>⟨mB,⟨od,es,ep,k _ e,c⟩,r,wi⟩⟩
end
section
variable {X:Cx} {pins:List (Addr×Obj)} {σ:St} {H:Hp} {s:Shared} {C C' a d:Addr} {f:Str} {y:V} {u:Value} {Q:Unit->Shared->Prop} {A:Around} {E:Value->Shared->Prop} {fs:List (Str×V)}
theorem TY (I:Inv X pins σ H s) (c:kj X.K C C') (na:W.findIn X.K (.ref C) f=some none) (e:H a=some (XE a (.ref C) none)) (ry:Yw y u)
  (h:∀ d s',H d=none->d≠a->Inv X pins σ (upd (upd H d (Wy d [(f,y)])) a (XE a (.ref C) (some d))) s'->Q () s'):wpAny (model X.prog X.w) A (setAttr (.ref a) f u) Q E s:=by
 obtain ⟨⟨t0,sl,q0⟩,_,_⟩:=I.hok a _ e;refine W.pI I.aR q0 rfl rfl rfl c.hd c.ln na c.sa fun h' n1 ha hk=>?_
 have hfr:H s.heap.objs.size=none:=I.hok.fresh (Nat.le_refl _);have hne:s.heap.objs.size≠a:=fun z=>by rw [z,e] at hfr;cases hfr
 have T3:∀ b o,s.heap.get? b=some o->b≠s.heap.objs.size:=fun b o q=>Nat.ne_of_lt (Heap.lt_size q)
 have xV:∀ b,H b=none->b≠a:=fun b q z=>by rw [z,e] at q;cases q
 have oth:∀ b o,H b=some o->b≠a->(upd (upd H s.heap.objs.size (Wy s.heap.objs.size [(f,y)])) a (XE a (.ref C) (some s.heap.objs.size))) b=some o:=fun b o q n=>by
  rw [Yg n,Yg (Ym q hfr)];exact q
 refine h _ _ hfr hne (I.un (t':=s.toks+2) ⟨fun b o q n _ _=>hk b o (xV b n) q,fun b o q n _ _=>⟨o.slots,hk b o (xV b n) q⟩,fun b o q n _=>?_,fun b o q _=>?_,fun b xs q=>?_,fun b o u q=>?_,fun b ps q=>?_⟩ fun b o q=>?_)
 ·rw [Yg (xV b n),Yg (T3 b o q)];exact n
 ·by_cases z:b=a
  ·subst z;exact ⟨_,ha⟩
  ·exact ⟨o,hk b o z q⟩
 ·exact oth b _ q fun z=>by rw [z,e] at q;cases q
 ·exact oth b _ q fun z=>by rw [z,e] at q;cases q
 ·exact ⟨#[],by rw [Array.append_empty];exact oth b _ q fun z=>by rw [z,e] at q;cases q⟩
 ·by_cases z:b=a
  ·subst z
   rw [Yb] at q
   cases q
   exact Qn ha
  ·rw [Yg z] at q
   by_cases z2:b=s.heap.objs.size
   ·subst z2
    rw [Yb] at q
    cases q
    refine GZ n1 (fun g=>?_) fun g hg=>?_
    ·by_cases eg:g=f
     ·subst eg
      rw [if_pos rfl]
      show Wc (List.lookup g [(g,y)]) _
      simp only [List.lookup,beq_self_eq_true];exact ry
     ·rw [if_neg eg]
      have:(g==f)=false:=by simp [eg]
      simp only [List.lookup,this];exact True.intro
    ·by_cases eg:g=f
     ·subst eg;simp
     ·rw [if_neg eg] at hg;exact absurd rfl hg
   ·rw [Yg z2] at q
    refine (I.hok b o q).stay (fun c v hc r=>hk c v (fun zc=>?_) r) (fun c r=>?_) fun c xs r=>?_
    ·subst zc
     rcases hc with hc | hc
     ·exact z hc.symm
     ·rw [e] at hc;cases hc
    ·exact oth c _ r fun zc=>by rw [zc,e] at r;cases r
    ·exact oth c _ r fun zc=>by rw [zc,e] at r;cases r
theorem T4 (I:Inv X pins σ H s) (c:kj X.K C C') (na:W.findIn X.K (.ref C) f=some none) (e:H a=some (XE a (.ref C) (some d))) (ed:H d=some (Wy d fs)) (hl:fs.length<1000) (hne:d≠a) (ry:Yw y u)
  (h:∀ s',Inv X pins σ (upd H d (Wy d (Xb f y fs))) s'->Q () s'):wpAny (model X.prog X.w) A (setAttr (.ref a) f u) Q E s:=by
 obtain ⟨⟨t0,sl,q0⟩,_,_⟩:=I.hok a _ e;obtain ⟨⟨mA,n1,r,wi⟩,_,_⟩:=I.hok d _ ed;have hz:(fs.map (·.1)).length<=sizeLine:=by rw [List.length_map,sizeLine_eq];omega
 refine W.nU I.aR q0 rfl rfl rfl n1 hne c.hd c.ln na c.sa wi hz fun h' n2 sb=>?_
 obtain ⟨od,es,ep,eo,co⟩:=id n2;refine h _ (I.write (t':=s.toks+2) (x:=d) (e:=d) (by rw [ed];exact True.intro) (.inl rfl) (fun b q hb z=>(sb.2 b hb).trans z) ⟨od,eo⟩ (GZ n2 (fun g=>?_) fun g hg=>?_))
 ·rw [W6]
  by_cases q:g=f
  ·rw [if_pos q,if_pos q];exact ry
  ·rw [if_neg q,if_neg q];exact r g
 ·by_cases q:g=f
  ·rw [q];exact (Wq f y fs).1
  ·refine (Wq f y fs).2 g (wi g fun z=>hg ?_)
   show (if g=f then some u else mA g)=none
   rw [if_neg q];exact z
end
structure jV (g:Gx) (x:Str) (B:Addr):Prop where
 bound:g.mg x=some (.ref B)
 ga:W.specialIn g.K (.ref B) "__getattribute__"=some (some (.builtin "type.__getattribute__"))
 rd:W.readsIn g.K B (.type "type")=true
 at_:W.findCls g.K (.ref B) (.type "type") "__init__"=some (.val (.builtin "ValueError.__init__"))
def G3 (C:Addr) (t:TA):TE:=fun σ H Q=>t σ H fun vs H1=>∃ a m dc,vs=[.ref a,m]/\H1 a=some (XE a (.ref C) dc)/\Q .non H1
def G4 (C:Addr) (ta tv:TE) (f:Str):TS:=fun D σ H=>tv σ H fun y H1=>ta σ H1 fun x H2=>∃ a,x = .ref a/\((H2 a=some (XE a (.ref C) none)/\∀ d,H2 d=none->d≠a->D.nx σ (upd (upd H2 d (Wy d [(f,y)])) a (XE a (.ref C) (some d)))) \/
 ∃ d fs,H2 a=some (XE a (.ref C) (some d))/\H2 d=some (Wy d fs)/\fs.length<1000/\d≠a/\D.nx σ (upd H2 d (Wy d (Xb f y fs))))
def pJ (C:Addr) (fs:List Str):Sp:=fun vs H Q _=>∃ e us,vs = .ref e::us/\us.length=fs.length/\H e=some (XE e (.ref C) none)/\∀ d,H d=none->d≠e->Q .non (upd (upd H d (Wy d (fs.zip us))) e (XE e (.ref C) (some d)))
def Gx.gF (g:Gx) (x:Str) (C:Addr) (qual:Str) (st:Stmt) (ps:List Str):Prop:=∃ f fd,dF g.K "__init__" qual st f fd/\Y7 g.K fd ps []/\xU g.K C f/\g.mg x=some (.ref C)
def Gx.uq (g:Gx) (x:Str) (C:Addr) (ps fs:List Str):Prop:=∃ f fd,aW g.P g.w g.K g.mg g.base bL 1 f fd ps (pJ C fs)/\Y7 g.K fd ps []/\xU g.K C f/\g.mg x=some (.ref C)
theorem Gx.gF.maX {g:Gx} {x qual:Str} {C:Addr} {st:Stmt} {N ps fs:List Str} (R:g.gF x C qual st ps) (S:aH N ps (Yh st)) (len:∀ vs H Q E,pJ C fs vs H Q E->vs.length=ps.length) (b:tQ g 0 N qual st (pJ C fs)):g.uq x C ps fs:=by
 obtain ⟨f,fd,F,bd,hm,hg⟩:=R;exact ⟨f,fd,F.ok S len fun cdv A outer s H vs Q E hr h=>b f cdv A outer s H vs Q E hr h,bd,hm,hg⟩
theorem T5 {K:PySem.W.Frag} {h:Heap} {mg:Str->Option Value} {f C:Addr} {x qual:Str} {st:Stmt} {oc kV dc pm cd ct:Value} {od an:Option Addr} {sl:Array (Option Value)} (X:K.In h) (G:h.Ns mainGlobals mg) (ps:List Str) (aC:PySem.W.nsIn K mainGlobals x=some (some (.ref C)))
  (a:PySem.W.findIn K (.ref C) "__init__"=some (some (.ref f))) (o:PySem.W.d8 K C WP "ValueError.__new__" f=true) (i:PySem.W.isFn K (.ref f)=true) (l:K.lookup f=some ⟨oc,od,.func (PySem.W.fnOf "__init__" qual (Y2 st) (YR st) (Yh st) .none kV dc pm an cd ct),sl⟩) (c:PySem.W.codeIn K cd qual=true) (k:PySem.W.keepIn K (.ref f)=true)
  (b:∀ (kV doc pm:Value) (an:Option Addr) (cdv ct:Value) (us:List Value),us.length=ps.length->bindArgs (PySem.W.fnOf "__init__" qual (Y2 st) (YR st) (Yh st) .none kV doc pm an cdv ct) ⟨us,[]⟩=pure (ps.zip us)) :
  ∀ P w base,(Gx.mk P w K mg base).gF x C qual st ps:=fun P w base =>
 have F:=Vd (st:=st) l c k
 ⟨f,_,F,F.binds b,⟨o,i⟩,PySem.W.mg_of X G aC⟩
theorem Gx.gF.own {g:Gx} {x qual:Str} {C:Addr} {st:Stmt} {ps:List Str} (R:g.gF x C qual st ps):∃ f,W.d8 g.K C WP "ValueError.__new__" f=true:=by
 obtain ⟨f,_,_,_,M,_⟩:=R;exact ⟨f,M.own⟩
section
variable {g:Gx} {X:Cx} {k j:Nat} {x m f:Str} {ps:List Str} {sp:Sp} {e o value:Expr} {es:List Expr} {t:TA} {ta tv:TE} {p pos apos pos' np cpos:Pos} {C C' B:Addr} {E:XK} {fs:List Str}
theorem T6 {pl:Sem Bool} (b:jV g x B) (M:∃ fI,W.d8 g.K C WP "ValueError.__new__" fI=true) (ha:PA X (e::es) t) (hX:X.gx=g:=by rfl) (hg:Gl X x:=by rfl) (hdb:(x==("__debug__":Str))=false:=by decide)
  (hst:starEach (e::es) X.env=(false,eval e X.env)::starEach es X.env:=by rfl) (hpl:(backTo pos (starEach es X.env)).any (·.1)=false:=by rfl)
  (ht:eval (.Call (.Attribute (.Name x p) "__init__" apos) (e::es) [] pos) X.env=(do
   let ov <- eval (.Name x p) X.env
   standAt apos.atName
   let (f,first) <- holding [ov] (getMethod ov "__init__" pl)
   callWith pos f first (backTo pos (starEach (e::es) X.env)) (backToKw pos (keywordEach [] X.env))):=by rfl):PE X (.Call (.Attribute (.Name x p) "__init__" apos) (e::es) [] pos) (G3 C t):=by
 subst hX;obtain ⟨fI,M⟩:=M;intro pins s σ H Q I h;refine W.methodCall_KW (pl:=pl) (aM (RZ (g:=X.gx) (pos:=p) b.bound rfl hg hdb pins s σ H (fun v H1=>v = .ref B/\H1=H) I ⟨rfl,rfl⟩) fun u s1 ⟨v,H1,I1,rv,e1,e2⟩=>?_) ht;subst e1 e2;obtain rfl:u=Value.ref B:=rv;refine W.method_cls I1.aR b.ga (W.cls_value I1.aR b.rd b.at_ rfl ?_);have I2:=I1.tok (s1.toks+1);refine PyProof.Rows.callWith_builtin1 (aM (ha pos pins _ σ H1 _ I2 h) fun us s2 ⟨vs,H2,I3,r,a,mm,dc,ev,he,q⟩=>?_) hst hpl;subst ev;obtain ⟨u1,u2,rfl,r1,r2⟩:=Ek r;obtain rfl:u1=Value.ref a:=r1;obtain ⟨bm,ns,nm,qn,bs,hdd,sn,sub,ab,col,dd,k0,k1,k2,k3,k5,mN,hO,hN,hi,T⟩:=W.eO I3.aR M;obtain ⟨⟨t0,sl,q0⟩,_,_⟩:=I3.hok a _ he;obtain ⟨hh,gg,dr,tk,os⟩:=s2;refine W.jq F.excBase_ValueError T hO q0 fun h' T' e1 hk=>⟨.non,H2,?_,rfl,q⟩
 have I4:=I3.write (t':=tk) (h':=h') (x:=a) (e:=a) (o:=XE a (.ref C) dc) (by rw [he];exact True.intro) (.inl rfl) (fun b u hb z=>hk b u hb z) ⟨_,e1⟩ (Qn e1);rw [Pr he] at I4
 exact I4
theorem T7 (c:kj g.K C C') (na:W.findIn g.K (.ref C) f=some none) (ha:PE X o ta) (hv:PE X value tv) (hX:X.gx=g:=by rfl) (hs:swapsWith value (some (.Attribute o f pos')) pos.line X.env=pure false:=by rfl):PS X (.Assign [.Attribute o f pos'] value pos) (G4 C ta tv f):=by
 subst hX;intro pins s σ H D I h;refine plainObj_wpAny_Assign_Attribute (aM (hv pins s σ H _ I h) fun u s1 ⟨y,H1,I1,ry,q⟩=>aM (ha pins s1 σ H1 _ I1 q) fun ov s2 ⟨x,H2,I2,rx,a,ex,q2⟩=>?_) hs;subst ex;obtain rfl:ov=Value.ref a:=rx;rcases q2 with ⟨e0,q2⟩ | ⟨d,fs,e0,e1,l,ne,q2⟩
 ·exact TY I2 c na e0 ry fun d s3 n1 n2 I3=>⟨σ,_,I3,q2 d n1 n2⟩
 ·exact T4 I2 c na e0 e1 l ne ry fun s3 I3=>⟨σ,_,I3,q2⟩
def Qo (C:Addr) (fs:List Str) (E:XK) (t:TA):TS:=fun _ σ H=>t σ H fun vs H1=>vs.length=fs.length/\vs.length<=1000/\∀ d,H1 d=none->E (.ref C) (some d) (upd H1 d (Wy d (fs.zip vs)))
theorem T8 (F:g.uq x C ps fs) (hr:aQ k X.A) (hR:GX X E) (ha:PA X (e::es) t) (hj:2<=k) (hc:X.calm=true) (hX:X.gx=g) (hg:Gl X x) (hdb:(x==("__debug__":Str))=false)
  (he:starEach (e::es) X.env=(false,eval e X.env)::starEach es X.env) (hpl:(backTo cpos (starEach es X.env)).any (·.1)=false) :
  PS X (.Raise (some (.Call (.Name x np) (e::es) [] cpos)) none pos) (Qo C fs E t):=by
 subst hX;obtain ⟨f,fd,F,bd,M,hm⟩:=F;intro pins s σ H D I h;obtain ⟨bm,ns,nm,qn,bs,hd,sn,sub,ab,col,dd,k0,k1,k2,k3,k5,mN,hO,hN,hi,T⟩:=PySem.W.eO I.mod.dX M.own;refine PySem.W.iK (C:=C) (nm:=nm) (q:=qn) (N:=ns) (bs:=bs) (bm:=bm) (hdct:=hd) (sn:=sn) (sub:=sub) (ab:=ab) (col:=col) (dd:=dd) (k0:=k0) (k1:=k1) (k2:=k2) (k3:=k3) (k5:=k5) (newId:="ValueError.__new__")
  (T.hasType PySem.F.excBase_ValueError.hasBase) (I.ok.hd hc) ?_ (XC I hg hm ⟨rfl,?_⟩ hdb)
 ·rw [he]
  show (false||(backTo cpos (starEach es X.env)).any (·.1))=false
  rw [hpl];rfl
 ·have a1:=ha cpos pins s σ H _ I h
  rw [he] at a1 ⊢
  refine Calls.evalArgs_plain (wpAny_mono a1 (fun us s2 hz=>?_) fun _ _ y=>y);obtain ⟨vs,H2,I2,r,q0,q1,q2⟩:=hz;refine ⟨rfl,I2.bk _ _ hO,wpAny_mono (TX (Q:=fun v H3=>∃ e dc,v = .ref e/\(∀ o,X.s₀.heap.get? e=some o->e∈X.ex)/\H3 e=some (XE e (.ref C) dc)/\E (.ref C) dc (del H3 e)) (bH:=[]) M F (hr.mono hj) bd .nil VZ I2 r (by rw [<- r.length,sizeLine_eq];omega) fun e n1 n2=>?_) (fun v s3 z=>?_) fun _ _ y=>y⟩
  ·have hs0:∀ o,X.s₀.heap.get? e=some o->e∈X.ex:=fun o hq=>Classical.byContradiction fun z=>by
    obtain ⟨o',z⟩:=I2.base.there e o hq z;rw [n2] at z
    cases z
   refine ⟨e,vs,by rw [List.append_nil],q0,Yb,fun d m1 m2=>⟨rfl,e,some d,rfl,hs0,Yb,?_⟩⟩;rw [Yg m2] at m1
   have:=q2 d m1;refine Eq.mp (congrArg (E (.ref C) (some d)) (funext fun b=>?_)) this;by_cases hb:b=e
   ·subst hb
    rw [TJ,Yg (Ne.symm m2)];exact n1
   ·rw [WS hb,Yg hb]
    by_cases hbd:b=d
    ·subst hbd;rw [Yb,Yb]
    ·rw [Yg hbd,Yg hbd,Yg hb]
  ·obtain ⟨v',H3,I3,rv,e,dc,ev,hs0,G5,q3⟩:=z
   subst ev;obtain rfl:v=Value.ref e:=rv;obtain ⟨⟨t0,sl,q5⟩,_,_⟩:=I3.hok e _ G5;exact ⟨e,dc,t0,sl,rfl,I3.bk _ _ hO,q5,hR pins σ H3 s3 e _ dc I3 G5 hs0 q3⟩
end
theorem T9 {C:Addr} {fs ps:List Str} {vs:List V} {H:Hp} {Q:VK} {E:XK} (h:pJ C fs vs H Q E) (hp:ps.length=fs.length+1:=by rfl):vs.length=ps.length:=by
 obtain ⟨e,us,rfl,l,_⟩:=h;rw [hp,List.length_cons,l]
theorem CJ {C:Addr} {f n0 n1 m:Str} {vs:List V} {H:Hp} {Q:VK} {E:XK} (h:pJ C [f] vs H Q E) :
  Ul (Q0 (G3 C (Vo (Wd 0) (Vo (tC (.str m)) U5)))) (G4 C (Wd 0) (Wd 1) f) { nx:=fun _ H'=>Q .non H',rt:=Q } (Xi [n0,n1] vs) H:=by
 obtain ⟨e,us,rfl,l,he,q⟩:=h;obtain ⟨u,rfl⟩:∃ u,us=[u]:=by
  match us,l with
  | [u],_=>exact ⟨u,rfl⟩
 refine ⟨e,_,_,rfl,he,?_⟩;refine ⟨e,rfl,.inl ⟨he,fun d m1 m2=>q d m1 m2⟩⟩
end L2
namespace L2
open PySem PySem.Spec PyProof.Rows
theorem YeL {K:W.Frag} {h:Heap} {mg:Str->Option Value} {x:Str} {B:Addr} (X:K.In h) (G:h.Ns mainGlobals mg) (a:W.nsIn K mainGlobals x=some (some (.ref B))) (ga:W.specialIn K (.ref B) "__getattribute__"=some (some (.builtin "type.__getattribute__"))) (rd:W.readsIn K B (.type "type")=true) (at_:W.findCls K (.ref B) (.type "type") "__init__"=some (.val (.builtin "ValueError.__init__"))) :
  ∀ P w base,jV (Gx.mk P w K mg base) x B:=fun _ _ _=>⟨W.mg_of X G a,ga,rd,at_⟩
structure cQ (H Hz:Hp) (h:Heap) (cs:List Addr):Prop where
 one:∀ b∈cs,∃ o u,Hz b=some (.bC o u)/\h.get? b=some o/\H b=none
 oth:∀ b,b∉cs->Hz b=H b
section
variable {P:Program} {w:World} {H Hz H':Hp} {h h' B:Heap} {cs fs:List Addr}
theorem cQ.out (L:cQ H Hz h cs) {b:Addr} {o:HO} (e:H b=some o):b∉cs:=fun z=>by
 obtain ⟨_,_,_,_,n⟩:=L.one b z;rw [n] at e
 cases e
theorem cQ.get (L:cQ H Hz h cs) {b:Addr} {o:HO} (e:H b=some o):Hz b=some o:=by rw [L.oth b (L.out e)];exact e
theorem Vu (x:aY P w H' h') (z:∀ b∈cs,∃ o u,H' b=some (.bC o u)):aY P w (off H' cs) h':=fun b o e=>by
 obtain ⟨e1,e2⟩:=VN e;refine (x b o e1).stay (fun _ _ _ q=>q) (fun c q=>?_) fun c xs q=>?_
 ·rw [YE fun hc=>by obtain ⟨_,_,y⟩:=z c hc;rw [y] at q;cases q]
  exact q
 ·rw [YE fun hc=>by obtain ⟨_,_,y⟩:=z c hc;rw [y] at q;cases q]
  exact q
theorem cQ.un (L:cQ H Hz h cs) (u:Un fs [] Hz H' h h') (hok:aY P w H' h') (nf:∀ b∈cs,b∉fs):Un fs [] H (off H' cs) h h':=by
 have z:∀ {b:Addr} {o:HO},H b=some o->b∉cs:=fun e=>L.out e
 refine ⟨fun b o e n hf hx=>?_,fun b o e n hf hx=>?_,fun b o e n hx=>?_,u.there,fun b xs e=>?_,fun b o x e=>?_,fun b ps e=>?_⟩
 ·by_cases hb:b∈cs
  ·obtain ⟨o1,u1,y1,y2,_⟩:=L.one b hb
   rw [e] at y2
   cases y2
   exact (hok b _ (u.bx b _ _ y1)).1
  ·exact u.keep b o e ((L.oth b hb).trans n) hf hx
 ·exact u.slot b o e ((L.oth b fun hb=>nf b hb hf).trans n) hf hx
 ·by_cases hb:b∈cs
  ·exact Ws hb
  ·rw [YE hb]
   exact u.free b o e ((L.oth b hb).trans n) hx
 ·rw [YE (z e)]
  exact u.tups b xs (L.get e)
 ·rw [YE (z e)]
  exact u.bx b o x (L.get e)
 ·rw [YE (z e)]
  exact u.bI b ps (L.get e)
theorem cQ.behind (L:cQ H Hz h cs) (u:Un fs [] Hz H' h h'):∀ b∈cs,∃ o v,H' b=some (.bC o v):=fun b hb=>by
 obtain ⟨o1,u1,y1,_⟩:=L.one b hb;exact ⟨o1,u1,u.bx b _ _ y1⟩
theorem cQ.fly {l:List Env} {e:Addr} {cls:Value} (L:cQ H Hz h cs) (F:cN P w l Hz h e cls H' h' B) (nf:∀ b∈cs,b∉frs l):cN P w l H h e cls (off H' cs) h' B:=by
 have z:∀ {b:Addr} {o:HO},H b=some o->b∉cs:=fun e=>L.out e
 have bh:∀ b∈cs,∃ o v,H' b=some (.bC o v):=fun b hb=>by
  obtain ⟨o1,u1,y1,_⟩:=L.one b hb;exact ⟨o1,u1,F.bx b _ _ y1⟩
 refine ⟨F.fl,Vu F.hok bh,fun b o q n hf=>?_,fun b o q n hf=>F.slot b o q ((L.oth b fun hb=>nf b hb hf).trans n) hf,F.al,fun b o q n=>?_,fun b xs q=>?_,fun b o x q=>?_,fun b ps q=>?_⟩
 ·by_cases hb:b∈cs
  ·obtain ⟨o1,u1,y1,y2,_⟩:=L.one b hb
   rw [q] at y2
   cases y2
   exact (F.hok b _ (F.bx b _ _ y1)).1
  ·exact F.keep b o q ((L.oth b hb).trans n) hf
 ·by_cases hb:b∈cs
  ·exact Ws hb
  ·rw [YE hb]
   exact F.free b o q ((L.oth b hb).trans n)
 ·rw [YE (z q)]
  exact F.tups b xs (L.get q)
 ·rw [YE (z q)]
  exact F.bx b o x (L.get q)
 ·rw [YE (z q)]
  exact F.bI b ps (L.get q)
end
def WE (H Hz:Hp) (l:Yr):Prop:=(∀ p∈l,∃ o,Hz p.2.1=some (.bC o (Wm p.2.1 p.2.2))/\H p.2.1=none)/\∀ b,b∉l.as->Hz b=H b
def Wh (H:Hp) (h:Heap):Yr->Hp
 | []=>H
 | p::l=>match h.get? p.2.1 with
  | some o=>upd (Wh H h l) p.2.1 (.bC o (Wm p.2.1 p.2.2))
  | none=>Wh H h l
section
variable {X:Cx} {pins:List (Addr×Obj)} {σ:St} {H:Hp} {s:Shared}
theorem WT {h:Heap} {b:Addr}:∀ {l:Yr},b∉l.as->Wh H h l b=H b
 | [],_=>rfl
 | p::l,hb=>by
  have h1:b≠p.2.1:=fun z=>hb (by rw [z];exact .head _)
  have h2:b∉Yr.as l:=fun z=>hb (.tail _ z)
  cases e:h.get? p.2.1 with
  | some o =>
   have hz:Wh H h (p::l)=upd (Wh H h l) p.2.1 (.bC o (Wm p.2.1 p.2.2)):=by
    show (match h.get? p.2.1 with | some o=>_ | none=>_)=_
    rw [e]
   rw [hz,Yg h1];exact WT h2
  | none =>
   have hz:Wh H h (p::l)=Wh H h l:=by
    show (match h.get? p.2.1 with | some o=>_ | none=>_)=_
    rw [e]
   rw [hz];exact WT h2
theorem Qp (I:Inv X pins σ H s) {l:Yr} (hc:Xu X σ l) {p:Str×Addr×V} (hp:p∈l):H p.2.1=none/\∃ o u,s.heap.get? p.2.1=some o/\Yw p.2.2 u/\s.heap.IsCell p.2.1 (some u):=by
 obtain ⟨i,h1,h2,h3,h4⟩:=hc.2 p hp;obtain ⟨m,hn,hl⟩:=I.loc;obtain ⟨u,r,lk⟩:=hl i p.1 p.2.2 h1 h2 (.inr (.inl h3));rcases lk with ⟨k,_⟩ | ⟨_,c,hc,hcell⟩
 ·rw [h3] at k;cases k
 ·rw [h4] at hc
  cases hc
  obtain ⟨o,e1,e2⟩:=id hcell;exact ⟨I.aX p.1 p.2.1 h4,o,u,e1,r,hcell⟩
theorem G6 (I:Inv X pins σ H s):∀ {l:Yr},Xu X σ l->WE H (Wh H s.heap l) l/\cQ H (Wh H s.heap l) s.heap l.as/\aY X.prog X.w (Wh H s.heap l) s.heap
 | [],_=>⟨⟨(fun p hp=>nomatch hp),fun _ _=>rfl⟩,⟨(fun b hb=>nomatch hb),fun _ _=>rfl⟩,I.hok⟩
 | p::l,h=>by
  have nd':=List.nodup_cons.mp h.1;obtain ⟨⟨a1,a2⟩,⟨b1,b2⟩,ok⟩:=G6 I (l:=l) ⟨nd'.2,fun q hq=>h.2 q (.tail _ hq)⟩;obtain ⟨n,o,u,e,r,hcell⟩:=Qp I h (.head _);have hz:Wh H s.heap (p::l)=upd (Wh H s.heap l) p.2.1 (.bC o (Wm p.2.1 p.2.2)):=by
   show (match s.heap.get? p.2.1 with | some o=>_ | none=>_)=_
   rw [e]
  have hne:∀ q∈l,q.2.1≠p.2.1:=fun q hq z=>nd'.1 (by
   have:q.2.1∈Yr.as l:=List.mem_map_of_mem (f:=fun p:Str×Addr×V=>p.2.1) hq;rw [z] at this
   exact this)
  rw [hz];refine ⟨⟨fun q hq=>?_,fun b hb=>?_⟩,⟨fun b hb=>?_,fun b hb=>?_⟩,ok.track ((WT nd'.1).trans n) ⟨e,Uu r hcell⟩⟩
  ·rcases List.mem_cons.mp hq with rfl | hq
   ·exact ⟨o,Yb,n⟩
   ·obtain ⟨o',y1,y2⟩:=a1 q hq
    exact ⟨o',by rw [Yg (hne q hq)];exact y1,y2⟩
  ·rw [Yg fun z=>hb (by rw [z];exact .head _)]
   exact a2 b fun z=>hb (.tail _ z)
  ·by_cases z:b=p.2.1
   ·subst z
    exact ⟨o,_,Yb,e,n⟩
   ·rw [Yg z]
    have:b∈Yr.as l:=by
     rcases List.mem_cons.mp (show b∈p.2.1::Yr.as l from hb) with y | y
     ·exact absurd y z
     ·exact y
    exact b1 b this
  ·rw [Yg fun z=>hb (by rw [z];exact .head _)]
   exact b2 b fun z=>hb (.tail _ z)
theorem G7 (I:Inv X pins σ H s) {l:Yr} (hc:Xu X σ l) (hfn:∀ x,X.fn x=true) {b:Addr} (hb:b∈l.as):X.s₀.heap.objs.size<=b/\b≠X.env.locals:=by
 obtain ⟨p,hp,rfl⟩:=YX hb;obtain ⟨i,h1,h2,h3,h4⟩:=hc.2 p hp;exact ⟨I.ok.cab _ _ (hfn _) h4,I.iR _ _ h4⟩
theorem Yf8 (I:Inv X pins σ H s) (hs:X.stack=X.env::X.outer) (hf:X.env.frame=some X.env.locals) {l:Yr} (hc:Xu X σ l) (hfn:∀ x,X.fn x=true):∀ b∈l.as,b∉frs X.stack:=fun b hb z=>by
 obtain ⟨n1,n2⟩:=G7 I hc hfn hb;rw [hs] at z
 unfold frs at z;rw [List.filterMap_cons,hf] at z
 rcases List.mem_cons.mp z with z | z
 ·exact n2 z
 ·obtain ⟨_,o,e,_⟩:=I.ok.bN.mem z
  exact absurd (Nat.lt_of_lt_of_le (Heap.lt_size e) n1) (Nat.lt_irrefl _)
end
section
variable {X:Cx} {CX:dD} {k:Nat} {f:Addr} {fd:FuncData} {ps:List Str} {sp:Sp} {E:XK} {pins:List (Addr×Obj)} {σ:St} {H:Hp} {s:Shared} {Q:VK} {us:List Value} {vs:List V} {l:Yr}
theorem G8 (F:aW X.prog X.w X.K X.mg X.base CX k f fd ps sp) (hr:aQ k X.A) (hb:Y7 X.K fd ps []) (hs:X.stack=X.env::X.outer) (hf:X.env.frame=some X.env.locals) (hfn:∀ x,X.fn x=true)
  (hx:∀ Hz e s',cQ H Hz s.heap l.as->(∀ b∈l.as,b∉frs X.stack)->CX X.stack Hz s (fun c d H'=>E c d (off H' l.as)) e s'->X.xe e s')
  (I:Inv X pins σ H s) (hc:Xu X σ l) (r:Yt vs us) (h:∀ Hz,WE H Hz l->sp vs Hz (fun v H'=>Q v (off H' l.as)) fun c d H'=>E c d (off H' l.as)):wpAny (model X.prog X.w) X.A (call (.ref f) us) (EP X pins σ Q) X.xe s:=by
 obtain ⟨L1,L2,ok⟩:=G6 I hc;have nf:=Yf8 I hs hf hc hfn;have hsp:=h _ L1;have hl:us.length=ps.length:=by rw [<- r.length];exact F.len _ _ _ _ hsp
 have e0:cY X.prog X.w X.K X.mg X.base X.A X.stack s (Wh H s.heap l):=by
  have e:=I.env0;refine ⟨e.frames,e.mod,fun b o q=>⟨(e.bs b o q).1,?_⟩,e.dO,e.bN,fun b q=>?_,ok,e.bare⟩
  ·rw [WT fun z=>?_]
   ·exact (e.bs b o q).2
   ·have n1:=(G7 I hc hfn z).1
    have:=I.ok.dO;exact absurd (Nat.lt_of_lt_of_le (Heap.lt_size q) (Nat.le_trans this n1)) (Nat.lt_irrefl _)
  ·rw [WT fun z=>nf b z q]
   exact e.dY b q
 refine wpAny_call (codeAny_mono (F.run X.A X.stack s _ ⟨us,[]⟩ us vs _ _ hr e0 (by have:=hb s us I.aR (by rw [List.append_nil];exact hl);rwa [List.append_nil] at this) r hsp) fun r s' hq=>?_)
 cases r with
 | error e=>exact hx _ e s' L2 nf hq
 | ok fl =>
  cases fl with
  | ret u =>
   obtain ⟨v,H',os,bare,un,hok,rv,q⟩:=hq;exact I.after ⟨v,off H' l.as,os,bare,L2.un un hok nf,Vu hok (L2.behind un),rv,q⟩
  | next=>exact False.elim hq
  | brk=>exact False.elim hq
  | cont=>exact False.elim hq
end
theorem YcK {g:Gx} {N:List Str} {qual:Str} {st:Stmt} {f:Addr} {cdv:Value} {A:Around} {outer:List Env} {s0:Shared} {H0:Hp} {E:XK} {pins:List (Addr×Obj)} {σ:St} {H:Hp} {s:Shared} {cs:List Addr}
  (I:Inv (g.bZ N qual st f cdv A outer s0 H0 E) pins σ H s):∀ Hz e s',cQ H Hz s.heap cs->(∀ b∈cs,b∉frs (g.bZ N qual st f cdv A outer s0 H0 E).stack)->j8 g.P g.w (g.bZ N qual st f cdv A outer s0 H0 E).stack Hz s (fun c d H'=>E c d (off H' cs)) e s'->(g.bZ N qual st f cdv A outer s0 H0 E).xe e s':=by
 rintro Hz e s' L nf ⟨a,cls,H',B,dc,rfl,os,bare,F,hd,q⟩;exact Xr pins σ H s _ s' I ⟨a,cls,off H' cs,B,dc,rfl,os,bare,L.fly F nf,hd,q⟩
def Yr.Z (l:Yr) (H:Hp):Prop:=∀ p∈l,∃ o,H p.2.1=some (.bC o (Wm p.2.1 p.2.2))
theorem WE.z {H Hz:Hp} {l:Yr} (h:WE H Hz l):l.Z Hz:=fun p hp=>by
 obtain ⟨o,z,_⟩:=h.1 p hp;exact ⟨o,z⟩
def pK (H:Hp) (f c:Addr) (fd:FuncData) (qual:Str) (l:Yr):Prop:=H f=some (bG f fd)/\H c=some (cH c qual)/\l.Z H
section
variable {P:Program} {w:World} {K:W.Frag} {mg:Str->Option Value} {base:Heap} {N ps:List Str} {qual:Str} {scope:Scope} {f c:Addr} {A:Around} {outer:List Env} {s:Shared} {H:Hp} {l:Yr} {cd:Value}
theorem xW {Q:VK} {v:V} {u:Value} {σ':St} {H':Hp} {s':Shared} (e0:cY P w K mg base A outer s H) (hin:l.Z H) (J:Inv (VP P w K mg base N qual scope f cd l.cl A outer s (off H l.as)) [] σ' H' s') (hlk:∀ p∈l,l.cl.lookup p.1=some p.2.1) (rv:Yw v u) (q:(∀ c∈l.as,H' c=none)->Q v (on H' H l.as)) :
  CE outer P w H s Q u s':=by
 have un:=J.base;have zc:∀ {b:Addr},b∈l.as->∃ o u,H b=some (.bC o u):=fun hm=>by
  obtain ⟨p,hp,rfl⟩:=YX hm;obtain ⟨o,z⟩:=hin p hp;exact ⟨o,_,z⟩
 have nin:∀ {b:Addr},H b=none->b∉l.as:=fun hb hm=>by
  obtain ⟨o,u,z⟩:=zc hm;rw [z] at hb;cases hb
 have out:∀ {b:Addr} {o:HO},H b=some o->(∀ x u,o ≠ .bC x u)->b∉l.as:=fun hb no hm=>by
  obtain ⟨o,u,z⟩:=zc hm;rw [z] at hb
  exact no _ _ (Option.some.inj hb).symm
 have aX:∀ c∈l.as,H' c=none:=fun c hc=>by
  obtain ⟨p,hp,rfl⟩:=YX hc;exact J.aX p.1 p.2.1 (hlk p hp)
 refine ⟨v,on H' H l.as,J.os,J.bare,⟨fun b o e n hb hx=>un.keep b o e (Xp n) hb hx,fun b o e n hb hx=>un.slot b o e (Xp n) hb hx,fun b o e n hx=>?_,fun b o e hx=>un.there b o e hx,fun b xs e=>?_,fun b o u e=>?_,fun b ps e=>?_⟩,fun b o e=>?_,rv,q aX⟩
 ·rw [Y5 (nin n)]
  exact un.free b o e (Xp n) hx
 ·have h1:=out e fun _ _ z=>by cases z
  rw [Y5 h1];exact un.tups b xs ((YE h1).trans e)
 ·by_cases hb:b∈l.as
  ·rw [V2 hb];exact e
  ·rw [Y5 hb]
   exact un.bx b o u ((YE hb).trans e)
 ·have h1:=out e fun _ _ z=>by cases z
  rw [Y5 h1];exact un.bI b ps ((YE h1).trans e)
 ·by_cases hb:b∈l.as
  ·rw [V2 hb] at e
   obtain ⟨p,hp,rfl⟩:=YX hb;obtain ⟨ob,z⟩:=hin p hp;rw [z] at e
   cases e
   obtain ⟨ho,y1,y2,y3⟩:=e0.hok _ _ z;have hk:=un.keep _ _ ho (Ws hb) (fun hf=>by have:=e0.dY _ hf;rw [z] at this;cases this) (by intro z;exact absurd (show p.2.1∈([]:List Addr) from z) (by simp));exact ⟨hk,y3 _ _ y1 fun o q=>by rw [ho] at q;cases q;exact hk,⟨ob,hk⟩,y3⟩
  ·rw [Y5 hb] at e
   refine (J.hok b o e).stay (fun _ _ _ q=>q) (fun c q=>?_) fun c xs q=>?_
   ·rw [Y5 fun hc=>?_]
    ·exact q
    ·rw [aX c hc] at q;cases q
   ·rw [Y5 fun hc=>?_]
    ·exact q
    ·rw [aX c hc] at q;cases q
end
theorem G9 {P:Program} {w:World} {K:W.Frag} {mg:Str->Option Value} {base:Heap} {k:Nat} {f c:Addr} {qual:Str} {params:Arguments} {body:Expr} {scope:Scope} {pm ctv:Value} {N ps:List Str} {l:Yr} {sp:List V->Hp->VK->Prop}
  (S:cu N ps (l.map (·.1)) scope) (hnd:l.as.Nodup) (len:∀ vs H Q,sp vs H Q->vs.length=ps.length)
  (hbody:∀ (A:Around) (outer:List Env) (s:Shared) (H:Hp) (vs:List V) (Q:VK),aQ k (A.deeper (W.envX qual scope s.heap.objs.size f (.ref c) l.cl))->sp vs H Q ->
   ∃ t,PE (VP P w K mg base N qual scope f (.ref c) l.cl A outer s H) body t/\t (WR N vs l.vs) H Q) :
  aW P w K mg base bL (k+1) f (W.kla_fn "<lambda>" qual params body scope l.cl pm (.ref c) ctv) ps
   (fun vs H Q _=>pK H f c (W.kla_fn "<lambda>" qual params body scope l.cl pm (.ref c) ctv) qual l/\sp vs (off H l.as) fun v H'=>(∀ c∈l.as,H' c=none)->Q v (on H' H l.as)):=by
 refine ⟨fun vs H Q E h=>len _ _ _ h.2,fun A outer s H args us vs Q E hr e0 hb r hsp=>?_⟩;obtain ⟨⟨hf,hc,hin⟩,hsp⟩:=hsp;have hl:=len _ _ _ hsp;have lim:s.heap.NoLimit:=e0.mod.nolimit.keeps fun b o e=>(e0.bs b o e).1
 have hfo:=(e0.hok _ _ hf).1;have hco:s.heap.CodeRec (.ref c) qual:=(e0.hok _ _ hc).1;refine W.kla_callFunE hr.depth hfo rfl S.co S.gen rfl hco (hb _ _ _ _ ?_);refine wpAny_newFunctionEnv S.ig (fun y hy=>S.par y.1 (List.of_mem_zip hy).1) (fun h₁ hns hsb=>?_) S.kind;have hk₁:∀ b o,s.heap.get? b=some o->h₁.get? b=some o:=fun b o e=>hsb.extBut b o (Nat.ne_of_lt (Heap.lt_size e)) (Heap.get?_push_of_some _ e)
 refine ⟨lim.keeps hk₁,W.kla_codeExpr ?_⟩;obtain ⟨t,ht,hq⟩:=hbody A outer s (off H l.as) vs _ (hr.deeper _) hsp;have zc:∀ b∈l.as,∃ o u,H b=some (.bC o u):=fun b hm=>by
  obtain ⟨p,hp,rfl⟩:=YX hm;obtain ⟨o,z⟩:=hin p hp;exact ⟨o,_,z⟩
 have I:=Vs (cd := .ref c) (qual:=qual) (f:=f) (tk:=s.toks+(ps.zip us).length) S hnd hr.hd e0 hl r (fun p hp=>by
  obtain ⟨o,z⟩:=hin p hp;exact (e0.hok _ _ z).2.1) (Vu e0.hok zc) hns hk₁
 have lk:=VO (l:=l) (by rw [<- S.suf];exact S.nd.sublist (List.drop_sublist _ _));refine wpAny_mono (ht [] _ _ _ _ I hq) (fun u s' hs=>?_) fun e s' hs=>hs.elim
 obtain ⟨v,H',J,rv,q⟩:=hs;exact xW e0 hin J lk rv q
def V4 (X:Cx) (sp:Sp) (E:XK) (t:TA):TE:=fun σ H Q=>t σ H fun vs H1=>∃ l,Xu X σ l/\((∀ c∈l.as,H1 c=none)->∀ Hz,WE H1 Hz l->sp vs Hz (fun v H'=>Q v (off H' l.as)) fun c d H'=>E c d (off H' l.as))
theorem Uv {g:Gx} {N:List Str} {qual:Str} {st:Stmt} {f:Addr} {cdv:Value} {A:Around} {outer:List Env} {s0:Shared} {H0:Hp} {E:XK} {j k:Nat} {x:Str} {ps:List Str} {sp:Sp} {e:Expr} {es:List Expr} {t:TA} {p pos:Pos} (F:g.bD j x ps sp) (hr:aQ k (g.bZ N qual st f cdv A outer s0 H0 E).A) (ha:PA (g.bZ N qual st f cdv A outer s0 H0 E) (e::es) t) (hj:j<=k) (hg:Gl (g.bZ N qual st f cdv A outer s0 H0 E) x) (hdb:(x==("__debug__":Str))=false)
  (he:starEach (e::es) (g.bZ N qual st f cdv A outer s0 H0 E).env=(false,eval e (g.bZ N qual st f cdv A outer s0 H0 E).env)::starEach es (g.bZ N qual st f cdv A outer s0 H0 E).env) (hpl:(backTo pos (starEach es (g.bZ N qual st f cdv A outer s0 H0 E).env)).any (·.1)=false) :
  PE (g.bZ N qual st f cdv A outer s0 H0 E) (.Call (.Name x p) (e::es) [] pos) (V4 (g.bZ N qual st f cdv A outer s0 H0 E) sp E t):=by
 obtain ⟨f',fd,F,b,kp,hm⟩:=F;intro pins s σ H Q I h;refine wpAny_Call_Name_kw (XC I hg hm ?_ hdb);refine PySem.W.callWith_K (h₀:=(g.bZ N qual st f cdv A outer s0 H0 E).base) I.ok.mod.dX kp (aM (ha pos pins s σ H _ I h) fun us s1 ⟨vs,H1,I1,r,l,hc,q⟩=>⟨I1.aR,?_⟩) he hpl;exact G8 F (hr.mono hj) b rfl rfl (fun _=>rfl) (YcK I1) I1 hc r (q fun c hcc=>by
  obtain ⟨p,hp,rfl⟩:=YX hcc;exact (Qp I1 hc hp).1)
theorem Gx.dH.fnX {g:Gx} {k:Nat} {x qual:Str} {st:Stmt} {N ps:List Str} {c:Addr} {sp:Sp} (R:g.dH x qual st ps c) (S:aH N ps (Yh st)) (len:∀ vs H Q E,sp vs H Q E->vs.length=ps.length)
  (b:∀ (f:Addr) (A:Around) (outer:List Env) (s:Shared) (H:Hp) (vs:List V) (Q:VK) (E:XK),aQ k (g.bZ N qual st f (.ref c) A outer s H E).A->sp vs H Q E ->
   ∃ t,cD (g.bZ N qual st f (.ref c) A outer s H E) (YR st) t/\t { nx:=fun _ H'=>Q .non H',rt:=Q } (Xi N vs) H):g.bD (k+1) x ps sp:=by
 obtain ⟨f,fd,F,bd,hm,hc⟩:=R;refine ⟨f,fd,?_,bd,F.kp,hm⟩;obtain ⟨oc,od,kV,doc,pm,an,cdv,ct,osl,rfl,lk,hcd⟩:=F.ex;have hc':cdv = .ref c:=hc;subst hc';exact Q5 lk hcd S len fun A outer s H vs Q E hr h=>b f A outer s H vs Q E hr h
def CK (s:Stmt):Expr:=match s with
 | .Return (some (.Subscript (.Call _ as _ _) _ _)) _=>as.getLastD (.Constant .none 0 ⟨0,0,0,0⟩)
 | _ => .Constant .none 0 ⟨0,0,0,0⟩
end L2
namespace L2
open PySem
mutual
inductive DL (H:Hp):V->PyData->List Addr->Prop
 | non:DL H .non .none []
 | bl (b:Bool):DL H (.bl b) (.bool b) []
 | int (i:Int):DL H (.int i) (.int i) []
 | str (x:Str) (h:PyData.strOk x=true):DL H (.str x) (.str x) []
 | lst {a:Addr} {vs:List V} {ds:List PyData} {L:List Addr}:H a=some (.lst vs)->vs.length<=10000->cA H vs ds L->DL H (.ref a) (.list ds) (a::L)
 | tup {a:Addr} {vs:List V} {ds:List PyData} {L:List Addr}:H a=some (.tup vs)->vs.length<=10000->cA H vs ds L->DL H (.ref a) (.tuple ds) L
inductive cA (H:Hp):List V->List PyData->List Addr->Prop
 | nil:cA H [] [] []
 | cons {v:V} {d:PyData} {L:List Addr} {vs:List V} {ds:List PyData} {L':List Addr}:DL H v d L->cA H vs ds L'->cA H (v::vs) (d::ds) (L++L')
end
mutual
theorem DL.dz {H H':Hp} (t:tZ H H'):∀ {v:V} {d:PyData} {L:List Addr},DL H v d L->(∀ a∈L,∀ vs,H a=some (.lst vs)->H' a=some (.lst vs))->DL H' v d L
 | _,_,_,.non,_ => .non
 | _,_,_,.bl b,_ => .bl b
 | _,_,_,.int i,_ => .int i
 | _,_,_,.str x h,_ => .str x h
 | _,_,_,.lst h hn hs,e => .lst (e _ (.head _) _ h) hn (hs.dz t fun a ha=>e a (.tail _ ha))
 | _,_,_,.tup h hn hs,e => .tup (t _ _ h) hn (hs.dz t e)
theorem cA.dz {H H':Hp} (t:tZ H H'):∀ {vs:List V} {ds:List PyData} {L:List Addr},cA H vs ds L->(∀ a∈L,∀ vs,H a=some (.lst vs)->H' a=some (.lst vs))->cA H' vs ds L
 | _,_,_,.nil,_ => .nil
 | _,_,_,.cons h hs,e => .cons (h.dz t fun a ha=>e a (List.mem_append_left _ ha)) (hs.dz t fun a ha=>e a (List.mem_append_right _ ha))
end
mutual
theorem DL.den {K:W.Frag} {H:Hp}:∀ {v:V} {d:PyData} {L:List Addr},DL H v d L->Den K H v d
 | _,_,_,.non => .non
 | _,_,_,.bl b => .bl b
 | _,_,_,.int i => .int i
 | _,_,_,.str x h => .str x h
 | _,_,_,.lst h _ hs => .lst (aJ.of h) hs.den
 | _,_,_,.tup h _ hs => .tup (aK.of h) hs.den
theorem cA.den {K:W.Frag} {H:Hp}:∀ {vs:List V} {ds:List PyData} {L:List Addr},cA H vs ds L->bY K H vs ds
 | _,_,_,.nil => .nil
 | _,_,_,.cons h hs => .cons h.den hs.den
end
theorem cA.length {H:Hp}:∀ {vs:List V} {ds:List PyData} {L:List Addr},cA H vs ds L->vs.length=ds.length
 | _,_,_,.nil=>rfl
 | _,_,_,.cons _ hs=>congrArg (·+1) hs.length
theorem cA.at {H:Hp}:∀ {vs:List V} {ds:List PyData} {L:List Addr} {i:Nat} {v:V},cA H vs ds L->vs[i]?=some v->∃ d L',ds[i]?=some d/\DL H v d L'
 | _,_,_,0,v,.cons a _,h=>by
  have:_=v:=Option.some.inj h;subst this;exact ⟨_,_,rfl,a⟩
 | _,_,_,i+1,v,.cons _ b,h=>b.at (i:=i) h
theorem cA.append {H:Hp} {vs':List V} {ds':List PyData} {L':List Addr}:∀ {vs:List V} {ds:List PyData} {L:List Addr},cA H vs ds L->cA H vs' ds' L'->cA H (vs++vs') (ds++ds') (L++L')
 | _,_,_,.nil,h=>h
 | _,_,_,.cons a b,h=>by rw [List.append_assoc];exact .cons a (b.append h)
def Hf:PyData->String
 | .none=>"NoneType"
 | .bool _=>"bool"
 | .int _=>"int"
 | .str _=>"str"
 | .list _=>"list"
 | .tuple _=>"tuple"
 | .dict _=>"dict"
theorem CN {K:W.Frag} {H:Hp} {v:V} {d:PyData} {L:List Addr} (h:DL H v d L):bW K H v (.type (Hf d)):=by
 cases h with
 | non=>exact .non
 | bl b=>exact .bl b
 | int i=>exact .int i
 | str x h=>exact .str _
 | lst h=>exact .lst h
 | tup h=>exact .tup h
def Kt (H H':Hp):Prop:=∀ a o,(∀ ps,o ≠ .aV ps)->H a=some o->H' a=some o
theorem Kt.refl (H:Hp):Kt H H:=fun _ _ _ e=>e
theorem Kt.trans {H H1 H2:Hp} (a:Kt H H1) (b:Kt H1 H2):Kt H H2:=fun c o n e=>b c o n (a c o n e)
theorem YA {H H':Hp} (s:Yf H H'):Kt H H':=fun c o _ e=>s _ _ e
theorem Kt.lst {H H':Hp} (h:Kt H H') {a:Addr} {xs:List V} (e:H a=some (.lst xs)):H' a=some (.lst xs):=h a _ (by intro ps z;cases z) e
theorem Kt.tup {H H':Hp} (h:Kt H H') {a:Addr} {xs:List V} (e:H a=some (.tup xs)):H' a=some (.tup xs):=h a _ (by intro ps z;cases z) e
theorem DL.kt {H H':Hp} {v:V} {d:PyData} {L:List Addr} (h:DL H v d L) (s:Kt H H'):DL H' v d L:=h.dz (fun a vs e=>s.tup e) fun a _ vs e=>s.lst e
theorem cA.kt {H H':Hp} {v:List V} {d:List PyData} {L:List Addr} (h:cA H v d L) (s:Kt H H'):cA H' v d L:=h.dz (fun a vs e=>s.tup e) fun a _ vs e=>s.lst e
def DV (H:Hp) (v:V) (d:PyData):Prop:=∃ L,DL H v d L
def bB (H:Hp) (vs:List V) (ds:List PyData):Prop:=∃ L,cA H vs ds L
theorem DV.kt {H H':Hp} {v:V} {d:PyData} (h:DV H v d) (s:Kt H H'):DV H' v d:=by obtain ⟨L,h⟩:=h;exact ⟨L,h.kt s⟩
theorem DV.keep {H H':Hp} {v:V} {d:PyData} (h:DV H v d) (s:Yf H H'):DV H' v d:=h.kt (YA s)
theorem bB.kt {H H':Hp} {v:List V} {d:List PyData} (h:bB H v d) (s:Kt H H'):bB H' v d:=by obtain ⟨L,h⟩:=h;exact ⟨L,h.kt s⟩
theorem bB.keep {H H':Hp} {v:List V} {d:List PyData} (h:bB H v d) (s:Yf H H'):bB H' v d:=h.kt (YA s)
theorem bB.nil {H:Hp}:bB H [] []:=⟨[],.nil⟩
theorem bB.cons {H:Hp} {v:V} {d:PyData} {vs:List V} {ds:List PyData} (h:DV H v d) (hs:bB H vs ds):bB H (v::vs) (d::ds):=by
 obtain ⟨L,h⟩:=h;obtain ⟨L',hs⟩:=hs;exact ⟨_,.cons h hs⟩
theorem bB.inv {H:Hp} {v:V} {d:PyData} {vs:List V} {ds:List PyData} (h:bB H (v::vs) (d::ds)):DV H v d/\bB H vs ds:=by
 obtain ⟨L,h⟩:=h
 cases h with
 | cons a b=>exact ⟨⟨_,a⟩,⟨_,b⟩⟩
theorem bB.length {H:Hp} {vs:List V} {ds:List PyData} (h:bB H vs ds):vs.length=ds.length:=by obtain ⟨L,h⟩:=h;exact h.length
theorem bB.at {H:Hp} {vs:List V} {ds:List PyData} {i:Nat} {v:V} (h:bB H vs ds) (e:vs[i]?=some v):∃ d,ds[i]?=some d/\DV H v d:=by
 obtain ⟨L,h⟩:=h;obtain ⟨d,L',e1,e2⟩:=h.at e;exact ⟨d,e1,_,e2⟩
theorem bB.append {H:Hp} {vs vs':List V} {ds ds':List PyData} (h:bB H vs ds) (h':bB H vs' ds'):bB H (vs++vs') (ds++ds'):=by
 obtain ⟨L,h⟩:=h;obtain ⟨L',h'⟩:=h';exact ⟨_,h.append h'⟩
theorem bB.reverse {H:Hp}:∀ {vs:List V} {ds:List PyData},bB H vs ds->bB H vs.reverse ds.reverse
 | [],[],_ => .nil
 | [],_::_,h=>absurd h.length (by simp)
 | _::_,[],h=>absurd h.length (by simp)
 | v::vs,d::ds,h=>by
  rw [List.reverse_cons,List.reverse_cons];exact h.inv.2.reverse.append (.cons h.inv.1 .nil)
theorem DV.lst {H:Hp} {a:Addr} {vs:List V} {ds:List PyData} (h:H a=some (.lst vs)) (hn:vs.length<=10000) (hs:bB H vs ds):DV H (.ref a) (.list ds):=by obtain ⟨L,hs⟩:=hs;exact ⟨_,.lst h hn hs⟩
theorem DV.tup {H:Hp} {a:Addr} {vs:List V} {ds:List PyData} (h:H a=some (.tup vs)) (hn:vs.length<=10000) (hs:bB H vs ds):DV H (.ref a) (.tuple ds):=by obtain ⟨L,hs⟩:=hs;exact ⟨_,.tup h hn hs⟩
theorem DV.gG {H:Hp} {v:V} {ds:List PyData} (h:DV H v (.list ds)):∃ a vs,v = .ref a/\H a=some (.lst vs)/\vs.length<=10000/\bB H vs ds:=by
 obtain ⟨L,h⟩:=h
 cases h with
 | lst a b c=>exact ⟨_,_,rfl,a,b,_,c⟩
theorem DV.gH {H:Hp} {v:V} {ds:List PyData} (h:DV H v (.tuple ds)):∃ a vs,v = .ref a/\H a=some (.tup vs)/\vs.length<=10000/\bB H vs ds:=by
 obtain ⟨L,h⟩:=h
 cases h with
 | tup a b c=>exact ⟨_,_,rfl,a,b,_,c⟩
theorem DV.xX {H:Hp} {v:V} {i:Int} (h:DV H v (.int i)):v = .int i:=by obtain ⟨L,h⟩:=h;cases h;rfl
theorem DV.ur {H:Hp} {v:V} {b:Bool} (h:DV H v (.bool b)):v = .bl b:=by obtain ⟨L,h⟩:=h;cases h;rfl
theorem DV.xY {H:Hp} {v:V} {x:Str} (h:DV H v (.str x)):v = .str x/\PyData.strOk x=true:=by obtain ⟨L,h⟩:=h;cases h;exact ⟨rfl,‹_›⟩
theorem DV.ty {K:W.Frag} {H:Hp} {v:V} {d:PyData} (h:DV H v d):bW K H v (.type (Hf d)):=by obtain ⟨L,h⟩:=h;exact CN h
theorem DV.den {K:W.Frag} {H:Hp} {v:V} {d:PyData} (h:DV H v d):Den K H v d:=by obtain ⟨L,h⟩:=h;exact h.den
end L2
namespace HT
open PySem PySem.Spec PyProof.Rows
variable {prog:Program} {w:World} {A:Around} {E:Value->Shared->Prop} {s:Shared}
theorem YeM (items:Array Value):((List.range items.size).filterMap fun (m:Nat)=>items[(((items.size:Int) - 1)+(m:Int)*(-1)).toNat]?).toArray=items.toList.reverse.toArray:=by
 have key:∀ (n:Nat),n<=items.size->((List.range n).filterMap fun (m:Nat)=>items[(((items.size:Int) - 1)+(m:Int)*(-1)).toNat]?)=items.toList.reverse.take n:=by
  intro n
  induction n with
  | zero=>intro _;simp
  | succ n ih =>
   intro hn;rw [List.range_succ,List.filterMap_append,ih (by omega)];have e:(((items.size:Int) - 1)+(n:Int)*(-1)).toNat=items.size - 1 - n:=by omega
   have hx:items.toList.reverse[n]?=some (items[items.size - 1 - n]'(by omega)):=by
    rw [List.getElem?_reverse (by simp;omega)];simp
   rw [L2.Xw hx,List.filterMap_cons,e];have hlt:items.size - 1 - n<items.size:=by omega
   simp [hlt]
 rw [key items.size (Nat.le_refl _),List.take_of_length_le (by simp)]
theorem fV {t sl:Addr} {items:Array Value} {tk:Tok} {Q:Value->Shared->Prop} (ht:IsTup s.heap t items) (hs:s.heap.IsSliceOf sl .none .none (.int (-1) tk))
  (h:Q (.ref s.heap.objs.size) { s with heap:=s.heap.push { cls := .type "tuple",data := .seq items.toList.reverse.toArray } })
  (hsz:items.size<=sizeLine):wpAny (model prog w) A (getItem (.ref t) (.ref sl)) Q E s:=by
 have jW:sizeOk (.seq items.toList.reverse.toArray):=by
  show items.toList.reverse.toArray.size<=sizeLine
  rw [List.size_toArray,List.length_reverse,Array.length_toList];exact hsz
 obtain ⟨os,hos,hcs,hds⟩:=id hs;have hTs:s.TypeIs (.ref sl) "slice":=⟨os,hos,hcs⟩;unfold getItem
 try with_reducible refine wpAny_holding ?_
 first | refine wpAny_bind (wpAny_pure ?_) | skip
 refine wpAny_bind (wpAny_sequenceKey ht.typeIs (by decide) ?_);refine wpAny_bind (wpAny_callSpecial?_slot (name:=Str.ofString "__getitem__") ht.typeIs PyProof.Rows.slot_tuple_getitem
  (wpAny_call_entry PyProof.Rows.slot_tuple_getitem ht.typeIs entry_tuple_getitem ?_ (args_tuple_getitem _ _)))
 show wpAny _ _ (Builtin.Tuple.tupleItemsOf (.ref t) >>= _) _ _ s
 refine wpAny_bind (tupleItemsOf_ ht ?_);refine wpAny_bind (wpAny_typeOf hTs ?_);rw [if_pos (by decide)];have ap:∀ {A:Around} {E:Value->Shared->Prop} {Q:Int×Int×Nat->Shared->Prop},Q ((items.size:Int) - 1,-1,items.size) s->wpAny (model prog w) A (Builtin.Slice.sliceApplied (.ref sl) (pure (items.size:Int))) Q E s:=by
  intro A E Q h;unfold Builtin.Slice.sliceApplied Builtin.Slice.sliceFields;refine wpAny_bind (wpAny_bind (wpAny_field hos hds (x := .none) rfl (wpAny_bind (wpAny_field hos hds (x := .none) rfl (wpAny_bind (wpAny_field hos hds (x := .int (-1) tk) rfl (wpAny_pure ?_)))))));refine wpAny_bind (slicePart_int ?_)
  show wpAny _ _ (if ((-1:Int)==0)=true then _ else _) _ _ s
  rw [if_neg (by decide)];refine wpAny_bind (slicePart_none (wpAny_bind (slicePart_none (wpAny_bind (wpAny_pure ?_)))))
  show wpAny _ _ (match Builtin.Slice.sliceAdjust none none (-1) (items.size:Int) with | (lo,hi)=>pure (lo,(-1:Int),Builtin.Slice.slicePlaces lo hi (-1))) _ _ s
  have e1:Builtin.Slice.sliceAdjust none none (-1) (items.size:Int)=((items.size:Int) - 1,-1):=by simp [Builtin.Slice.sliceAdjust]
  rw [e1];have e2:Builtin.Slice.slicePlaces ((items.size:Int) - 1) (-1) (-1)=items.size:=by
   unfold Builtin.Slice.slicePlaces;simp only [show ¬ ((-1:Int)>0) by decide,if_false]
   split
   ·have:((items.size:Int) - 1 - -1 - 1)=(items.size:Int) - 1:=by omega
    rw [this,show (- -1:Int)=1 from rfl,Int.ediv_one];omega
   ·omega
  show wpAny _ _ (pure ((items.size:Int) - 1,(-1:Int),Builtin.Slice.slicePlaces ((items.size:Int) - 1) (-1) (-1))) _ _ s
  rw [e2];exact wpAny_pure h
 refine wpAny_bind (ap ?_)
 show wpAny _ _ (if (((items.size:Int) - 1)==0&&(-1:Int)==1&&items.size==items.size)=true then _ else _) _ _ s
 rw [if_neg (by simp),YeM]
 first
  | exact wpAny_bind (m:=Builtin.Tuple.tupleExact _) (wpAny_newObj_type (wpAny_pure ⟨_,rfl,wpAny_pure h⟩) jW)
  | exact wpAny_bind (m:=Builtin.Tuple.tupleExact _) (wpAny_newObj_type (wpAny_bind (wpAny_pure (wpAny_pure ⟨_,rfl,wpAny_pure h⟩))) jW)
  | exact wpAny_bind (wpAny_bind (m:=Builtin.Tuple.tupleExact _) (wpAny_newObj_type (wpAny_pure (wpAny_pure ⟨_,rfl,wpAny_pure h⟩)) jW))
  | exact wpAny_bind (wpAny_bind (m:=Builtin.Tuple.tupleExact _) (wpAny_newObj_type (wpAny_pure ⟨_,rfl,wpAny_pure h⟩) jW))
end HT
namespace L2
open PySem PySem.Spec PyProof.Rows
def Vv (z:Str):Str:=⟨z.cps.toList.reverse.toArray⟩
theorem YdK (n:Nat):Builtin.Str.strSliceIndices none none (-1) n=(List.range n).map fun (k:Nat)=>n - 1 - k:=by
 unfold Builtin.Str.strSliceIndices;simp;unfold sliceRange;simp only [show ¬ ((-1:Int)>0) by decide,if_false];have hc:(if (n:Int) - 1 > -1 then ((n:Int) - 1 - -1 - -1 - 1) / - -1 else 0).toNat=n:=by
  split
  ·have:((n:Int) - 1 - -1 - -1 - 1)=n:=by omega
   rw [this,show (- -1:Int)=1 from rfl,Int.ediv_one];omega
  ·omega
 rw [hc]
 apply List.map_congr_left
 intro k hk;have:k<n:=List.mem_range.mp hk;omega
theorem YdL (z:Str):(⟨(((List.range z.length).map fun (k:Nat)=>z.length - 1 - k).filterMap (z.cps[·]?)).toArray⟩:Str)=Vv z:=by
 have hl:z.length=z.cps.size:=rfl;rw [List.filterMap_map];have key:∀ (n:Nat),n<=z.cps.size->(List.filterMap ((fun x=>z.cps[x]?) ∘ fun k=>z.length - 1 - k) (List.range n))=z.cps.toList.reverse.take n:=by
  intro n
  induction n with
  | zero=>intro _;simp
  | succ n ih =>
   intro hn;rw [List.range_succ,List.filterMap_append,ih (by omega)];have hx:z.cps.toList.reverse[n]?=some (z.cps[z.cps.size - 1 - n]'(by omega)):=by
    rw [List.getElem?_reverse (by simp;omega)];simp
   rw [Xw hx];have hlt:z.cps.size - 1 - n<z.cps.size:=by omega
   simp [hl,hlt]
 rw [hl] at key ⊢
 rw [key z.cps.size (Nat.le_refl _),List.take_of_length_le (by simp)];rfl
theorem Ug (z:Str):(Vv z).length=z.length:=by simp [Vv,Str.length]
section
variable {X:Cx} {e st:Expr} {te ts:TE} {pos p2:Pos} {K:W.Frag}
def Hg (K:W.Frag) (te ts:TE):TE:=fun σ H Q=>te σ H fun x H1=>ts σ H1 fun y H2=>y = .int (-1)/\((∃ a xs,x = .ref a/\aJ K H2 a xs/\∀ p,H2 p=none->Q (.ref p) (upd H2 p (.lst xs.reverse))) \/
 (∃ a xs,x = .ref a/\aK K H2 a xs/\∀ p,H2 p=none->Q (.ref p) (upd H2 p (.tup xs.reverse)))\/∃ z,x = .str z/\z.length<=sizeLine/\Q (.str (Vv z)) H2)
theorem Yf9 (he:PE X e te) (hs:PE X st ts) (hK:X.K=K):PE X (.Subscript e (.Slice none none (some st) p2) pos) (Hg K te ts):=by
 subst hK;intro pins s σ H Q I h;refine Subscript_ (aM (he pins s σ H _ I h) fun v s1 ⟨x,H1,I1,r1,q1⟩=>?_);refine wpAny_Slice ?_;rw [evalPart_none];refine wpAny_pure (wpAny_pure ?_);rw [evalPart_some];refine aM (hs pins s1 σ H1 _ I1 q1) fun u s2 ⟨y,H2,I2,r2,q2⟩=>?_
 obtain ⟨rfl,q2⟩:=q2;obtain ⟨t,rfl⟩:=r2;have I4:Inv X pins σ H2 { s2 with heap:=s2.heap.push { cls := .type "slice",data := .fields #[.none,.none,.int (-1) t] } }:=I2.kept (t':=s2.toks) fun b ob q=>Heap.get?_push_of_some _ q
 rcases q2 with ⟨a,xs,rfl,hx,q⟩ | ⟨a,xs,rfl,hx,q⟩ | ⟨z,rfl,hz,q⟩
 ·cases r1
  obtain ⟨its,r,ht,hz⟩:=I4.list hx;have hlen:=r.length;have hg:=wpAny_getItem_list_slice (prog:=X.prog) (w:=X.w) (A:=X.A) (E:=X.xe) (Q:=EP X pins σ Q) ht.isList (Heap.IsSliceOf.new ..) .none .none (.int (-1) t) (by decide) (by
   rw [VA];refine ⟨.ref _,_,I4.laid (t':=_) (o := .lst xs.reverse) (fun b ob q=>Heap.get?_push_of_some _ q) (Nat.le_refl _) ?_,rfl,q _ (I4.hok.fresh (Nat.le_refl _))⟩;exact ⟨by rw [List.length_reverse];exact hz,_,0,r.reverse,Heap.get?_push_size _ rfl⟩) (by rw [List.size_toArray]<;>omega)
  exact tail_any (ops:=[.ref a,.ref s2.heap.objs.size]) ht.isList.typeIs slot_list_getitem.lookup hg (by with_unfolding_all rfl)
 ·cases r1
  obtain ⟨its,r,ht,hz⟩:=I4.tuple hx;have hlen:=r.length;have hg:=HT.fV (prog:=X.prog) (w:=X.w) (A:=X.A) (E:=X.xe) (Q:=EP X pins σ Q) ht (Heap.IsSliceOf.new ..) (by
   refine ⟨.ref _,_,I4.laid (t':=_) (o := .tup xs.reverse) (fun b ob q=>Heap.get?_push_of_some _ q) (Nat.le_refl _) ?_,rfl,q _ (I4.hok.fresh (Nat.le_refl _))⟩;exact ⟨by rw [List.length_reverse];exact hz,_,r.reverse,IsTup.new _ _⟩) (by rw [List.size_toArray];omega)
  exact tail_any (ops:=[.ref a,.ref s2.heap.objs.size]) ht.typeIs PyProof.Rows.slot_tuple_getitem.lookup hg (by with_unfolding_all rfl)
 ·obtain ⟨tz,rfl⟩:=r1
  have hg:wpAny (model X.prog X.w) X.A (getItem (.str z tz) (.ref s2.heap.objs.size)) (EP X pins σ Q) X.xe { s2 with heap:=s2.heap.push { cls := .type "slice",data := .fields #[.none,.none,.int (-1) t] } }:=by
   refine wpAny_getItem_str_slice (l:=none) (u:=none) (st:=some (-1,t)) ⟨_,Heap.get?_push_size _ rfl,rfl,rfl⟩ rfl ?_;have e:(if (((some ((-1:Int),t)).map (·.1)).getD 1==1&&(slicePicked z none none (some (-1,t))).length==z.length)=true then z else ⟨((slicePicked z none none (some (-1,t))).filterMap (z.cps[·]?)).toArray⟩)=Vv z:=by
    rw [if_neg (by simp)]
    show (⟨((Builtin.Str.strSliceIndices none none (-1) z.length).filterMap (z.cps[·]?)).toArray⟩:Str)=_
    rw [YdK];exact YdL z
   refine post_val_or_str ⟨by rw [e,Ug];exact hz,fun t' k=>?_⟩;rw [e];exact ⟨.str (Vv z),H2,I4.tok k,⟨t',rfl⟩,q⟩
  exact tail_any (ops:=[.str z tz,.ref s2.heap.objs.size]) (typeIs_str _ _ _) F.slot_str_getitem.lookup hg (by with_unfolding_all rfl)
end
end L2
namespace L2
open PySem
theorem Ya6 (x y:Str):(x++y).length=x.length+y.length:=by
 show (x.cps++y.cps).size=_
 rw [Array.size_append];rfl
def dg:PyData->Bool
 | .bool _=>true
 | _=>false
def isI:PyData->Bool
 | .int _=>true
 | _=>false
def iY:PyData->Bool
 | .str _=>true
 | _=>false
def kE:PyData->Bool
 | .list _=>true
 | _=>false
def isT:PyData->Bool
 | .tuple _=>true
 | _=>false
noncomputable def sm (a b:PyData):Bool:=@decide (a=b) (Classical.propDecidable _)
theorem UV {a b:PyData}:sm a b=true↔a=b:=by unfold sm;exact @decide_eq_true_iff _ (Classical.propDecidable _)
theorem WH (a:PyData):sm a a=true:=UV.mpr rfl
theorem Vw {a b:PyData} (h:a≠b):sm a b=false:=by
 cases e:sm a b with
 | false=>rfl
 | true=>exact absurd (UV.mp e) h
theorem Hh {a b:PyData} {c:Bool} (h:a=b↔c=true):sm a b=c:=by
 cases c with
 | true=>exact UV.mpr (h.mpr rfl)
 | false=>exact Vw fun e=>by have:=h.mp e;cases this
inductive Tm where
 | num (i:Int) | here | part (t:Tm) (k:Int) | count (t:Tm) | sum (t:Tm) | not (t:Tm) | turned (t:Tm)
 | same (a b:Tm) | both (a b:Tm) | when (a b c:Tm) | each (a b:Tm) | joined (a b:Tm) | plus (a b:Tm) | times (a b:Tm) | less (a b:Tm)
abbrev cU:=Except Str PyData
def Xv:PyData->Option (List PyData)
 | .list xs=>some xs
 | .tuple xs=>some xs
 | _=>none
def Vi:List PyData->Option Int
 | []=>some 0
 | .int i::r=>(Vi r).map (i+·)
 | _::_=>none
def take (mk:Str) (s:cU) (f:PyData->Option α):Except Str α:=match s with
 | .error m => .error m
 | .ok d=>match f d with
  | some a => .ok a
  | none => .error mk
def XW:PyData->Option Int
 | .int i=>some i
 | _=>none
def Wa:PyData->Option Bool
 | .bool b=>some b
 | _=>none
def UW:PyData->Option Nat
 | .list xs=>some xs.length
 | .tuple xs=>some xs.length
 | .str x=>some x.length
 | _=>none
def Hi:PyData->Option PyData
 | .list xs=>some (.list xs.reverse)
 | .tuple xs=>some (.tuple xs.reverse)
 | .str x=>some (.str (Vv x))
 | _=>none
def Xh (mk:Str) (f:PyData->cU):List PyData->cU
 | [] => .ok (.bool true)
 | x::xs=>match take mk (f x) Wa with
  | .error m => .error m
  | .ok true=>Xh mk f xs
  | .ok false => .ok (.bool false)
noncomputable def tell:Tm->PyData->cU
 | .num i,_ => .ok (.int i)
 | .here,d => .ok d
 | .part t k,d=>take "part" (tell t d) fun x=>(Xv x).bind fun xs=>if 0<=k then xs[k.toNat]? else none
 | .count t,d=>(take "count" (tell t d) UW).map fun (n:Nat)=>PyData.int (n:Int)
 | .sum t,d=>(take "sum" (tell t d) fun x=>(Xv x).bind Vi).map .int
 | .not t,d=>(take "not" (tell t d) Wa).map fun b => .bool (!b)
 | .turned t,d=>take "turned" (tell t d) Hi
 | .same a b,d=>match tell a d with
  | .error m => .error m
  | .ok x=>(tell b d).map fun y => .bool (sm x y)
 | .both a b,d=>match take "both" (tell a d) Wa with
  | .error m => .error m
  | .ok false => .ok (.bool false)
  | .ok true=>(take "both" (tell b d) Wa).map .bool
 | .when a b c,d=>match take "when" (tell a d) Wa with
  | .error m => .error m
  | .ok true=>tell b d
  | .ok false=>tell c d
 | .each a b,d=>match take "each" (tell a d) Xv with
  | .error m => .error m
  | .ok xs=>Xh "each" (fun x=>tell b x) xs
 | .joined a b,d=>match tell a d with
  | .error m => .error m
  | .ok (.list xs)=>take "joined" (tell b d) fun y=>match y with
   | .list ys=>some (.list (xs++ys))
   | _=>none
  | .ok (.str x)=>take "joined" (tell b d) fun y=>match y with
   | .str z=>some (.str (x++z))
   | _=>none
  | .ok _ => .error "joined"
 | .plus a b,d=>match take "plus" (tell a d) XW with
  | .error m => .error m
  | .ok i=>(take "plus" (tell b d) XW).map fun j => .int (i+j)
 | .times a b,d=>match take "times" (tell a d) XW with
  | .error m => .error m
  | .ok i=>(take "times" (tell b d) XW).map fun j => .int (i*j)
 | .less a b,d=>match take "less" (tell a d) XW with
  | .error m => .error m
  | .ok i=>(take "less" (tell b d) XW).map fun j => .bool (decide (i<j))
def YB (H:Hp):Tm->V->Prop
 | .num i,v=>∃ a,v = .ref a/\H a=some (.tup [.str "num",.int i])
 | .here,v=>∃ a r,v = .ref a/\H a=some (.tup [.str "here",r])
 | .part t k,v=>∃ a p u,v = .ref a/\H a=some (.tup [.str "part",.ref p])/\H p=some (.tup [u,.int k])/\YB H t u
 | .count t,v=>∃ a u,v = .ref a/\H a=some (.tup [.str "count",u])/\YB H t u
 | .sum t,v=>∃ a u,v = .ref a/\H a=some (.tup [.str "sum",u])/\YB H t u
 | .not t,v=>∃ a u,v = .ref a/\H a=some (.tup [.str "not",u])/\YB H t u
 | .turned t,v=>∃ a u,v = .ref a/\H a=some (.tup [.str "turned",u])/\YB H t u
 | .same x y,v=>∃ a p u w,v = .ref a/\H a=some (.tup [.str "same",.ref p])/\H p=some (.tup [u,w])/\YB H x u/\YB H y w
 | .both x y,v=>∃ a p u w,v = .ref a/\H a=some (.tup [.str "both",.ref p])/\H p=some (.tup [u,w])/\YB H x u/\YB H y w
 | .when x y z,v=>∃ a p u w q,v = .ref a/\H a=some (.tup [.str "when",.ref p])/\H p=some (.tup [u,w,q])/\YB H x u/\YB H y w/\YB H z q
 | .each x y,v=>∃ a p u w,v = .ref a/\H a=some (.tup [.str "each",.ref p])/\H p=some (.tup [u,w])/\YB H x u/\YB H y w
 | .joined x y,v=>∃ a p u w,v = .ref a/\H a=some (.tup [.str "joined",.ref p])/\H p=some (.tup [u,w])/\YB H x u/\YB H y w
 | .plus x y,v=>∃ a p u w,v = .ref a/\H a=some (.tup [.str "plus",.ref p])/\H p=some (.tup [u,w])/\YB H x u/\YB H y w
 | .times x y,v=>∃ a p u w,v = .ref a/\H a=some (.tup [.str "times",.ref p])/\H p=some (.tup [u,w])/\YB H x u/\YB H y w
 | .less x y,v=>∃ a p u w,v = .ref a/\H a=some (.tup [.str "less",.ref p])/\H p=some (.tup [u,w])/\YB H x u/\YB H y w
theorem YB.tps {H H':Hp} (h:tZ H H'):∀ {t:Tm} {v:V},YB H t v->YB H' t v
 | .num i,v,⟨a,e,z⟩=>⟨a,e,h _ _ z⟩
 | .here,v,⟨a,r,e,z⟩=>⟨a,r,e,h _ _ z⟩
 | .part t k,v,⟨a,p,u,e,z,y,x⟩=>⟨a,p,u,e,h _ _ z,h _ _ y,YB.tps h x⟩
 | .count t,v,⟨a,u,e,z,x⟩=>⟨a,u,e,h _ _ z,YB.tps h x⟩
 | .sum t,v,⟨a,u,e,z,x⟩=>⟨a,u,e,h _ _ z,YB.tps h x⟩
 | .not t,v,⟨a,u,e,z,x⟩=>⟨a,u,e,h _ _ z,YB.tps h x⟩
 | .turned t,v,⟨a,u,e,z,x⟩=>⟨a,u,e,h _ _ z,YB.tps h x⟩
 | .same _ _,v,⟨a,p,u,w,e,z,y,x1,x2⟩=>⟨a,p,u,w,e,h _ _ z,h _ _ y,YB.tps h x1,YB.tps h x2⟩
 | .both _ _,v,⟨a,p,u,w,e,z,y,x1,x2⟩=>⟨a,p,u,w,e,h _ _ z,h _ _ y,YB.tps h x1,YB.tps h x2⟩
 | .when _ _ _,v,⟨a,p,u,w,q,e,z,y,x1,x2,x3⟩=>⟨a,p,u,w,q,e,h _ _ z,h _ _ y,YB.tps h x1,YB.tps h x2,YB.tps h x3⟩
 | .each _ _,v,⟨a,p,u,w,e,z,y,x1,x2⟩=>⟨a,p,u,w,e,h _ _ z,h _ _ y,YB.tps h x1,YB.tps h x2⟩
 | .joined _ _,v,⟨a,p,u,w,e,z,y,x1,x2⟩=>⟨a,p,u,w,e,h _ _ z,h _ _ y,YB.tps h x1,YB.tps h x2⟩
 | .plus _ _,v,⟨a,p,u,w,e,z,y,x1,x2⟩=>⟨a,p,u,w,e,h _ _ z,h _ _ y,YB.tps h x1,YB.tps h x2⟩
 | .times _ _,v,⟨a,p,u,w,e,z,y,x1,x2⟩=>⟨a,p,u,w,e,h _ _ z,h _ _ y,YB.tps h x1,YB.tps h x2⟩
 | .less _ _,v,⟨a,p,u,w,e,z,y,x1,x2⟩=>⟨a,p,u,w,e,h _ _ z,h _ _ y,YB.tps h x1,YB.tps h x2⟩
theorem YB.keep {H H':Hp} (h:Kt H H') {t:Tm} {v:V} (x:YB H t v):YB H' t v:=x.tps fun a vs e=>h.tup e
structure IB (n:Nat) (i:Int):Prop where
 h:i.natAbs<2^(200*2^n)
theorem Uw {a b:Nat} (h:a<=b):(2:Nat)^a<=2^b:=Nat.pow_le_pow_right (by decide) h
theorem IB.mono {n m:Nat} {i:Int} (h:IB n i) (e:n<=m):IB m i:=⟨Nat.lt_of_lt_of_le h.h (Uw (Nat.mul_le_mul_left _ (Uw e)))⟩
theorem IB.ofNat {n k:Nat} (h:k<=64*2^n):IB n (k:Int):=by
 refine ⟨?_⟩;rw [Int.natAbs_natCast];refine Nat.lt_of_le_of_lt h ?_;have e:64*2^n=2^(6+n):=by rw [Nat.pow_add]
 rw [e];refine Nat.pow_lt_pow_right (by decide) ?_;have:=Nat.lt_two_pow_self (n:=n);omega
theorem xZ (n:Nat):200*2^(n+1)=200*2^n+200*2^n:=by rw [Nat.pow_succ];omega
theorem IB.add {n:Nat} {i j:Int} (h:IB n i) (k:IB n j):IB (n+1) (i+j):=by
 refine ⟨?_⟩;have h1:=h.h;have h2:=k.h;have h3:=Int.natAbs_add_le i j;have h4:(2:Nat)^(200*2^n+1)<=2^(200*2^(n+1)):=Uw (by rw [xZ];have:=Nat.lt_two_pow_self (n:=n);omega);rw [Nat.pow_succ] at h4
 omega
theorem IB.mul {n:Nat} {i j:Int} (h:IB n i) (k:IB n j):IB (n+1) (i*j):=by
 refine ⟨?_⟩;rw [Int.natAbs_mul,xZ,Nat.pow_add];exact Nat.mul_lt_mul'' h.h k.h
mutual
def hb:PyData->Prop
 | .list xs=>xs.length<=64/\hbs xs
 | .tuple xs=>xs.length<=64/\hbs xs
 | .str x=>x.length<=64
 | .int i=>IB 0 i
 | .none=>True
 | .bool _=>True
 | .dict _=>False
def hbs:List PyData->Prop
 | []=>True
 | d::ds=>hb d/\hbs ds
end
def Pk (n:Nat):PyData->Prop
 | .list xs=>xs.length<=64*2^n/\hbs xs
 | .tuple xs=>xs.length<=64*2^n/\hbs xs
 | .str x=>x.length<=64*2^n
 | .int i=>IB n i
 | .none=>True
 | .bool _=>True
 | .dict _=>False
theorem yc {d:PyData} (h:hb d):Pk 0 d:=by
 cases d<;>simp only [hb,Pk] at h ⊢<;>simpa using h
theorem Pk.mono {n m:Nat} {d:PyData} (h:Pk n d) (e:n<=m):Pk m d:=by
 have e2:=Nat.mul_le_mul_left 64 (Uw e)
 cases d with
 | list xs=>exact ⟨Nat.le_trans h.1 e2,h.2⟩
 | tuple xs=>exact ⟨Nat.le_trans h.1 e2,h.2⟩
 | str x=>exact Nat.le_trans h e2
 | int i=>exact IB.mono h e
 | none=>trivial
 | bool b=>trivial
 | dict xs=>exact h
theorem V5:∀ {xs:List PyData} {i:Nat} {d:PyData},hbs xs->xs[i]?=some d->hb d
 | x::xs,0,d,h,e=>by cases (show some x=some d from e);exact h.1
 | x::xs,i+1,d,h,e=>V5 (xs:=xs) (i:=i) h.2 (by simpa using e)
theorem Vj {xs:List PyData} {d:PyData} (h:hbs xs) (e:d∈xs):hb d:=by
 obtain ⟨i,hi⟩:=List.getElem?_of_mem e;exact V5 h hi
theorem yd:∀ {xs:List PyData},(∀ d∈xs,hb d)->hbs xs
 | [],_=>trivial
 | x::xs,h=>⟨h x (.head _),yd fun d hd=>h d (.tail _ hd)⟩
theorem YcN {xs ys:List PyData} (h:hbs xs) (k:hbs ys):hbs (xs++ys):=yd fun d hd=>(List.mem_append.mp hd).elim (Vj h) (Vj k)
theorem Uh {xs:List PyData} (h:hbs xs):hbs xs.reverse:=yd fun d hd=>Vj h (List.mem_reverse.mp hd)
theorem Hj:∀ {xs:List PyData} {s:Int},hbs xs->Vi xs=some s->s.natAbs<=xs.length*2^200
 | [],s,_,e=>by cases e;simp
 | .int i::xs,s,h,e=>by
  simp only [Vi,Option.map_eq_some_iff] at e;obtain ⟨z,e1,rfl⟩:=e;have h1:=Hj h.2 e1;have h2:=(show IB 0 i from h.1).h;have h3:=Int.natAbs_add_le i z;rw [Nat.pow_zero,Nat.mul_one] at h2
  rw [List.length_cons,Nat.add_mul,Nat.one_mul];omega
 | .none::_,_,_,e=>by cases e
 | .bool _::_,_,_,e=>by cases e
 | .str _::_,_,_,e=>by cases e
 | .list _::_,_,_,e=>by cases e
 | .tuple _::_,_,_,e=>by cases e
 | .dict _::_,_,_,e=>by cases e
theorem IB.sum {n:Nat} {xs:List PyData} {s:Int} (h:hbs xs) (hl:xs.length<=64*2^n) (e:Vi xs=some s):IB (n+1) s:=by
 refine ⟨Nat.lt_of_le_of_lt (Hj h e) ?_⟩;refine Nat.lt_of_le_of_lt (Nat.mul_le_mul_right _ hl) ?_;have e1:64*2^n*2^200=2^(6+n+200):=by rw [Nat.pow_add,Nat.pow_add]
 rw [e1];refine Nat.pow_lt_pow_right (by decide) ?_;have:=Nat.lt_two_pow_self (n:=n);rw [xZ];omega
def Tm.dep:Tm->Nat
 | .num _=>0
 | .here=>0
 | .part t _=>t.dep+1
 | .count t=>t.dep+1
 | .sum t=>t.dep+1
 | .not t=>t.dep+1
 | .turned t=>t.dep+1
 | .same a b=>max a.dep b.dep+1
 | .both a b=>max a.dep b.dep+1
 | .when a b c=>max a.dep (max b.dep c.dep)+1
 | .each a b=>max a.dep b.dep+1
 | .joined a b=>max a.dep b.dep+1
 | .plus a b=>max a.dep b.dep+1
 | .times a b=>max a.dep b.dep+1
 | .less a b=>max a.dep b.dep+1
def Tm.ok:Tm->Prop
 | .num i=>IB 0 i
 | .here=>True
 | .part t k=>0<=k/\t.ok
 | .count t=>t.ok
 | .sum t=>t.ok
 | .not t=>t.ok
 | .turned t=>t.ok
 | .same a b=>a.ok/\b.ok
 | .both a b=>a.ok/\b.ok
 | .when a b c=>a.ok/\b.ok/\c.ok
 | .each a b=>a.ok/\b.ok
 | .joined a b=>a.ok/\b.ok
 | .plus a b=>a.ok/\b.ok
 | .times a b=>a.ok/\b.ok
 | .less a b=>a.ok/\b.ok
theorem Y6 {d:PyData}:∀ {ds:List PyData},d∈ds->d.depth<=PyData.depthAll ds
 | e::ds,h=>by
  simp only [PyData.depthAll];rcases List.mem_cons.mp h with rfl | h
  ·omega
  ·have:=Y6 h
   omega
theorem W8 {n:Nat}:∀ {ds:List PyData},(∀ d∈ds,d.depth<=n)->PyData.depthAll ds<=n
 | [],_=>by simp [PyData.depthAll]
 | e::ds,h=>by
  simp only [PyData.depthAll];have h1:=h e (.head _);have h2:=W8 (ds:=ds) fun d hd=>h d (.tail _ hd)
  omega
theorem XD {α:Type} {mk:Str} {s:cU} {f:PyData->Option α} {a:α} (h:take mk s f = .ok a):∃ d,s = .ok d/\f d=some a:=by
 cases s with
 | error m=>cases h
 | ok d =>
  refine ⟨d,rfl,?_⟩;simp only [take] at h
  cases e:f d with
  | none=>rw [e] at h;cases h
  | some b=>rw [e] at h;cases h;rfl
theorem Wt {α β:Type} {s:Except Str α} {f:α->β} {b:β} (h:s.map f = .ok b):∃ a,s = .ok a/\f a=b:=by
 cases s with
 | error m=>cases h
 | ok a=>cases h;exact ⟨a,rfl,rfl⟩
theorem Ui {mk:Str} {f:PyData->cU}:∀ {xs:List PyData} {e:PyData},Xh mk f xs = .ok e->∃ b,e = .bool b
 | [],e,h=>by cases h;exact ⟨_,rfl⟩
 | x::xs,e,h=>by
  simp only [Xh] at h
  split at h
  ·cases h
  ·exact Ui h
  ·cases h;exact ⟨_,rfl⟩
theorem Y3:∀ {t:Tm} {k:Nat} {d e:PyData},t.ok->Pk k d->tell t d = .ok e->Pk (k+t.dep) e/\e.depth<=d.depth
 | .num i,k,d,e,ho,hp,h=>by
  cases h
  exact ⟨Pk.mono (n:=0) (show IB 0 i from ho) (Nat.zero_le _),by simp [PyData.depth]⟩
 | .here,k,d,e,ho,hp,h=>by cases h;exact ⟨hp,Nat.le_refl _⟩
 | .part t z,k,d,e,ho,hp,h=>by
  obtain ⟨x,h1,h2⟩:=XD h;obtain ⟨p1,p2⟩:=Y3 (t:=t) ho.2 hp h1;obtain ⟨xs,h3,h4⟩:=Option.bind_eq_some_iff.mp h2
  split at h4
  ·cases x with
   | list ys =>
    cases h3
    refine ⟨(yc (V5 p1.2 h4)).mono (Nat.zero_le _),?_⟩;have:=Y6 (List.mem_of_getElem? h4);rw [PyData.depth] at p2
    omega
   | tuple ys =>
    cases h3
    refine ⟨(yc (V5 p1.2 h4)).mono (Nat.zero_le _),?_⟩;have:=Y6 (List.mem_of_getElem? h4);rw [PyData.depth] at p2
    omega
   | _=>cases h3
  ·cases h4
 | .count t,k,d,e,ho,hp,h=>by
  obtain ⟨n,h1,rfl⟩:=Wt h;obtain ⟨x,h1,h2⟩:=XD h1;obtain ⟨p1,p2⟩:=Y3 (t:=t) ho hp h1;refine ⟨?_,by simp [PyData.depth]⟩;refine (IB.ofNat (n:=k+t.dep) ?_).mono (by simp only [Tm.dep];omega)
  cases x with
  | list ys=>cases h2;exact p1.1
  | tuple ys=>cases h2;exact p1.1
  | str y=>cases h2;exact p1
  | _=>cases h2
 | .sum t,k,d,e,ho,hp,h=>by
  obtain ⟨n,h1,rfl⟩:=Wt h;obtain ⟨x,h1,h2⟩:=XD h1;obtain ⟨p1,p2⟩:=Y3 (t:=t) ho hp h1;refine ⟨?_,by simp [PyData.depth]⟩;obtain ⟨xs,h3,h4⟩:=Option.bind_eq_some_iff.mp h2
  cases x with
  | list ys=>cases h3;exact IB.sum p1.2 p1.1 h4
  | tuple ys=>cases h3;exact IB.sum p1.2 p1.1 h4
  | _=>cases h3
 | .not t,k,d,e,ho,hp,h=>by
  obtain ⟨n,h1,rfl⟩:=Wt h;exact ⟨trivial,by simp [PyData.depth]⟩
 | .turned t,k,d,e,ho,hp,h=>by
  obtain ⟨x,h1,h2⟩:=XD h;obtain ⟨p1,p2⟩:=Y3 (t:=t) ho hp h1;have rv:∀ ys:List PyData,PyData.depthAll ys.reverse<=PyData.depthAll ys:=fun ys=>W8 fun d hd=>Y6 (List.mem_reverse.mp hd)
  have up:=Nat.mul_le_mul_left 64 (Uw (show k+t.dep<=k+(t.dep+1) by omega))
  cases x with
  | list ys =>
   cases h2
   have:=rv ys;simp only [PyData.depth] at p2 ⊢;exact ⟨⟨by rw [List.length_reverse];exact Nat.le_trans p1.1 up,Uh p1.2⟩,by omega⟩
  | tuple ys =>
   cases h2
   have:=rv ys;simp only [PyData.depth] at p2 ⊢;exact ⟨⟨by rw [List.length_reverse];exact Nat.le_trans p1.1 up,Uh p1.2⟩,by omega⟩
  | str y=>cases h2;exact ⟨by show (Vv y).length<=_;rw [Ug];exact Nat.le_trans p1 up,by simp [PyData.depth]⟩
  | _=>cases h2
 | .same a b,k,d,e,ho,hp,h=>by
  simp only [tell] at h
  split at h
  ·cases h
  ·obtain ⟨y,_,rfl⟩:=Wt h
   exact ⟨trivial,by simp [PyData.depth]⟩
 | .both a b,k,d,e,ho,hp,h=>by
  simp only [tell] at h
  split at h
  ·cases h
  ·cases h;exact ⟨trivial,by simp [PyData.depth]⟩
  ·obtain ⟨y,_,rfl⟩:=Wt h
   exact ⟨trivial,by simp [PyData.depth]⟩
 | .when a b c,k,d,e,ho,hp,h=>by
  simp only [tell] at h
  split at h
  ·cases h
  ·obtain ⟨p1,p2⟩:=Y3 (t:=b) ho.2.1 hp h
   exact ⟨p1.mono (by simp only [Tm.dep];omega),p2⟩
  ·obtain ⟨p1,p2⟩:=Y3 (t:=c) ho.2.2 hp h
   exact ⟨p1.mono (by simp only [Tm.dep];omega),p2⟩
 | .each a b,k,d,e,ho,hp,h=>by
  simp only [tell] at h
  split at h
  ·cases h
  ·obtain ⟨y,rfl⟩:=Ui h
   exact ⟨trivial,by simp [PyData.depth]⟩
 | .joined a b,k,d,e,ho,hp,h=>by
  simp only [tell] at h;have up:64*2^(k+(max a.dep b.dep+1))=64*2^(k+max a.dep b.dep)+64*2^(k+max a.dep b.dep):=by rw [<- Nat.add_assoc,Nat.pow_succ];omega
  have u1:=Nat.mul_le_mul_left 64 (Uw (show k+a.dep<=k+max a.dep b.dep by omega));have u2:=Nat.mul_le_mul_left 64 (Uw (show k+b.dep<=k+max a.dep b.dep by omega))
  split at h
  ·cases h
  ·next xs hx =>
   obtain ⟨y,h1,h2⟩:=XD h;obtain ⟨p1,p2⟩:=Y3 (t:=a) ho.1 hp hx;obtain ⟨p3,p4⟩:=Y3 (t:=b) ho.2 hp h1
   cases y with
   | list ys =>
    cases h2
    have p5:=p1.1;have p6:=p3.1;refine ⟨⟨?_,YcN p1.2 p3.2⟩,?_⟩
    ·show (xs++ys).length<=64*2^(k+(max a.dep b.dep+1))
     rw [List.length_append,up];omega
    ·simp only [PyData.depth] at p2 p4 ⊢
     have:PyData.depthAll (xs++ys)<=max (PyData.depthAll xs) (PyData.depthAll ys):=W8 fun z hz=>by
      rcases List.mem_append.mp hz with hz | hz
      ·have:=Y6 hz;omega
      ·have:=Y6 hz;omega
     omega
   | _=>cases h2
  ·next x hx =>
   obtain ⟨y,h1,h2⟩:=XD h;obtain ⟨p1,p2⟩:=Y3 (t:=a) ho.1 hp hx;obtain ⟨p3,p4⟩:=Y3 (t:=b) ho.2 hp h1
   cases y with
   | str z =>
    cases h2
    refine ⟨?_,by simp [PyData.depth]⟩;have p5:x.length<=64*2^(k+a.dep):=p1;have p6:z.length<=64*2^(k+b.dep):=p3
    show (x++z).length<=64*2^(k+(max a.dep b.dep+1))
    rw [up,Ya6];omega
   | _=>cases h2
  ·cases h
 | .plus a b,k,d,e,ho,hp,h=>by
  simp only [tell] at h
  split at h
  ·cases h
  ·next i hi =>
   obtain ⟨x,h1,h2⟩:=XD hi;obtain ⟨j,h3,rfl⟩:=Wt h;obtain ⟨y,h4,h5⟩:=XD h3;obtain ⟨p1,_⟩:=Y3 (t:=a) ho.1 hp h1;obtain ⟨p2,_⟩:=Y3 (t:=b) ho.2 hp h4
   cases x<;>cases h2
   cases y<;>cases h5
   refine ⟨?_,by simp [PyData.depth]⟩;exact IB.add (n:=k+max a.dep b.dep) (IB.mono p1 (by omega)) (IB.mono p2 (by omega))
 | .times a b,k,d,e,ho,hp,h=>by
  simp only [tell] at h
  split at h
  ·cases h
  ·next i hi =>
   obtain ⟨x,h1,h2⟩:=XD hi;obtain ⟨j,h3,rfl⟩:=Wt h;obtain ⟨y,h4,h5⟩:=XD h3;obtain ⟨p1,_⟩:=Y3 (t:=a) ho.1 hp h1;obtain ⟨p2,_⟩:=Y3 (t:=b) ho.2 hp h4
   cases x<;>cases h2
   cases y<;>cases h5
   refine ⟨?_,by simp [PyData.depth]⟩;exact IB.mul (n:=k+max a.dep b.dep) (IB.mono p1 (by omega)) (IB.mono p2 (by omega))
 | .less a b,k,d,e,ho,hp,h=>by
  simp only [tell] at h
  split at h
  ·cases h
  ·obtain ⟨j,h3,rfl⟩:=Wt h
   exact ⟨trivial,by simp [PyData.depth]⟩
end L2
namespace L2
open PySem PySem.Spec PyProof.Rows
def sb:Nat->Nat
 | 0=>60
 | n+1=>4*sb n+11
section
variable {M:Model} {A:Around} {E:Value->Shared->Prop} {s:Shared} {Q:Value->Shared->Prop}
theorem Ya7 {v:Value} {d:Bool} (hv:∀ id,v ≠ .builtin id) (h:Q (.bool (v == .bool d)) s):wpAny M A (compareOp .Is v (.bool d)) Q E s:=by
 cases v<;>first | exact wpAny_pure (a:=Value.bool (_==Value.bool d)) h | exact absurd rfl (hv _)
end
section
variable {X:Cx}
theorem YgV:bF X (compareOp .Is) (fun x y H Q=>∃ b,y = .bl b/\Q (.bl (decide (x = .bl b))) H):=by
 intro pins s σ H x y v u Q I rx ry h;obtain ⟨b,rfl,q⟩:=h
 cases ry
 have hv:∀ id,v ≠ .builtin id:=fun id z=>by
  subst z
  cases x<;>first | (cases rx;done) | (obtain ⟨t,e⟩:=rx;cases e;done)
 refine Ya7 hv (YL I q ?_)
 cases x<;>first
  | (cases rx;cases b<;>rfl)
  | (cases rx;rename_i c;cases b<;>cases c<;>rfl)
  | (obtain ⟨t,rfl⟩:=rx;cases b<;>rfl)
end
def Hl (K:W.Frag) (cv:Value) (sp:Sp) (t:TA) (ts:TS):TS:=fun D σ H=>t σ H fun vs H1=>sp (vs++[]) H1 (fun v H2=>D.rt (.bl (decide (v = .bl true))) H2) (fun cls _ H2=>W.exmOne K cls cv=some true/\ts D σ H2)
section
variable {g:Gx} {X:Cx} {k j:Nat} {f c:Str} {ps:List Str} {sp:Sp} {e:Expr} {es:List Expr} {t:TA} {ts:TS} {b₀:Stmt} {suite:List Stmt} {cv:Value} {kk:Nat} {fp cp hpos apos cpos bpos mpos pos:Pos}
theorem Yga (F:g.bD j f ps sp) (hr:aQ k X.A) (ha:PA X.bA (e::es) t) (hcm:g.mg c=some cv) (pC:∀ a,cD (X.caught a) (b₀::suite) ts)
  (hj:j<=k) (hX:X.gx=g) (hs:X.stack=X.env::X.outer) (hf:X.env.frame=some X.env.locals) (hg:Gl X f) (hc:Gl X c) (hdf:(f==("__debug__":Str))=false) (hdb:(c==("__debug__":Str))=false)
  (he:starEach (e::es) X.env=(false,eval e X.env)::starEach es X.env) (hpl:(backTo cpos (starEach es X.env)).any (·.1)=false) (hmk:behindInMarks .Is (.Constant (.bool true) kk bpos)=false) :
  PS X (.Try [.Return (some (.Compare (.Call (.Name f fp) (e::es) [] cpos) [.Is] [.Constant (.bool true) kk bpos] mpos)) apos] [.ExceptHandler (some (.Name c cp)) none (b₀::suite) hpos] [] [] pos) (Hl X.K cv sp t ts):=by
 subst hX;intro pins s σ H D I h;obtain ⟨fa,fd,F,b,kp,hm⟩:=F;refine wpAny_Try_except ?_;refine wpAny_execs_cons ?_;refine wpAny_Return_some ?_;refine wpAny_Compare1 (aM (Q:=EP X pins σ fun v H2=>D.rt (.bl (decide (v = .bl true))) H2) ?_ fun v s1 hz=>?_) hmk
 ·refine wpAny_Call_Name_kw (XC I hg hm ?_ hdf)
  refine PySem.W.callWith_K (h₀:=X.base) I.ok.mod.dX kp (wpAny_mono (ha cpos pins s σ H _ (I.wish _) h) (fun us s1 hz=>?_) fun _ _ z=>z.elim) he hpl;obtain ⟨vs,H1,I1,r,q⟩:=hz;have I1:=I1.bO;refine ⟨I1.aR,?_⟩;have r2:Yt (vs++[]) (us++[]):=r.append .nil;have hl:(us++[]).length=ps.length:=by rw [<- r2.length];exact F.len _ _ _ _ q
  refine wpAny_call (codeAny_mono (F.run X.A X.stack s1 H1 ⟨us,[]⟩ (us++[]) (vs++[]) _ _ (hr.mono hj) I1.env0 (b s1 us I1.aR hl) r2 q) fun r s' hq=>?_)
  cases r with
  | error e=>exact I1.catch hs hf hq pC hc hcm hdb
  | ok fl =>
   cases fl with
   | ret u=>exact I1.after hq
   | next=>exact False.elim hq
   | brk=>exact False.elim hq
   | cont=>exact False.elim hq
 ·obtain ⟨y,H1,I1,r1,q1⟩:=hz
  refine wpAny_mono (Xq (X:=X.bA) pins s1 σ H1 (fun x H2=>x = .bl true/\H2=H1) (I1.wish _) ⟨rfl,rfl⟩) (fun u s2 hz=>?_) fun _ _ z=>z.elim
  obtain ⟨x,H2,I2,r2,rfl,rfl⟩:=hz;refine wpAny_mono (YgV (X:=X.bA) pins s2 σ _ y (.bl true) v u (fun x H2=>D.rt x H2) I2 r1 r2 ⟨true,rfl,q1⟩) (fun u2 s3 hz=>?_) fun _ _ z=>z.elim
  obtain ⟨x,H3,I3,r3,q3⟩:=hz;have I3:=I3.bO;exact ⟨x,σ,H3,I3,r3,q3⟩
end
end L2
set_option maxHeartbeats 4000000
namespace PySem.W
open PySem PySem.Calls PyProof.Rows
section sort
variable {f:Nat->Nat->Bool} {n:Nat}
structure Lr (f:Nat->Nat->Bool) (n:Nat):Prop where
 asy:∀ i j,i<n->j<n->f i j=true->f j i=false
 tr:∀ i j k,i<n->j<n->k<n->f j i=false->f k j=false->f k i=false
variable (O:Lr f n) (h0:0<n)
include O h0
end sort
end PySem.W
set_option maxHeartbeats 4000000
set_option maxHeartbeats 4000000
set_option maxHeartbeats 4000000
set_option maxHeartbeats 4000000
set_option maxHeartbeats 4000000
set_option maxHeartbeats 4000000
set_option maxHeartbeats 4000000
namespace L2
open PySem PySem.Spec PyProof.Rows
theorem YeN {P:Program} {w:World} {K:W.Frag} {mg:Str->Option Value} {base:Heap} {k:Nat} {f c:Addr} {name qual:Str} {params:Arguments} {body:List Stmt} {scope:Scope} {doc pm ctv:Value} {N ps:List Str} {l:Yr} {sp:List V->Hp->VK->Prop}
  (S:cu N ps (l.map (·.1)) scope) (hnd:l.as.Nodup) (len:∀ vs H Q,sp vs H Q->vs.length=ps.length)
  (hbody:∀ (A:Around) (outer:List Env) (s:Shared) (H:Hp) (vs:List V) (Q:VK),aQ k (A.deeper (W.envX qual scope s.heap.objs.size f (.ref c) l.cl))->sp vs H Q ->
   ∃ t,cD (VP P w K mg base N qual scope f (.ref c) l.cl A outer s H) body t/\t { nx:=fun _ H'=>Q .non H',rt:=Q } (WR N vs l.vs) H) :
  aW P w K mg base bL (k+1) f (W.fnX name qual params body scope l.cl .none .none doc pm none (.ref c) ctv) ps
   (fun vs H Q _=>pK H f c (W.fnX name qual params body scope l.cl .none .none doc pm none (.ref c) ctv) qual l/\sp vs (off H l.as) fun v H'=>(∀ c∈l.as,H' c=none)->Q v (on H' H l.as)):=by
 refine ⟨fun vs H Q E h=>len _ _ _ h.2,fun A outer s H args us vs Q E hr e0 hb r hsp=>?_⟩;obtain ⟨⟨hf,hc,hin⟩,hsp⟩:=hsp;have hl:=len _ _ _ hsp;have lim:s.heap.NoLimit:=e0.mod.nolimit.keeps fun b o e=>(e0.bs b o e).1
 have hfo:=(e0.hok _ _ hf).1;have hco:s.heap.CodeRec (.ref c) qual:=(e0.hok _ _ hc).1;refine codeAny_call_function hr.depth hfo rfl S.co S.gen rfl hco (hb _ _ _ _ ?_);refine wpAny_newFunctionEnv S.ig (fun y hy=>S.par y.1 (List.of_mem_zip hy).1) (fun h₁ hns hsb=>?_) S.kind;have hk₁:∀ b o,s.heap.get? b=some o->h₁.get? b=some o:=fun b o e=>hsb.extBut b o (Nat.ne_of_lt (Heap.lt_size e)) (Heap.get?_push_of_some _ e)
 refine ⟨lim.keeps hk₁,codeAny_func ?_⟩;obtain ⟨t,ht,hq⟩:=hbody A outer s (off H l.as) vs _ (hr.deeper _) hsp;have zc:∀ b∈l.as,∃ o u,H b=some (.bC o u):=fun b hm=>by
  obtain ⟨p,hp,rfl⟩:=YX hm;obtain ⟨o,z⟩:=hin p hp;exact ⟨o,_,z⟩
 have I:=Vs (cd := .ref c) (qual:=qual) (f:=f) (tk:=s.toks+(ps.zip us).length) S hnd hr.hd e0 hl r (fun p hp=>by
  obtain ⟨o,z⟩:=hin p hp;exact (e0.hok _ _ z).2.1) (Vu e0.hok zc) hns hk₁
 have lk:=VO (l:=l) (by rw [<- S.suf];exact S.nd.sublist (List.drop_sublist _ _));refine wpAny_mono (ht [] _ _ _ _ I hq) (fun fl s' hs=>?_) fun e s' hs=>hs.elim
 cases fl with
 | ret u =>
  obtain ⟨v,σ',H',J,rv,q⟩:=hs;exact xW e0 hin J lk rv q
 | next =>
  obtain ⟨σ',H',J,q⟩:=hs;exact xW (v:=V.non) (u:=Value.none) e0 hin J lk rfl q
 | brk =>
  obtain ⟨_,_,_,q⟩:=hs;exact False.elim q
 | cont =>
  obtain ⟨_,_,_,q⟩:=hs;exact False.elim q
set_option maxHeartbeats 4000000
set_option maxHeartbeats 4000000
inductive Lw (L:List (Addr×Sp)) (H:Hp) (a:Addr) (m:Str) (Q:Sp->Prop):Prop
 | mk (C:Addr) (sp:Sp) (hm:(C,sp)∈L) (dx:Addr) (fs:List (Str×V)) (h:H a=some (.ins C dx fs)) (l:fs.lookup m=none) (q:Q sp)
theorem Yn {s u:TS} {D:Ends} {σ:St} {H:Hp} (h:∀ R:St->Hp->Prop,(∀ σ' H',u D σ' H'->R σ' H')->s { D with nx:=R } σ H):Ul s u D σ H:=h _ fun _ _ h=>h
def Ho (L:List (Addr×Sp)) (m:Str) (ta:TE) (t:TA):TE:=fun σ H Q=>ta σ H fun x H1=>kR x fun a=>Lw L H1 a m fun sp=>t σ H1 fun vs H2=>sp (.ref a::vs) H2 Q E0
def Hq (K:W.Frag) (mg:Str->Option Value) (st:Stmt) (x n:Str) (c:Addr):Prop:=∃ f fd,dF K n n st f fd/\(∀ (s:Shared) (u:Value),BindsTo s fd ⟨[u],[]⟩ [(x,u)])/\mg n=some (.ref f)/\fd.code = .ref c
theorem YcO {K:W.Frag} {h:Heap} {mg:Str->Option Value} {f c:Addr} {x n:Str} {st:Stmt} {oc kV dc pm cd ct:Value} {od an:Option Addr} {sl:Array (Option Value)} (X:K.In h) (G:h.Ns mainGlobals mg)
  (a:W.nsIn K mainGlobals n=some (some (.ref f))) (l:K.lookup f=some ⟨oc,od,.func (W.fnOf n n (Y2 st) (YR st) (Yh st) .none kV dc pm an cd ct),sl⟩) (cc:W.codeIn K cd n=true) (k:W.keepIn K (.ref f)=true) (e:cd = .ref c)
  (b:∀ (kV doc pm:Value) (an:Option Addr) (cdv ct:Value) (s:Shared) (u:Value),BindsTo s (W.fnOf n n (Y2 st) (YR st) (Yh st) .none kV doc pm an cdv ct) ⟨[u],[]⟩ [(x,u)]):Hq K mg st x n c :=
 ⟨f,_,Vd (st:=st) l cc k,b kV dc pm an cd ct,W.mg_of X G a,e⟩
def yg (g:Gx) (k:Nat) (N:List Str) (qual:Str) (st:Stmt) (c:Addr) (sp:Sp):Prop:=∀ (f:Addr) (A:Around) (outer:List Env) (s:Shared) (H:Hp) (vs:List V) (Q:VK) (E:XK),aQ k (g.cx N qual st f (.ref c) A outer s H E).A->sp vs H Q E ->
 ∃ t,cD (g.cx N qual st f (.ref c) A outer s H E) (YR st) t/\t { nx:=fun _ H'=>Q .non H',rt:=Q } (Xi N vs) H
theorem YeO {l:PySem.W.OpenLaw} {q:Program} {loose:List Str} {XP:(Str->Option Value)->Heap->Prop} {YP:World->Heap->Prop} {d:DefRec} {K:Params->PySem.W.Frag} (tabs:xP) (c:Addr) (k:Nat) (x:Str) (st:Stmt) (N:List Str) (hn:l.most=some 63) (hdf:d.params.defaults=[]) (hk:aQ (k+1) callerA) (S:aH N [x] (Yh st))
  (hY:∀ (w:World) (h:Heap),YP w h->(K w.params).In h)
  (hrec:∀ p∈tabs,∃ d',(recsOf q).find? (fun e=>e.name==p.1)=some d')
  (htab:∀ (w:World),∀ p∈tabs,PySem.W.tabIn (K w.params) p.1=some p.2)
  (hno:∀ (w:World),∀ p∈tabs,(K w.params).lookup p.2.2=none)
  (F:∀ (w:World) (mg:Str->Option Value) (h:Heap),(K w.params).In h->h.Ns mainGlobals mg->Hq (K w.params) mg st x d.name c/\∀ base,Bm mg base->(∀ p∈tabs,PySem.W.CodeHd base p.2.1 p.2.2)->yg (Gx.mk l.prog w (K w.params) mg base) k N d.name st c (V3 (K w.params) tabs)) :
  PySem.W.WalkO q loose XP YP l.row.toRowW d [] (fun f vs=>PySem.call f vs):=by
 refine Fd.lM hn hdf fun w s₀ s₁ mg mb fa o pm cd doc a vs ns G Y ho hd hcd hmg hobj hints hlen hg=>?_
 have KX:=hY w _ Y;obtain ⟨⟨f,fd,Fu,hb,hm,hc⟩,B⟩:=F w mg _ KX G.T.g;have e:=hmg.symm.trans hm
 cases e
 obtain ⟨oc,od,kV,adK,pm',an,cdv,ct,osl,rfl,lk,hcd'⟩:=Fu.ex;have hc':cdv = .ref c:=hc;subst hc';refine S8 (CX:=bL) (sp:=V3 (K w.params) tabs) tabs KX G.T.g G.T.b G.T.builtins G.T.nolimit hg hobj hints (Nat.le_trans hlen (by decide)) hk (fun p hp=>?_) (hno w) G.T.bmain
  (fun base _ _ hB hC=>Q5 lk hcd' S (fun vs H Q E h=>by obtain ⟨a,ns,rfl,_⟩:=h;rfl) fun A outer s H vs Q E hr h=>by
   obtain ⟨t,h1,h2⟩:=B base hB hC fa A outer s H vs Q E hr h;exact ⟨t,h1.bA,h2⟩) hb (fun H hT hS=>⟨a,ns,rfl,hS,hlen,hT,fun _=>rfl⟩) fun H e s' z=>z
 obtain ⟨d',hd'⟩:=hrec p hp;exact PySem.W.tab_of G.T KX hd' (htab w p hp)
def CP (s:Stmt):Expr:=match s with
 | .Assign _ (.Call _ as _ _) _=>as.getLastD (.Constant .none 0 ⟨0,0,0,0⟩)
 | .Return (some (.Call _ as _ _)) _=>as.getLastD (.Constant .none 0 ⟨0,0,0,0⟩)
 | .If (.Compare (.Call _ as _ _) _ _ _) _ _ _=>as.getLastD (.Constant .none 0 ⟨0,0,0,0⟩)
 | _ => .Constant .none 0 ⟨0,0,0,0⟩
def Hr (K:W.Frag) (cv:Value) (sp:Sp) (t:TA) (ts:TS):TS:=fun D σ H=>t σ H fun vs H1=>sp (vs++[]) H1 (fun v H2=>D.nx σ H2) (fun cls _ H2=>W.exmOne K cls cv=some true/\ts D σ H2)
section
variable {g:Gx} {X:Cx} {k jj:Nat} {f c:Str} {ps:List Str} {sp:Sp} {e:Expr} {es:List Expr} {t:TA} {ts:TS} {b₀:Stmt} {suite:List Stmt} {cv:Value} {fp cp hpos apos cpos pos:Pos}
theorem YeP (F:g.bD jj f ps sp) (hr:aQ k X.A) (ha:PA X.bA (e::es) t) (hcm:g.mg c=some cv) (pC:∀ a,cD (X.caught a) (b₀::suite) ts)
  (hjk:jj<=k) (hX:X.gx=g) (hs:X.stack=X.env::X.outer) (hf:X.env.frame=some X.env.locals) (hg:Gl X f) (hc:Gl X c) (hdf:(f==("__debug__":Str))=false) (hdb:(c==("__debug__":Str))=false)
  (he:starEach (e::es) X.env=(false,eval e X.env)::starEach es X.env) (hpl:(backTo cpos (starEach es X.env)).any (·.1)=false)
  (hsw:swapsWith (.Call (.Name f fp) (e::es) [] cpos) none apos.line X.env=pure false) :
  PS X (.Try [.Expr (.Call (.Name f fp) (e::es) [] cpos) apos] [.ExceptHandler (some (.Name c cp)) none (b₀::suite) hpos] [] [] pos) (Hr X.K cv sp t ts):=by
 subst hX;intro pins s σ H D I h;obtain ⟨fa,fd,F,b,kp,hm⟩:=F;refine wpAny_Try_except ?_;refine wpAny_execs_cons ?_;refine wpAny_Expr_any (aM (Q:=EP X pins σ fun v H2=>D.nx σ H2) ?_ fun v s1 hz=>?_) I.quiet hsw
 ·refine wpAny_Call_Name_kw (XC I hg hm ?_ hdf)
  refine PySem.W.callWith_K (h₀:=X.base) I.ok.mod.dX kp (wpAny_mono (ha cpos pins s σ H _ (I.wish _) h) (fun us s1 hz=>?_) fun _ _ z=>z.elim) he hpl;obtain ⟨vs,H1,I1,r,q⟩:=hz;have I1:=I1.bO;refine ⟨I1.aR,?_⟩;have r2:Yt (vs++[]) (us++[]):=r.append .nil;have hl:(us++[]).length=ps.length:=by rw [<- r2.length];exact F.len _ _ _ _ q
  refine wpAny_call (codeAny_mono (F.run X.A X.stack s1 H1 ⟨us,[]⟩ (us++[]) (vs++[]) _ _ (hr.mono hjk) I1.env0 (b s1 us I1.aR hl) r2 q) fun r s' hq=>?_)
  cases r with
  | error e=>exact I1.catch hs hf hq pC hc hcm hdb
  | ok fl =>
   cases fl with
   | ret u=>exact I1.after hq
   | next=>exact False.elim hq
   | brk=>exact False.elim hq
   | cont=>exact False.elim hq
 ·obtain ⟨y,H1,I1,r1,q1⟩:=hz
  exact wpAny_execs_nil (wpAny_execs_nil ⟨_,H1,I1,q1⟩)
end
theorem Ygb {X:Cx} {K:W.Frag} {o:Expr} {to:TE} {name:Str} {apos cpos:Pos} {T id:String} {r:V->List V->Hp->VK->Prop} (pa:PlainAttrs T) (slot:Slot T name id) (hty:typeOf (.builtin id)=pure (.type "method_descriptor")) (hm:j5 X id r) (ho:PE X o to)
  (hbase:attributeBase o name X.env (eval o X.env)=eval o X.env) (hline:(apos.endLine==cpos.line)=true) (hK:X.K=K):PE X (.Call (.Attribute o name apos) [] [] cpos) (sU K T r to):=by
 subst hK;exact Ey pa slot hty hm ho hbase hline
theorem YeQ {g:Gx} {X:Cx} {j k:Nat} {x:Str} {ps:List Str} {sp:Sp} {e:Expr} {es:List Expr} {t:TA} {p pos:Pos} (F:g.bD j x ps sp) (hr:aQ k X.A) (ha:PA X (e::es) t) (hj:j<=k) (hX:X.gx=g) (hg:Gl X x) (hdb:(x==("__debug__":Str))=false) (hs:X.stack=X.env::X.outer) (hf:X.env.frame=some X.env.locals) (hfn:∀ x,X.fn x=true)
  (he:starEach (e::es) X.env=(false,eval e X.env)::starEach es X.env) (hpl:(backTo pos (starEach es X.env)).any (·.1)=false) :
  PE X (.Call (.Name x p) (e::es) [] pos) (V4 X sp (fun _ _ _=>False) t):=by
 subst hX;obtain ⟨f',fd,F,b,kp,hm⟩:=F;intro pins s σ H Q I h;refine wpAny_Call_Name_kw (XC I hg hm ?_ hdb);refine PySem.W.callWith_K (h₀:=X.base) I.ok.mod.dX kp (aM (ha pos pins s σ H _ I h) fun us s1 ⟨vs,H1,I1,r,l,hc,q⟩=>⟨I1.aR,?_⟩) he hpl;exact G8 (E:=fun _ _ _=>False) F (hr.mono hj) b hs hf hfn (fun Hz e s' _ _ hz=>by
  obtain ⟨_,_,_,_,_,_,_,_,_,_,z⟩:=hz;exact False.elim z) I1 hc r (q fun c hcc=>by
  obtain ⟨p,hp,rfl⟩:=YX hcc;exact (Qp I1 hc hp).1)
end L2
set_option maxHeartbeats 8000000
namespace KW
open PySem L2
def top (i:Nat):Stmt:=PySem.Challenge.pw_countgen_k78_whole_rest_told.main.body.getD i (.Pass ⟨0,0,0,0⟩)
abbrev Ux:Stmt:=top 2
theorem YdR:aH ["thing"] ["thing"] (Yh Ux):=⟨rfl,rfl,rfl,by decide +kernel,rfl,by decide +kernel,by decide +kernel⟩
abbrev Yg9:Stmt:=top 11
abbrev yh:Stmt:=top 13
theorem Hs:aH ["book","name","pair"] ["book","name"] (Yh yh):=⟨rfl,rfl,rfl,by decide +kernel,rfl,by decide +kernel,by decide +kernel⟩
abbrev yj:Stmt:=top 15
theorem Z1Q:aH ["thing"] ["thing"] (Yh yj):=⟨rfl,rfl,rfl,by decide +kernel,rfl,by decide +kernel,by decide +kernel⟩
abbrev Ygc:Stmt:=top 16
abbrev Yha:Stmt:=top 17
abbrev yp:Stmt:=top 18
theorem Ht:aH ["shape","value","kind"] ["shape","value"] (Yh yp):=⟨rfl,rfl,rfl,by decide +kernel,rfl,by decide +kernel,by decide +kernel⟩
abbrev yq:Stmt:=top 19
theorem Hu:aH ["book","shape","value","kind"] ["book","shape","value"] (Yh yq):=⟨rfl,rfl,rfl,by decide +kernel,rfl,by decide +kernel,by decide +kernel⟩
abbrev yr:Stmt:=top 20
theorem Z2B:aH ["keys"] ["keys"] (Yh yr):=⟨rfl,rfl,rfl,by decide +kernel,rfl,by decide +kernel,by decide +kernel⟩
abbrev yt:Stmt:=top 26
theorem yu:aH ["shape","keys","kind","size","rises"] ["shape","keys"] (Yh yt):=⟨rfl,rfl,rfl,by decide +kernel,rfl,by decide +kernel,by decide +kernel⟩
abbrev yw:Stmt:=top 27
theorem Hv:aH ["shape","value","keys","kind"] ["shape","value","keys"] (Yh yw):=⟨rfl,rfl,rfl,by decide +kernel,rfl,by decide +kernel,by decide +kernel⟩
abbrev yC:Stmt:=top 28
theorem pL:aH ["book","shape","value","keys","part","thing","key"] ["book","shape","value"] (Yh yC):=⟨rfl,rfl,rfl,by decide +kernel,rfl,by decide +kernel,by decide +kernel⟩
abbrev YeR:Stmt:=top 30
abbrev yD:Stmt:=top 31
theorem Ygd:aH ["book","shape","value"] ["book","shape","value"] (Yh yD):=⟨rfl,rfl,rfl,by decide +kernel,rfl,by decide +kernel,by decide +kernel⟩
abbrev yE:Stmt:=top 32
theorem Z1S:aH ["book","shape","value"] ["book","shape","value"] (Yh yE):=⟨rfl,rfl,rfl,by decide +kernel,rfl,by decide +kernel,by decide +kernel⟩
abbrev Yhb:Stmt:=top 33
abbrev YeS:Stmt:=top 48
abbrev Qq:Stmt:=top 60
theorem YeT:aH ["judge","value"] ["judge","value"] (Yh Qq):=⟨rfl,rfl,rfl,by decide +kernel,rfl,by decide +kernel,by decide +kernel⟩
abbrev Ygu:Stmt:=top 62
abbrev yF:Stmt:=top 64
theorem uw:aH ["low","value","steps","distance"] ["low","value"] (Yh yF):=⟨rfl,rfl,rfl,by decide +kernel,rfl,by decide +kernel,by decide +kernel⟩
abbrev yG:Stmt:=top 65
theorem Z2C:aH ["things"] ["things"] (Yh yG):=⟨rfl,rfl,rfl,by decide +kernel,rfl,by decide +kernel,by decide +kernel⟩
abbrev yH:Stmt:=top 66
theorem Zy:aH ["things","inner","changed","place","steps"] ["things","inner"] (Yh yH):=⟨rfl,rfl,rfl,by decide +kernel,rfl,by decide +kernel,by decide +kernel⟩
abbrev yI:Stmt:=top 67
theorem ZF:aH ["book","use","shape","value","found","part","thing"] ["book","use","shape","value"] (Yh yI):=⟨rfl,rfl,rfl,by decide +kernel,rfl,by decide +kernel,by decide +kernel⟩
abbrev yJ:Stmt:=top 69
theorem Ya8:aH ["book","shape","value"] ["book","shape","value"] (Yh yJ):=⟨rfl,rfl,rfl,by decide +kernel,rfl,by decide +kernel,by decide +kernel⟩
abbrev yK:Stmt:=top 71
theorem Hw:aH ["judge","values","value"] ["judge","values"] (Yh yK):=⟨rfl,rfl,rfl,by decide +kernel,rfl,by decide +kernel,by decide +kernel⟩
abbrev yL:Stmt:=top 72
theorem ux:aH ["judge","value","values_next","breaches","reached"] ["judge","value","values_next"] (Yh yL):=⟨rfl,rfl,rfl,by decide +kernel,rfl,by decide +kernel,by decide +kernel⟩
abbrev pN:Stmt:=top 73
theorem YdS:aH ["book","shape","judge","value"] ["book","shape","judge","value"] (Yh pN):=⟨rfl,rfl,rfl,by decide +kernel,rfl,by decide +kernel,by decide +kernel⟩
abbrev yM:Stmt:=top 74
theorem YcQ:aH ["book","shape","judge","value"] ["book","shape","judge","value"] (Yh yM):=⟨rfl,rfl,rfl,by decide +kernel,rfl,by decide +kernel,by decide +kernel⟩
abbrev yN:Stmt:=top 76
theorem yO:aH ["one","other","mine","others"] ["one","other"] (Yh yN):=⟨rfl,rfl,rfl,by decide +kernel,rfl,by decide +kernel,by decide +kernel⟩
abbrev yP:Stmt:=top 77
theorem Yge:aH ["one","other"] ["one","other"] (Yh yP):=⟨rfl,rfl,rfl,by decide +kernel,rfl,by decide +kernel,by decide +kernel⟩
abbrev yQ:Stmt:=top 78
theorem Ya9:aH ["thing"] ["thing"] (Yh yQ):=⟨rfl,rfl,rfl,by decide +kernel,rfl,by decide +kernel,by decide +kernel⟩
abbrev yR:Stmt:=top 79
theorem YcR:aH ["thing"] ["thing"] (Yh yR):=⟨rfl,rfl,rfl,by decide +kernel,rfl,by decide +kernel,by decide +kernel⟩
abbrev yS:Stmt:=top 80
theorem YcS:aH ["thing"] ["thing"] (Yh yS):=⟨rfl,rfl,rfl,by decide +kernel,rfl,by decide +kernel,by decide +kernel⟩
abbrev ZS:Stmt:=top 81
theorem Z1L:aH ["thing"] ["thing"] (Yh ZS):=⟨rfl,rfl,rfl,by decide +kernel,rfl,by decide +kernel,by decide +kernel⟩
abbrev yU:Stmt:=top 82
theorem Z1W:aH ["thing"] ["thing"] (Yh yU):=⟨rfl,rfl,rfl,by decide +kernel,rfl,by decide +kernel,by decide +kernel⟩
abbrev Zs:Stmt:=top 83
theorem Z0X:aH ["thing"] ["thing"] (Yh Zs):=⟨rfl,rfl,rfl,by decide +kernel,rfl,by decide +kernel,by decide +kernel⟩
abbrev Qr:Stmt:=top 85
theorem Hy:aH ["mark","term","thing","can_take","found"] ["mark","term","thing","can_take"] (Yh Qr):=⟨rfl,rfl,rfl,by decide +kernel,rfl,by decide +kernel,by decide +kernel⟩
abbrev pO:Stmt:=top 86
theorem HD:aH ["body","thing","place"] ["body","thing"] (Yh pO):=⟨rfl,rfl,rfl,by decide +kernel,rfl,by decide +kernel,by decide +kernel⟩
abbrev yV:Stmt:=top 87
theorem yW:aH ["mark","body","thing","one","other"] ["mark","body","thing"] (Yh yV):=⟨rfl,rfl,rfl,by decide +kernel,rfl,by decide +kernel,by decide +kernel⟩
abbrev yX:Stmt:=top 88
theorem YaJ:aH ["body","thing"] ["body","thing"] (Yh yX):=⟨rfl,rfl,rfl,by decide +kernel,rfl,by decide +kernel,by decide +kernel⟩
abbrev yZ:Stmt:=top 91
theorem HF:aH ["body","thing","inner"] ["body","thing"] (Yh yZ):=⟨rfl,rfl,rfl,by decide +kernel,rfl,by decide +kernel,by decide +kernel⟩
abbrev za:Stmt:=top 93
theorem Qs:aH ["term","thing","mark","body"] ["term","thing"] (Yh za):=⟨rfl,rfl,rfl,by decide +kernel,rfl,by decide +kernel,by decide +kernel⟩
abbrev zf:Stmt:=top 94
theorem YaL:aH ["term","thing"] ["term","thing"] (Yh zf):=⟨rfl,rfl,rfl,by decide +kernel,rfl,by decide +kernel,by decide +kernel⟩
abbrev uy:Stmt:=top 95
theorem Yba:aH ["term"] ["term"] (Yh uy):=⟨rfl,rfl,rfl,by decide +kernel,rfl,by decide +kernel,by decide +kernel⟩
abbrev zj:Stmt:=top 97
theorem Z2N:aH ["_law_script","_law_k"] ["_law_script","_law_k"] (Yh zj):=⟨rfl,rfl,rfl,by decide +kernel,rfl,by decide +kernel,by decide +kernel⟩
abbrev zm:Stmt:=top 98
theorem Ybb:aH ["_law_low","_law_things"] ["_law_low","_law_things"] (Yh zm):=⟨rfl,rfl,rfl,by decide +kernel,rfl,by decide +kernel,by decide +kernel⟩
abbrev zp:Stmt:=top 99
theorem HJ:aH ["_law_way","_law_low","_law_n","_law_here"] ["_law_way","_law_low","_law_n"] (Yh zp):=⟨rfl,rfl,rfl,by decide +kernel,rfl,by decide +kernel,by decide +kernel⟩
abbrev zq:Stmt:=top 100
theorem QV:aH ["_law_way","_law_low","_law_n","_law_things"] ["_law_way","_law_low","_law_n","_law_things"] (Yh zq):=⟨rfl,rfl,rfl,by decide +kernel,rfl,by decide +kernel,by decide +kernel⟩
abbrev zu:Stmt:=top 101
theorem YcT:aH ["_law_way","_law_low","_law_n","_law_things"] ["_law_way","_law_low","_law_n","_law_things"] (Yh zu):=⟨rfl,rfl,rfl,by decide +kernel,rfl,by decide +kernel,by decide +kernel⟩
abbrev zx:Stmt:=top 102
theorem Z2O:aH ["_law_book","_law_shape","_law_holds","_law_value"] ["_law_book","_law_shape","_law_holds","_law_value"] (Yh zx):=⟨rfl,rfl,rfl,by decide +kernel,rfl,by decide +kernel,by decide +kernel⟩
abbrev UX:Stmt:=top 103
theorem Xc:aH ["_law_script","_law_low","_law_way","_law_n","_law_things","_law_first","_law_cell","_law_thing","_law_shape","_law_book","_law_holds","_law_within","_law_kept","_law_asked","_law_found"] ["_law_script"] (Yh UX):=⟨rfl,rfl,rfl,by decide +kernel,rfl,by decide +kernel,by decide +kernel⟩
abbrev zy:Stmt:=Vc (top 58) 0
theorem Z20:aH ["self","book"] ["self","book"] (Yh zy):=⟨rfl,rfl,rfl,by decide +kernel,rfl,by decide +kernel,by decide +kernel⟩
abbrev ZT:Stmt:=Vc (top 68) 0
theorem Z1M:aH ["self","book"] ["self","book"] (Yh ZT):=⟨rfl,rfl,rfl,by decide +kernel,rfl,by decide +kernel,by decide +kernel⟩
abbrev ZG:Stmt:=Vc (top 68) 1
theorem Zl:aH ["self","shape","value","inner","part","thing"] ["self","shape","value"] (Yh ZG):=⟨rfl,rfl,rfl,by decide +kernel,rfl,by decide +kernel,by decide +kernel⟩
abbrev ZU:Stmt:=Vc (top 68) 2
theorem ZP:aH ["self","shape","value","inner","kind","steps"] ["self","shape","value","inner"] (Yh ZU):=⟨rfl,rfl,rfl,by decide +kernel,rfl,by decide +kernel,by decide +kernel⟩
abbrev zA:Stmt:=Vc (top 7) 0
theorem Z21:aH ["self","mark"] ["self","mark"] (Yh zA):=⟨rfl,rfl,rfl,by decide +kernel,rfl,by decide +kernel,by decide +kernel⟩
theorem Z22 {g:Gx} {C B:Addr} (R:g.gF "Astray" C "Astray.__init__" zA ["self","mark"]) (b:jV g "CountError" B) (xf:kj g.K C B) (vD:W.findIn g.K (.ref C) "mark"=some none):g.uq "Astray" C ["self","mark"] ["mark"]:=by
 refine R.maX Z21 (fun vs H Q E h=>T9 h) fun f_ cdv A outer s H vs Q E hr h=>?_
 refine ⟨_,Yd (Xk (T6 b R.own (Ya (pv 0) (Ya Yp Yc)))) (Ye (T7 xf vD (pv 0) (pv 1))),?_⟩;exact CJ h
abbrev ZQ:Expr:=CK (Q6 pO 1)
theorem Z2t:cu ["found","place"] ["found"] ["place"] (Wf ZQ):=⟨rfl,rfl,rfl,by decide +kernel,rfl,rfl,by decide,by decide +kernel,by decide +kernel,by decide +kernel,by decide +kernel⟩
abbrev Zm:Str:="part_told.<locals>.<lambda>"
theorem WU:((("part_told":Str)++(".<locals>.":Str))++("<lambda>":Str))=Zm:=by decide +kernel
abbrev ZH (cl:List (Str×Addr)) (c:Addr) (pm ctv:Value):FuncData:=W.kla_fn "<lambda>" Zm (Ql ZQ) (Qm ZQ) (Wf ZQ) cl pm (.ref c) ctv
abbrev uz:Expr:=Lp (Q6 uy 0)
theorem Z2D:cu ["thing","term"] ["thing"] ["term"] (Wf uz):=⟨rfl,rfl,rfl,by decide +kernel,rfl,rfl,by decide,by decide +kernel,by decide +kernel,by decide +kernel,by decide +kernel⟩
abbrev Zj:Str:="judge_of.<locals>.<lambda>"
theorem UY:((("judge_of":Str)++(".<locals>.":Str))++("<lambda>":Str))=Zj:=by decide +kernel
abbrev Zu (cl:List (Str×Addr)) (c:Addr) (pm ctv:Value):FuncData:=W.kla_fn "<lambda>" Zj (Ql uz) (Qm uz) (Wf uz) cl pm (.ref c) ctv
abbrev uD:Expr:=CP (Q6 pN 1)
theorem QW:cu ["breach","shape","book"] ["breach"] ["shape","book"] (Wf uD):=⟨rfl,rfl,rfl,by decide +kernel,rfl,rfl,by decide,by decide +kernel,by decide +kernel,by decide +kernel,by decide +kernel⟩
abbrev ZB:Str:="shrunk.<locals>.<lambda>"
theorem QX:((("shrunk":Str)++(".<locals>.":Str))++("<lambda>":Str))=ZB:=by decide +kernel
abbrev ZJ (cl:List (Str×Addr)) (c:Addr) (pm ctv:Value):FuncData:=W.kla_fn "<lambda>" ZB (Ql uD) (Qm uD) (Wf uD) cl pm (.ref c) ctv
abbrev Zz:Stmt:=Q6 UX 10
theorem Z23:cu ["_law_pair","_law_holds"] ["_law_pair"] ["_law_holds"] (Yh Zz):=⟨rfl,rfl,rfl,by decide +kernel,rfl,rfl,by decide,by decide +kernel,by decide +kernel,by decide +kernel,by decide +kernel⟩
abbrev Zo:Str:="law.<locals>._law_within"
theorem VQ:((("law":Str)++(".<locals>.":Str))++("_law_within":Str))=Zo:=by decide +kernel
abbrev Zv (cl:List (Str×Addr)) (c:Addr) (doc pm ctv:Value):FuncData:=W.fnX "_law_within" Zo (Y2 Zz) (YR Zz) (Yh Zz) cl .none .none doc pm none (.ref c) ctv
variable {g:Gx}
local macro_rules | `(tactic| walk_at "rd")=>`(tactic| (dsimp (config:={ failIfUnchanged:=false }) only [L2.Xi,FT,FW,List.map_cons,List.map_nil,List.length_cons,List.length_nil,List.cons_append,List.nil_append,List.replicate_succ,List.replicate_zero,Nat.reduceAdd,Nat.reduceSub,Ul,oX,UD,iU,tC,Wd,fX,rI,rU,vY,oW,DK,Q0,UB,Dz,DG,qJ,YJ,Vo,U5,mD,UG,xJ,Gp,xH,qO,qN,Q4,Q3,Ends.gone,tB,qG,vM,qH,vN,qI,vO,Dy,wj,U6,wu,wA,vQ,vU,qR,sO,sS,qQ,qP,U4,qZ,xG,xg,Gg,Fj,Fg,Fi,Gw,xK,Qg,Ho,Gv,wY,wZ,wB,sV,sU,U8,Fb,o9,v9,qW,Es,vR,DP,YH,List.getD_cons_zero,List.getD_cons_succ,List.getElem?_cons_zero,List.getElem?_cons_succ,List.set_cons_zero,List.set_cons_succ,Dt,Du,Dn,Dp,Dq,Dr,Ds,qT,tH,El,Em,DY,Ea];simp (config:={ failIfUnchanged:=false,maxSteps:=10000000 }) only [L2.Xi,FT,FW,List.map_cons,List.map_nil,List.length_cons,List.length_nil,List.cons_append,List.nil_append,List.replicate_succ,List.replicate_zero,Nat.zero_add,Nat.reduceAdd,Nat.reduceSub,Nat.sub_self,Ul,oX,UD,iU,tC,Wd,fX,rI,rU,vY,oW,DK,Q0,UB,Dz,DG,qJ,YJ,oY,WX,Vo,U5,mD,UG,xJ,Gp,xH,qO,qN,Q4,Q3,Ends.gone,R0,tB,qG,vM,qH,vN,qI,vO,Dy,wj,U6,wu,wA,vQ,vU,qR,sO,sS,qQ,qP,U4,qZ,xG,xg,Gg,Fj,Fg,Fi,Gw,xK,Qg,Ho,Gv,wY,wZ,wB,sV,sU,U8,Fb,o9,v9,Pz,PB,qW,Es,vR,DP,YH,List.getD_cons_zero,List.getD_cons_succ,decide_true,not_true_eq_false,not_false_eq_true,exists_eq_left',exists_eq_left,exists_eq',exists_eq,exists_and_left,and_assoc,Option.some.injEq,V.int.injEq,V.bl.injEq,V.ref.injEq,V.str.injEq,List.getElem?_cons_zero,List.getElem?_cons_succ,List.set_cons_zero,List.set_cons_succ,List.cons.injEq,and_true,true_and,List.append_nil,decide_eq_true_eq,Bool.not_eq_true',decide_eq_false_iff_not,Bool.not_not,Bool.not_true,Bool.not_false,Bool.true_eq_false,Bool.false_eq_true,if_true,if_false,ite_true,ite_false,Dt,Du,Dn,Dp,Dq,Dr,Ds,qT,tH,El,Em,DY,Ea,U0,Uk,W5,v8]))
theorem zB {i j:Int} (h:0<=j/\j<=1000000/\i.natAbs<2^64:=by decide):v7 i j:=h
theorem few {n:Nat} (h:n<=100000):n<=sizeLine:=Nat.le_trans h (by decide)
 variable {m:Nat}
inductive bQ (f:PyData->Bool) (vs:List V) (H:Hp) (Q:VK) (E_:XK):Prop
 | mk (v:V) (d:PyData) (h0:vs=[v]) (h1:DV H v d) (h2:Q (.bl (f d)) H)
theorem Z24 {Z0 Z3 Z1 Z4 Z2:Addr} {ao aj:Addr} {au aq:Addr} {aB aA:Addr} {aF aD:Addr} (R:g.Raw "is_whole_number" "is_whole_number" yj ["thing"]) (cg:g.mg "bool"=none) (dR:g.mg "int"=none) (Z5:g.mg "isinstance"=none):g.Fn (1) "is_whole_number" ["thing"] (bQ isI):=by
 refine R.fn Z1Q (fun vs H Q E h=>by obtain ⟨v,d,rfl,hd,q⟩:=h;rfl) fun f_ cdv A outer s H vs Q E hr h=>?_
 obtain ⟨v,d,rfl,hd,q⟩:=h;refine ⟨_,(@Ye _ _ _ (@Yj _ _ _ _ (@Xf _ _ _ _ _ _ _ (@YQ _ _ _ _ _ _ _ _ _ _ Z5 YO (@Ya _ _ _ _ _ (pv 0) (@Ya _ _ _ _ _ (@Y4 _ _ _ _ ("int") dR (by decide +kernel) (by rfl) (by rfl) (by decide) (by decide)) Yc (by rfl)) (by rfl)) (by decide +kernel) (by rfl) (by rfl) (by decide) (by decide) (by rfl) (by rfl)) (@Xa _ _ _ _ _ (@vP _ _ _ _ (@YQ _ _ _ _ _ _ _ _ _ _ Z5 YO (@Ya _ _ _ _ _ (pv 0) (@Ya _ _ _ _ _ (@Y4 _ _ _ _ ("bool") cg (by decide +kernel) (by rfl) (by rfl) (by decide) (by decide)) Yc (by rfl)) (by rfl)) (by decide +kernel) (by rfl) (by rfl) (by decide) (by decide) (by rfl) (by rfl))))))),?_⟩;walk_at "rd";have ty:=hd.ty (K:=g.K)
 cases d with
 | bool b=>exact ⟨_,rfl,_,ty,true,rfl,U9 ⟨_,rfl,_,ty,true,rfl,q⟩⟩
 | int i=>exact ⟨_,rfl,_,ty,true,rfl,U9 ⟨_,rfl,_,ty,false,rfl,q⟩⟩
 | _=>exact ⟨_,rfl,_,ty,false,rfl,qX q⟩
theorem Ybc {Z0 Z3 Z1 Z4 Z2:Addr} {ao aj:Addr} {au aq:Addr} {aB aA:Addr} {aF aD:Addr} (R:g.Raw "is_truth" "is_truth" yQ ["thing"]) (cg:g.mg "bool"=none) (Z5:g.mg "isinstance"=none):g.Fn (1) "is_truth" ["thing"] (bQ dg):=by
 refine R.fn Ya9 (fun vs H Q E h=>by obtain ⟨v,d,rfl,hd,q⟩:=h;rfl) fun f_ cdv A outer s H vs Q E hr h=>?_
 obtain ⟨v,d,rfl,hd,q⟩:=h;refine ⟨_,(@Ye _ _ _ (@Yj _ _ _ _ (@YQ _ _ _ _ _ _ _ _ _ _ Z5 YO (@Ya _ _ _ _ _ (pv 0) (@Ya _ _ _ _ _ (@Y4 _ _ _ _ ("bool") cg (by decide +kernel) (by rfl) (by rfl) (by decide) (by decide)) Yc (by rfl)) (by rfl)) (by decide +kernel) (by rfl) (by rfl) (by decide) (by decide) (by rfl) (by rfl)))),?_⟩;walk_at "rd";have ty:=hd.ty (K:=g.K)
 cases d with
 | bool b=>exact ⟨_,rfl,_,ty,true,rfl,q⟩
 | _=>exact ⟨_,rfl,_,ty,false,rfl,q⟩
theorem YcU {Z0 Z3 Z1 Z4 Z2:Addr} {ao aj:Addr} {au aq:Addr} {aB aA:Addr} {aF aD:Addr} (R:g.Raw "is_text" "is_text" yR ["thing"]) (Z5:g.mg "isinstance"=none) (bV:g.mg "str"=none):g.Fn (1) "is_text" ["thing"] (bQ iY):=by
 refine R.fn YcR (fun vs H Q E h=>by obtain ⟨v,d,rfl,hd,q⟩:=h;rfl) fun f_ cdv A outer s H vs Q E hr h=>?_
 obtain ⟨v,d,rfl,hd,q⟩:=h;refine ⟨_,(@Ye _ _ _ (@Yj _ _ _ _ (@YQ _ _ _ _ _ _ _ _ _ _ Z5 YO (@Ya _ _ _ _ _ (pv 0) (@Ya _ _ _ _ _ (@Y4 _ _ _ _ ("str") bV (by decide +kernel) (by rfl) (by rfl) (by decide) (by decide)) Yc (by rfl)) (by rfl)) (by decide +kernel) (by rfl) (by rfl) (by decide) (by decide) (by rfl) (by rfl)))),?_⟩;walk_at "rd";have ty:=hd.ty (K:=g.K)
 cases d with
 | str b=>exact ⟨_,rfl,_,ty,true,rfl,q⟩
 | _=>exact ⟨_,rfl,_,ty,false,rfl,q⟩
theorem YcV {Z0 Z3 Z1 Z4 Z2:Addr} {ao aj:Addr} {au aq:Addr} {aB aA:Addr} {aF aD:Addr} (R:g.Raw "is_list" "is_list" yS ["thing"]) (Z5:g.mg "isinstance"=none) (aP:g.mg "list"=none):g.Fn (1) "is_list" ["thing"] (bQ kE):=by
 refine R.fn YcS (fun vs H Q E h=>by obtain ⟨v,d,rfl,hd,q⟩:=h;rfl) fun f_ cdv A outer s H vs Q E hr h=>?_
 obtain ⟨v,d,rfl,hd,q⟩:=h;refine ⟨_,(@Ye _ _ _ (@Yj _ _ _ _ (@YQ _ _ _ _ _ _ _ _ _ _ Z5 YO (@Ya _ _ _ _ _ (pv 0) (@Ya _ _ _ _ _ (@Y4 _ _ _ _ ("list") aP (by decide +kernel) (by rfl) (by rfl) (by decide) (by decide)) Yc (by rfl)) (by rfl)) (by decide +kernel) (by rfl) (by rfl) (by decide) (by decide) (by rfl) (by rfl)))),?_⟩;walk_at "rd";have ty:=hd.ty (K:=g.K)
 cases d with
 | list b=>exact ⟨_,rfl,_,ty,true,rfl,q⟩
 | _=>exact ⟨_,rfl,_,ty,false,rfl,q⟩
def W9 (d:PyData):Bool:=(Xv d).isSome
def Lx (d:PyData):Bool:=kE d||iY d
def V6 (d:PyData):Bool:=(UW d).isSome
inductive dB (f:PyData->Bool) (vs:List V) (H:Hp) (Q:VK) (E_:XK):Prop
 | mk (v:V) (d:PyData) (h0:vs=[v]) (h1:DV H v d) (h2:∀ H',Yf H H'->Q (.bl (f d)) H')
theorem Z1N {Z0 Z3 Z1 Z4 Z2:Addr} {ao aj:Addr} {au aq:Addr} {aB aA:Addr} {aF aD:Addr} (R:g.Raw "is_list_or_tuple" "is_list_or_tuple" ZS ["thing"]) (Z5:g.mg "isinstance"=none) (aP:g.mg "list"=none) (Z6:g.mg "tuple"=none):g.Fn (1) "is_list_or_tuple" ["thing"] (dB W9):=by
 refine R.fn Z1L (fun vs H Q E h=>by obtain ⟨v,d,rfl,hd,q⟩:=h;rfl) fun f_ cdv A outer s H vs Q E hr h=>?_
 obtain ⟨v,d,rfl,hd,q⟩:=h;refine ⟨_,(@Ye _ _ _ (@Yj _ _ _ _ (@YQ _ _ _ _ _ _ _ _ _ _ Z5 WQ (@Ya _ _ _ _ _ (pv 0) (@Ya _ _ _ _ _ (@YF _ _ _ _ _ (@Ya _ _ _ _ _ (@Y4 _ _ _ _ ("list") aP (by decide +kernel) (by rfl) (by rfl) (by decide) (by decide)) (@Ya _ _ _ _ _ (@Y4 _ _ _ _ ("tuple") Z6 (by decide +kernel) (by rfl) (by rfl) (by decide) (by decide)) Yc (by rfl)) (by rfl))) Yc (YG _ _ _ _ _)) (by rfl)) (by decide +kernel) (by rfl) (by rfl) (by decide) (by decide) (by rfl) (by rfl)))),?_⟩;walk_at "rd";refine ⟨by decide,fun p hp=>⟨["list","tuple"],Yb,?_⟩⟩;have s:=Yf.aG hp (HO.tup [V.ty "list",V.ty "tuple"]);have ty:=(hd.keep s).ty (K:=g.K);have q':=q _ s
 cases d with
 | list b=>exact ⟨_,ty,true,rfl,q'⟩
 | tuple b=>exact ⟨_,ty,true,rfl,q'⟩
 | _=>exact ⟨_,ty,false,rfl,q'⟩
theorem Z25 {Z0 Z3 Z1 Z4 Z2:Addr} {ao aj:Addr} {au aq:Addr} {aB aA:Addr} {aF aD:Addr} (R:g.Raw "is_list_or_text" "is_list_or_text" yU ["thing"]) (Z5:g.mg "isinstance"=none) (aP:g.mg "list"=none) (bV:g.mg "str"=none):g.Fn (1) "is_list_or_text" ["thing"] (dB Lx):=by
 refine R.fn Z1W (fun vs H Q E h=>by obtain ⟨v,d,rfl,hd,q⟩:=h;rfl) fun f_ cdv A outer s H vs Q E hr h=>?_
 obtain ⟨v,d,rfl,hd,q⟩:=h;refine ⟨_,(@Ye _ _ _ (@Yj _ _ _ _ (@YQ _ _ _ _ _ _ _ _ _ _ Z5 WQ (@Ya _ _ _ _ _ (pv 0) (@Ya _ _ _ _ _ (@YF _ _ _ _ _ (@Ya _ _ _ _ _ (@Y4 _ _ _ _ ("list") aP (by decide +kernel) (by rfl) (by rfl) (by decide) (by decide)) (@Ya _ _ _ _ _ (@Y4 _ _ _ _ ("str") bV (by decide +kernel) (by rfl) (by rfl) (by decide) (by decide)) Yc (by rfl)) (by rfl))) Yc (YG _ _ _ _ _)) (by rfl)) (by decide +kernel) (by rfl) (by rfl) (by decide) (by decide) (by rfl) (by rfl)))),?_⟩;walk_at "rd";refine ⟨by decide,fun p hp=>⟨["list","str"],Yb,?_⟩⟩;have s:=Yf.aG hp (HO.tup [V.ty "list",V.ty "str"]);have ty:=(hd.keep s).ty (K:=g.K);have q':=q _ s
 cases d with
 | list b=>exact ⟨_,ty,true,rfl,q'⟩
 | str b=>exact ⟨_,ty,true,rfl,q'⟩
 | _=>exact ⟨_,ty,false,rfl,q'⟩
theorem Z0Z {Z0 Z3 Z1 Z4 Z2:Addr} {ao aj:Addr} {au aq:Addr} {aB aA:Addr} {aF aD:Addr} (R:g.Raw "is_list_tuple_or_text" "is_list_tuple_or_text" Zs ["thing"]) (Z5:g.mg "isinstance"=none) (aP:g.mg "list"=none) (bV:g.mg "str"=none) (Z6:g.mg "tuple"=none):g.Fn (1) "is_list_tuple_or_text" ["thing"] (dB V6):=by
 refine R.fn Z0X (fun vs H Q E h=>by obtain ⟨v,d,rfl,hd,q⟩:=h;rfl) fun f_ cdv A outer s H vs Q E hr h=>?_
 obtain ⟨v,d,rfl,hd,q⟩:=h;refine ⟨_,(@Ye _ _ _ (@Yj _ _ _ _ (@YQ _ _ _ _ _ _ _ _ _ _ Z5 WQ (@Ya _ _ _ _ _ (pv 0) (@Ya _ _ _ _ _ (@YF _ _ _ _ _ (@Ya _ _ _ _ _ (@Y4 _ _ _ _ ("list") aP (by decide +kernel) (by rfl) (by rfl) (by decide) (by decide)) (@Ya _ _ _ _ _ (@Y4 _ _ _ _ ("tuple") Z6 (by decide +kernel) (by rfl) (by rfl) (by decide) (by decide)) (@Ya _ _ _ _ _ (@Y4 _ _ _ _ ("str") bV (by decide +kernel) (by rfl) (by rfl) (by decide) (by decide)) Yc (by rfl)) (by rfl)) (by rfl))) Yc (YG _ _ _ _ _)) (by rfl)) (by decide +kernel) (by rfl) (by rfl) (by decide) (by decide) (by rfl) (by rfl)))),?_⟩;walk_at "rd";refine ⟨by decide,fun p hp=>⟨["list","tuple","str"],Yb,?_⟩⟩;have s:=Yf.aG hp (HO.tup [V.ty "list",V.ty "tuple",V.ty "str"]);have ty:=(hd.keep s).ty (K:=g.K);have q':=q _ s
 cases d with
 | list b=>exact ⟨_,ty,true,rfl,q'⟩
 | tuple b=>exact ⟨_,ty,true,rfl,q'⟩
 | str b=>exact ⟨_,ty,true,rfl,q'⟩
 | _=>exact ⟨_,ty,false,rfl,q'⟩
def Rw (H:Hp) (v:V) (ds:List PyData) (b:Bool) (a:Addr) (vs:List V):Prop:=v = .ref a/\H a=some (if b then .lst vs else .tup vs)/\vs.length<=10000/\bB H vs ds
inductive zE (K:W.Frag) (m:Nat) (vs:List V) (H:Hp) (Q:VK) (E_:XK):Prop
 | mk (v w:V) (ds es:List PyData) (b:Bool) (a a':Addr) (us us':List V) (h0:vs=[v,w]) (h1:Rw H v ds b a us) (h2:Rw H w es b a' us') (h3:2*PyData.depthAll ds+2<=m) (h4:∀ H',Yf H H'->Q (.bl (sm (.list ds) (.list es))) H')
inductive fQ (K:W.Frag) (m:Nat) (vs:List V) (H:Hp) (Q:VK) (E_:XK):Prop
 | mk (v w:V) (d e:PyData) (h0:vs=[v,w]) (h1:DV H v d) (h2:DV H w e) (h3:2*d.depth+1<=m) (h4:∀ H',Yf H H'->Q (.bl (sm d e)) H')
theorem YaM {K:W.Frag} {vs:List V} {H:Hp} {Q:VK} {E:XK} (h:zE K 0 vs H Q E):False:=by
 obtain ⟨v,w,ds,es,b,a,a',us,us',_,_,_,h,_⟩:=h;omega
theorem Ygf {K:W.Frag} {vs:List V} {H:Hp} {Q:VK} {E:XK} (h:fQ K 0 vs H Q E):False:=by
 obtain ⟨v,w,d,e,_,_,_,h,_⟩:=h;omega
theorem Zk {k:Nat} {Z0 Z3 Z1 Z4 Z2:Addr} {ao aj:Addr} {au aq:Addr} {aB aA:Addr} {aF aD:Addr} (R:g.Raw "same_each" "same_each" yN ["one","other"]) (kJ:g.Fn k "same" ["one","other"] (fQ g.K m)) (aN:g.mg "len"=none) (bM:g.mg "zip"=none):g.Fn (k+1) "same_each" ["one","other"] (zE g.K (m+1)):=by
 refine R.fn yO (fun vs H Q E h=>by obtain ⟨v,w,ds,es,b,a,a',us,us',rfl,⟨rfl,ha,hl,hd⟩,⟨rfl,ha',hl',hd'⟩,hm,q⟩:=h;rfl) fun f_ cdv A outer s H vs Q E hr h=>?_
 obtain ⟨v,w,ds,es,b,a,a',us,us',rfl,⟨rfl,ha,hl,hd⟩,⟨rfl,ha',hl',hd'⟩,hm,q⟩:=h;refine ⟨_,(@Yd _ _ _ _ _ (@Yq _ _ _ _ _ _ _ _ (@Yo _ _ _ _ _ _ _ _ Eh (@YQ _ _ _ _ _ _ _ _ _ _ aN YW (@Ya _ _ _ _ _ (pv 0) Yc (by rfl)) (by decide +kernel) (by rfl) (by rfl) (by decide) (by decide) (by rfl) (by rfl)) (@YQ _ _ _ _ _ _ _ _ _ _ aN YW (@Ya _ _ _ _ _ (pv 1) Yc (by rfl)) (by decide +kernel) (by rfl) (by rfl) (by decide) (by decide) (by rfl) (by rfl)) (Yk _)) (@Ye _ _ _ (@Yj _ _ _ _ Xq)) Yl) (@Yd _ _ _ _ _ (@XR _ _ _ _ _ _ _ _ PassesOwn.never rfl (@Gs _ _ _ _ _ (@Pq _ _ _ _ _ _ _ _ _ rfl bM (@Ya _ _ _ _ _ (pv 0) (@Ya _ _ _ _ _ (pv 1) Yc (by rfl)) (by rfl)) (by rfl) (by rfl)) (@Pn _ _ _ _ _ _ _ _ _ rfl bM (@Ya _ _ _ _ _ (pv 0) (@Ya _ _ _ _ _ (pv 1) Yc (by rfl)) (by rfl)) (by rfl) (by rfl))) (@VD _ _ _ _ _ (2) rfl (@Xo _ _ _ _ _ (@YK _ _ (2) _ yO.nd rfl (.inl rfl) (by first | exact .inl rfl | exact .inr rfl | assumption)) (@Xo _ _ _ _ _ (@YK _ _ (3) _ yO.nd rfl (.inl rfl) (by first | exact .inl rfl | exact .inr rfl | assumption)) Va (by rfl)) (by rfl)) (by rfl) (by rfl)) (@Ye _ _ _ (@Yq _ _ _ _ _ _ _ _ (@XG _ _ _ _ (@Y0 _ _ _ (@Yv _ _ _ _ _ _ _ _ _ _ _ _ kJ hr (@Ya _ _ _ _ _ (pv 2) (@Ya _ _ _ _ _ (pv 3) Yc (by rfl)) (by rfl)) (by omega) (by rfl) (by rfl) (by decide) (by rfl) (by rfl)) (by intro _;rfl))) (@Ye _ _ _ (@Yj _ _ _ _ Xq)) Yl)) (by intro _;rfl)) (@Ye _ _ _ (@Yj _ _ _ _ Xq)))),?_⟩;have n1:=hd.length;have n2:=hd'.length;have key:∀ {H':Hp} {c:Addr} {vs:List V},H' c=some (if b=true then .lst vs else .tup vs)->(if b=true then aJ g.K H' c vs else aK g.K H' c vs):=fun {H' c vs} h=>by
  cases b with
  | true=>exact aJ.of (by simpa using h)
  | false=>exact aK.of (by simpa using h)
 have sq:∀ {c:Addr} {vs:List V},H c=some (if b=true then .lst vs else .tup vs)->aJ g.K H c vs\/aK g.K H c vs:=fun {c vs} h=>by
  have:=key h
  cases b with
  | true=>exact .inl (by simpa using this)
  | false=>exact .inr (by simpa using this)
 walk_at "rd";refine ⟨us,sq ha,us',sq ha',tu (fun c=>?_) (fun c=>?_)⟩
 ·rw [Vw fun z=>?_] at q
  ·exact q H (.refl _)
  ·have e:ds=es:=by injection z
   rw [e] at n1
   omega
 ·have hll:us.length=us'.length:=by omega
  refine Ti (K:=g.K) b 2 3 (xs:=us) (ys:=us') (fun a1 a2 n σ H'=>a1=a/\a2=a'/\(∃ o2 o3,σ=[some (.ref a),some (.ref a'),o2,o3])/\Yf H H'/\∀ (j:Nat) d e,j<n->ds[j]?=some d->es[j]?=some e->d=e) (fun R r=>by walk_at "rd";exact r a a' H ⟨rfl,rfl,⟨_,_,rfl⟩,.refl _,fun j d e hj=>by omega⟩) (fun a1 a2 n σ H' _ ⟨e1,e2,_,s,_⟩=>by subst e1 e2;exact ⟨key (s _ _ ha),key (s _ _ ha')⟩) ?_ ?_
  ·rintro a1 a2 n x y σ H' T hx hy ⟨rfl,rfl,⟨o2,o3,rfl⟩,s1,hall⟩ hT
   have sT:=Yf.aG hT (.tup [x,y]);obtain ⟨d,hd1,hd2⟩:=hd.at hx;obtain ⟨e,um,he2⟩:=hd'.at hy;have hdd:=Y6 (List.mem_of_getElem? hd1);walk_at "rd";refine ⟨x,y,d,e,rfl,hd2.keep (s1.trans sT),he2.keep (s1.trans sT),by omega,fun H2 s2=>⟨_,rfl,?_⟩⟩
   cases hsm:sm d e with
   | false =>
    refine YT rfl ?_;rw [Vw fun z=>?_] at q
    ·exact q H2 ((s1.trans sT).trans s2)
    ·have e1:ds=es:=by injection z
     rw [e1,um] at hd1
     have:d=e:=(Option.some.inj hd1).symm;rw [this,WH] at hsm
     cases hsm
   | true =>
    refine Yu (by decide) ⟨(s1.trans sT).trans s2,fun j d' e' hj h1 h2=>?_⟩;by_cases c:j<n
    ·exact hall j d' e' c h1 h2
    ·have:j=n:=by omega
     subst this;rw [hd1] at h1
     rw [um] at h2
     cases h1
     cases h2
     exact UV.mp hsm
  ·rintro a1 a2 σ H' ⟨rfl,rfl,⟨o2,o3,rfl⟩,s1,hall⟩
   walk_at "rd";have e:ds=es:=by
    refine List.ext_getElem? fun j=>?_
    by_cases c:j<ds.length
    ·have h1:ds[j]?=some ds[j]:=List.getElem?_eq_getElem c
     have h2:es[j]?=some (es[j]'(by omega)):=List.getElem?_eq_getElem _;rw [h1,h2,hall j _ _ (by omega) h1 h2]
    ·rw [List.getElem?_eq_none (by omega),List.getElem?_eq_none (by omega)]
   rw [e,WH] at q
   exact q H' s1
theorem Ygg {d e:PyData} (f:PyData->Bool) (h:f d≠f e):sm d e=false:=Vw fun z=>h (by rw [z])
theorem YeU (a b:Bool):(PyData.bool a).eqv (.bool b)=sm (.bool a) (.bool b):=by
 cases a<;>cases b<;>first | (rw [WH];rfl) | (rw [Vw (by intro z;cases z)];rfl)
theorem Ygh (a b:Int):(PyData.int a).eqv (.int b)=sm (.int a) (.int b):=by
 by_cases h:a=b
 ·subst h;rw [WH];simp [PyData.eqv]
 ·rw [Vw (by intro z;cases z;exact h rfl)];simp [PyData.eqv,h]
theorem Ygi (a b:Str):(PyData.str a).eqv (.str b)=sm (.str a) (.str b):=by
 by_cases h:a=b
 ·subst h;rw [WH];simp [PyData.eqv]
 ·rw [Vw (by intro z;cases z;exact h rfl)];simp [PyData.eqv,h]
theorem zF {H:Hp} {v:V} (h:DV H v .none):v = .non:=by obtain ⟨L,h⟩:=h;cases h;rfl
theorem Ygj {H:Hp} {v:V} {d:PyData} (h:DV H v d) (n:d ≠ .none):v ≠ .non:=by
 obtain ⟨L,h⟩:=h;rintro rfl
 cases h
 exact n rfl
theorem X1 {k:Nat} {Z0 Z3 Z1 Z4 Z2:Addr} {ao aj:Addr} {au aq:Addr} {aB aA:Addr} {aF aD:Addr} (R:g.Raw "same" "same" yP ["one","other"]) (Zf:g.Fn k "is_whole_number" ["thing"] (bQ isI)) (HN:g.Fn k "same_each" ["one","other"] (zE g.K m)) (mJ:g.Fn k "is_truth" ["thing"] (bQ dg)) (iZ:g.Fn k "is_text" ["thing"] (bQ iY)) (jc:g.Fn k "is_list" ["thing"] (bQ kE)) (Z5:g.mg "isinstance"=none) (Z6:g.mg "tuple"=none):g.Fn (k+1) "same" ["one","other"] (fQ g.K (m+1)):=by
 refine R.fn Yge (fun vs H Q E h=>by obtain ⟨v,w,d,e,rfl,hv,hw,hm,q⟩:=h;rfl) fun f_ cdv A outer s H vs Q E hr h=>?_
 obtain ⟨v,w,d,e,rfl,hv,hw,hm,q⟩:=h;refine ⟨_,(@Yd _ _ _ _ _ (@Yq _ _ _ _ _ _ _ _ (@Y0 _ _ _ (@Yv _ _ _ _ _ _ _ _ _ _ _ _ mJ hr (@Ya _ _ _ _ _ (pv 0) Yc (by rfl)) (by omega) (by rfl) (by rfl) (by decide) (by rfl) (by rfl)) (by intro _;rfl)) (@Ye _ _ _ (@Yj _ _ _ _ (@Xf _ _ _ _ _ _ _ (@Yv _ _ _ _ _ _ _ _ _ _ _ _ mJ hr (@Ya _ _ _ _ _ (pv 1) Yc (by rfl)) (by omega) (by rfl) (by rfl) (by decide) (by rfl) (by rfl)) (@Xa _ _ _ _ _ (@YV _ _ _ _ _ _ _ _ (X8 hr.units) (pv 0) (pv 1) (Yk _)))))) Yl) (@Yd _ _ _ _ _ (@Yq _ _ _ _ _ _ _ _ (@Y0 _ _ _ (@Yv _ _ _ _ _ _ _ _ _ _ _ _ Zf hr (@Ya _ _ _ _ _ (pv 0) Yc (by rfl)) (by omega) (by rfl) (by rfl) (by decide) (by rfl) (by rfl)) (by intro _;rfl)) (@Ye _ _ _ (@Yj _ _ _ _ (@Xf _ _ _ _ _ _ _ (@Yv _ _ _ _ _ _ _ _ _ _ _ _ Zf hr (@Ya _ _ _ _ _ (pv 1) Yc (by rfl)) (by omega) (by rfl) (by rfl) (by decide) (by rfl) (by rfl)) (@Xa _ _ _ _ _ (@YV _ _ _ _ _ _ _ _ (X8 hr.units) (pv 0) (pv 1) (Yk _)))))) Yl) (@Yd _ _ _ _ _ (@Yq _ _ _ _ _ _ _ _ (@Y0 _ _ _ (@Yv _ _ _ _ _ _ _ _ _ _ _ _ iZ hr (@Ya _ _ _ _ _ (pv 0) Yc (by rfl)) (by omega) (by rfl) (by rfl) (by decide) (by rfl) (by rfl)) (by intro _;rfl)) (@Ye _ _ _ (@Yj _ _ _ _ (@Xf _ _ _ _ _ _ _ (@Yv _ _ _ _ _ _ _ _ _ _ _ _ iZ hr (@Ya _ _ _ _ _ (pv 1) Yc (by rfl)) (by omega) (by rfl) (by rfl) (by decide) (by rfl) (by rfl)) (@Xa _ _ _ _ _ (@YV _ _ _ _ _ _ _ _ (X8 hr.units) (pv 0) (pv 1) (Yk _)))))) Yl) (@Yd _ _ _ _ _ (@Yq _ _ _ _ _ _ _ _ (@Y0 _ _ _ (@Yv _ _ _ _ _ _ _ _ _ _ _ _ jc hr (@Ya _ _ _ _ _ (pv 0) Yc (by rfl)) (by omega) (by rfl) (by rfl) (by decide) (by rfl) (by rfl)) (by intro _;rfl)) (@Ye _ _ _ (@Yj _ _ _ _ (@Xf _ _ _ _ _ _ _ (@Yv _ _ _ _ _ _ _ _ _ _ _ _ jc hr (@Ya _ _ _ _ _ (pv 1) Yc (by rfl)) (by omega) (by rfl) (by rfl) (by decide) (by rfl) (by rfl)) (@Xa _ _ _ _ _ (@Yv _ _ _ _ _ _ _ _ _ _ _ _ HN hr (@Ya _ _ _ _ _ (pv 0) (@Ya _ _ _ _ _ (pv 1) Yc (by rfl)) (by rfl)) (by omega) (by rfl) (by rfl) (by decide) (by rfl) (by rfl)))))) Yl) (@Yd _ _ _ _ _ (@Yq _ _ _ _ _ _ _ _ (@Y0 _ _ _ (@YQ _ _ _ _ _ _ _ _ _ _ Z5 YO (@Ya _ _ _ _ _ (pv 0) (@Ya _ _ _ _ _ (@Y4 _ _ _ _ ("tuple") Z6 (by decide +kernel) (by rfl) (by rfl) (by decide) (by decide)) Yc (by rfl)) (by rfl)) (by decide +kernel) (by rfl) (by rfl) (by decide) (by decide) (by rfl) (by rfl)) (by intro _;rfl)) (@Ye _ _ _ (@Yj _ _ _ _ (@Xf _ _ _ _ _ _ _ (@YQ _ _ _ _ _ _ _ _ _ _ Z5 YO (@Ya _ _ _ _ _ (pv 1) (@Ya _ _ _ _ _ (@Y4 _ _ _ _ ("tuple") Z6 (by decide +kernel) (by rfl) (by rfl) (by decide) (by decide)) Yc (by rfl)) (by rfl)) (by decide +kernel) (by rfl) (by rfl) (by decide) (by decide) (by rfl) (by rfl)) (@Xa _ _ _ _ _ (@Yv _ _ _ _ _ _ _ _ _ _ _ _ HN hr (@Ya _ _ _ _ _ (pv 0) (@Ya _ _ _ _ _ (pv 1) Yc (by rfl)) (by rfl)) (by omega) (by rfl) (by rfl) (by decide) (by rfl) (by rfl)))))) Yl) (@Ye _ _ _ (@Yj _ _ _ _ (@Xf _ _ _ _ _ _ _ (@YV _ _ _ _ _ _ _ _ VG (pv 0) Wo (Yk _)) (@Xa _ _ _ _ _ (@YV _ _ _ _ _ _ _ _ VG (pv 1) Wo (Yk _))))))))))),?_⟩;have HS:=hv.ty (K:=g.K);have HW:=hw.ty (K:=g.K);have q0:=q H (.refl _);have hno:∀ f:PyData->Bool,f d=true->f e=false->Q (.bl false) H:=fun f h1 h2=>by
  rw [Ygg f (by rw [h1,h2];decide)] at q0
  exact q0
 walk_at "rd"
 cases d with
 | bool b =>
  refine ⟨_,_,rfl,hv,_,rfl,YT rfl ⟨_,_,rfl,hw,_,rfl,?_⟩⟩
  cases e with
  | bool b'=>exact YT rfl ⟨_,hv.den,_,hw.den,by simp [PyData.depth],by rw [YeU];exact q0⟩
  | _=>exact Yu (by simp [dg]) (hno dg rfl rfl)
 | int i =>
  refine ⟨_,_,rfl,hv,_,rfl,Yu (by simp [dg]) ⟨_,_,rfl,hv,_,rfl,YT rfl ⟨_,_,rfl,hw,_,rfl,?_⟩⟩⟩
  cases e with
  | int j=>exact YT rfl ⟨_,hv.den,_,hw.den,by simp [PyData.depth],by rw [Ygh];exact q0⟩
  | _=>exact Yu (by simp [isI]) (hno isI rfl rfl)
 | str x =>
  refine ⟨_,_,rfl,hv,_,rfl,Yu (by simp [dg]) ⟨_,_,rfl,hv,_,rfl,Yu (by simp [isI]) ⟨_,_,rfl,hv,_,rfl,YT rfl ⟨_,_,rfl,hw,_,rfl,?_⟩⟩⟩⟩
  cases e with
  | str y=>exact YT rfl ⟨_,hv.den,_,hw.den,by simp [PyData.depth],by rw [Ygi];exact q0⟩
  | _=>exact Yu (by simp [iY]) (hno iY rfl rfl)
 | list ds =>
  obtain ⟨a,vs,rfl,ha,hl,hds⟩:=hv.gG;simp only [PyData.depth] at hm;refine ⟨_,_,rfl,hv,_,rfl,Yu (by simp [dg]) ⟨_,_,rfl,hv,_,rfl,Yu (by simp [isI]) ⟨_,_,rfl,hv,_,rfl,Yu (by simp [iY]) ⟨_,_,rfl,hv,_,rfl,YT rfl ⟨_,_,rfl,hw,_,rfl,?_⟩⟩⟩⟩⟩
  cases e with
  | list es =>
   obtain ⟨a',vs',rfl,ha',hl',hes⟩:=hw.gG;exact YT rfl ⟨_,_,ds,es,true,a,a',vs,vs',rfl,⟨rfl,by simpa using ha,hl,hds⟩,⟨rfl,by simpa using ha',hl',hes⟩,by omega,fun H' s'=>q H' s'⟩
  | _=>exact Yu (by simp [kE]) (hno kE rfl rfl)
 | tuple ds =>
  obtain ⟨a,vs,rfl,ha,hl,hds⟩:=hv.gH;simp only [PyData.depth] at hm;refine ⟨_,_,rfl,hv,_,rfl,Yu (by simp [dg]) ⟨_,_,rfl,hv,_,rfl,Yu (by simp [isI]) ⟨_,_,rfl,hv,_,rfl,Yu (by simp [iY]) ⟨_,_,rfl,hv,_,rfl,Yu (by simp [kE]) ⟨_,rfl,_,HS,true,rfl,YT rfl ?_⟩⟩⟩⟩⟩
  cases e with
  | tuple es =>
   obtain ⟨a',vs',rfl,ha',hl',hes⟩:=hw.gH;refine ⟨_,rfl,_,HW,true,rfl,U9 ⟨_,_,ds,es,false,a,a',vs,vs',rfl,⟨rfl,by simpa using ha,hl,hds⟩,⟨rfl,by simpa using ha',hl',hes⟩,by omega,fun H' s'=>?_⟩⟩;rw [show sm (.list ds) (.list es)=sm (.tuple ds) (.tuple es) from Hh (by rw [UV];constructor<;>(intro z;injection z with z;rw [z]))];exact q H' s'
  | _=>exact ⟨_,rfl,_,HW,false,rfl,qX (hno isT rfl rfl)⟩
 | none =>
  refine ⟨_,_,rfl,hv,_,rfl,Yu (by simp [dg]) ⟨_,_,rfl,hv,_,rfl,Yu (by simp [isI]) ⟨_,_,rfl,hv,_,rfl,Yu (by simp [iY]) ⟨_,_,rfl,hv,_,rfl,Yu (by simp [kE]) ⟨_,rfl,_,HS,false,rfl,Yu (by decide) ?_⟩⟩⟩⟩⟩;have:=zF hv;subst this;refine YT rfl ?_;by_cases c:e = .none
  ·subst c
   rw [zF hw];rw [WH] at q0;exact q0
  ·have n:=Ygj hw c
   have h:=hno (fun d=>match d with | .none=>true | _=>false) rfl (by cases e<;>first | rfl | exact absurd rfl c);rw [decide_eq_false n];exact h
 | dict xs=>obtain ⟨L,h⟩:=hv;cases h
structure Kq (P:Addr) (H H':Hp):Prop where
 kt:Kt H H'
 ob:∀ a o,a≠P->H a=some o->H' a=some o
theorem Kq.refl (P:Addr) (H:Hp):Kq P H H:=⟨.refl _,fun _ _ _ e=>e⟩
theorem Kq.trans {P:Addr} {H H1 H2:Hp} (a:Kq P H H1) (b:Kq P H1 H2):Kq P H H2:=⟨a.kt.trans b.kt,fun c o n e=>b.ob c o n (a.ob c o n e)⟩
theorem Xz {P:Addr} {H H':Hp} (s:Yf H H'):Kq P H H':=⟨YA s,fun _ _ _ e=>s _ _ e⟩
theorem Kq.lst {P:Addr} {H H':Hp} (h:Kq P H H') {a:Addr} {xs:List V} (e:H a=some (.lst xs)):H' a=some (.lst xs):=h.kt.lst e
theorem Kq.tup {P:Addr} {H H':Hp} (h:Kq P H H') {a:Addr} {xs:List V} (e:H a=some (.tup xs)):H' a=some (.tup xs):=h.kt.tup e
def t8:Tm->Bool
 | .num _=>true
 | .here=>true
 | .part t _=>t8 t
 | .count t=>t8 t
 | .not t=>t8 t
 | .turned t=>t8 t
 | .same a b=>t8 a&&t8 b
 | .each a b=>t8 a&&t8 b
 | .less a b=>t8 a&&t8 b
 | _=>false
def XT (k:Int) (d:PyData):Option PyData:=(Xv d).bind fun xs=>if 0<=k then xs[k.toNat]? else none
def YgW (fv vs:List V) (H:Hp) (Q:VK):Prop:=∃ (k:Int) (v:V) (d:PyData),fv=[.int k]/\vs=[v]/\DV H v d/\∀ H',Yf H H'->Q (.bl (XT k d).isSome) H'
theorem Z2u {k:Nat} {Z0 Z3 Z1 Z4 Z2:Addr} {f_ c_:Addr} {pm ctv:Value} {l:Yr} (Zh:g.Fn k "is_list_or_tuple" ["thing"] (dB W9)) (aN:g.mg "len"=none) (hl:l.map (·.1)=(["place"]:List Str)) (hnd:l.as.Nodup):aW g.P g.w g.K g.mg g.base bL (k+1) f_ (ZH l.cl c_ pm ctv) ["found"] (fun vs H Q _=>pK H f_ c_ (ZH l.cl c_ pm ctv) Zm l/\(YgW) l.vs vs (off H l.as) fun v H'=>(∀ c∈l.as,H' c=none)->Q v (on H' H l.as)):=by
 refine G9 (N:=["found","place"]) (by rw [hl];exact Z2t) hnd (fun vs H Q h=>by obtain ⟨k,v,d,hk,rfl,hd,q⟩:=h;rfl) fun A outer s H vs Q hr h=>?_
 obtain ⟨k,v,d,hk,rfl,hd,q⟩:=h;refine ⟨_,(@Xf _ _ _ _ _ _ _ (@Yv _ _ _ _ _ _ _ _ _ _ _ _ Zh hr (@Ya _ _ _ _ _ (pv 0) Yc (by rfl)) (by omega) (by rfl) (by rfl) (by decide) (by rfl) (by rfl)) (@Xa _ _ _ _ _ (@Ej _ _ _ _ _ _ _ _ _ _ _ _ VX UC Yi (pv 1) (@YQ _ _ _ _ _ _ _ _ _ _ aN YW (@Ya _ _ _ _ _ (pv 0) Yc (by rfl)) (by decide +kernel) (by rfl) (by rfl) (by decide) (by decide) (by rfl) (by rfl)) (by with_unfolding_all rfl)))),?_⟩;walk_at "rd";rw [hk];refine ⟨v,d,rfl,hd,fun H1 s1=>⟨_,rfl,?_⟩⟩;have hd1:=hd.keep s1;have q1:=q _ s1;have key:∀ (ds:List PyData) (n:Nat),n=ds.length->0<=k->decide (k<(n:Int))=(if 0<=k then ds[k.toNat]? else none).isSome:=fun ds n hn h0=>by
  rw [if_pos h0];by_cases c:k<(n:Int)
  ·have:k.toNat<ds.length:=by omega
   rw [decide_eq_true c,List.getElem?_eq_getElem this];rfl
  ·rw [decide_eq_false c,List.getElem?_eq_none (by omega)];rfl
 cases d with
 | list ds =>
  obtain ⟨a,vs,rfl,ha,hl,hds⟩:=hd1.gG;refine YT rfl ⟨k,rfl,tu (fun c=>⟨a,rfl,vs,.inl (aJ.of ha),k,rfl,?_⟩) fun c=>?_⟩
  ·rw [key ds vs.length hds.length c];exact q1
  ·have e:(XT k (.list ds)).isSome=false:=by show (if 0<=k then ds[k.toNat]? else none).isSome=false;rw [if_neg c];rfl
   rw [e] at q1;exact q1
 | tuple ds =>
  obtain ⟨a,vs,rfl,ha,hl,hds⟩:=hd1.gH;refine YT rfl ⟨k,rfl,tu (fun c=>⟨a,rfl,vs,.inr (aK.of ha),k,rfl,?_⟩) fun c=>?_⟩
  ·rw [key ds vs.length hds.length c];exact q1
  ·have e:(XT k (.tuple ds)).isSome=false:=by show (if 0<=k then ds[k.toNat]? else none).isSome=false;rw [if_neg c];rfl
   rw [e] at q1;exact q1
 | _=>exact Yu (by simp [W9,Xv]) q1
def Tb (P:Addr) (H:Hp):Prop:=H P=some (.aV #[])\/∃ c,H P=some (.aV #[rawInt 601,rawInt 41,.ref c])/\H c=some (cH c Zm)
theorem Tb.keep {P:Addr} {H H':Hp} (h:Tb P H) (s:Yf H H'):Tb P H':=by
 rcases h with h | ⟨c,h,h1⟩
 ·exact .inl (s _ _ h)
 ·exact .inr ⟨c,s _ _ h,s _ _ h1⟩
theorem Tb.upd {P a:Addr} {H:Hp} {o:HO} (h:Tb P H) (n:H a=none):Tb P (upd H a o):=h.keep (.aG n o)
theorem Tb.aV {P:Addr} {H:Hp} (h:Tb P H):∃ ps,H P=some (.aV ps):=by
 rcases h with h | ⟨c,h,_⟩
 ·exact ⟨_,h⟩
 ·exact ⟨_,h⟩
def Out (C P:Addr) (H:Hp) (Q:VK) (E:XK):cU->Prop
 | .ok e=>∀ r H',Kq P H H'->Tb P H'->DV H' r e->Q r H'
 | .error mk=>∀ H' d,Kq P H H'->Tb P H'->H' d=none->E (.ref C) (some d) (upd H' d (Wy d [("mark",.str mk)]))
theorem Out.keep {C P:Addr} {H H':Hp} {Q:VK} {E:XK} (s:Kq P H H') {res:cU} (h:Out C P H Q E res):Out C P H' Q E res:=by
 cases res with
 | ok r=>exact fun r H2 s2=>h r H2 (s.trans s2)
 | error mk=>exact fun H2 d s2=>h H2 d (s.trans s2)
structure Ask (P:Addr) (H:Hp) (m:Nat) (t:Tm) (v:V) (d:PyData) (th:V):Prop where
 at':YB H t v
 ok:t.ok
 dep:t.dep<m
 dv:DV H th d
 pk:∃ k,Pk k d/\k+t.dep<=7
 dd:d.depth<=3
 tb:Tb P H
 al:t8 t=true
theorem Ask.keep {P:Addr} {H H':Hp} {m:Nat} {t:Tm} {v th:V} {d:PyData} (h:Ask P H m t v d th) (s:Kq P H H') (b:Tb P H'):Ask P H' m t v d th:=⟨h.at'.keep s.kt,h.ok,h.dep,h.dv.kt s.kt,h.pk,h.dd,b,h.al⟩
inductive d9 (P C:Addr) (m:Nat) (vs:List V) (H:Hp) (Q:VK) (E:XK):Prop
 | mk (v:_) (th:_) (t:_) (d:_) (h0:vs=[v,th]) (h1:Ask P H m t v d th) (h2:Out C P H Q E (tell t d))
theorem HX {P C:Addr} {vs:List V} {H:Hp} {Q:VK} {E:XK} (h:d9 P C 0 vs H Q E):False:=by
 obtain ⟨_,_,_,_,_,h,_⟩:=h;exact absurd h.dep (by omega)
def Q7 (g:Gx) (P:Addr) (H:Hp) (f:Addr) (e:PyData) (b:Bool):Prop:=∀ (H1:Hp) (r:V) (Q':VK),Kq P H H1->Tb P H1->DV H1 r e->(∀ H',Yf H1 H'->Q' (.bl b) H') ->
 (∃ ps sp,g.pD 2 f ps sp/\sp [r] H1 Q' E0)\/∃ fd ps sp,aW g.P g.w g.K g.mg g.base bL 4 f fd ps sp/\(∀ us:List Value,us.length=ps.length->bindArgs fd ⟨us,[]⟩=pure (ps.zip us))/\H1 f=some (bG f fd)/\sp [r] H1 Q' E0
def tk (mk:Str) (s:cU) (f:PyData->Bool):cU:=match s with
 | .error m => .error m
 | .ok d=>if f d then .ok d else .error mk
inductive mK (g:Gx) (P C:Addr) (m:Nat) (vs:List V) (H:Hp) (Q:VK) (E:XK):Prop
 | mk (mk:Str) (v th:V) (f:Addr) (t:Tm) (d:PyData) (fp:PyData->Bool) (h0:vs=[.str mk,v,th,.ref f]) (h1:Ask P H m t v d th) (h2:(∀ e,tell t d = .ok e->Q7 g P H f e (fp e))) (h3:Out C P H Q E (tk mk (tell t d) fp))
theorem uE {k:Nat} {Z0 Z3 Z1 Z4 Z2:Addr} {ao aj:Addr} {au aq:Addr} {aB aA:Addr} {aF aD:Addr} (R:g.Raw "taken" "taken" Qr ["mark","term","thing","can_take"]) (eE:g.bD k "told" ["term","thing"] (d9 aj Z3 m)) (hkv:2<=k) (hkc:4<=k) (Z2h:g.uq "Astray" Z3 ["self","mark"] ["mark"]) (hki:2<=k):g.bD (k+1) "taken" ["mark","term","thing","can_take"] (mK g aj Z3 m):=by
 refine R.fnX Hy (fun vs H Q E h=>by obtain ⟨mk,v,th,f,t,d,fp,rfl,hA,hT,hq⟩:=h;rfl) fun f_ cdv A outer s H vs Q E hr h=>?_
 obtain ⟨mk,v,th,f,t,d,fp,rfl,hA,hT,hq⟩:=h;refine ⟨_,(@Yd _ _ _ _ _ (@YD _ _ (4) _ _ _ _ Hy.nd rfl (.inl rfl) (@Xg _ _ _ _ _ _ _ _ _ _ _ _ _ eE hr Xr (@Ya _ _ _ _ _ (pv 1) (@Ya _ _ _ _ _ (pv 2) Yc (by rfl)) (by rfl)) (by omega) (by rfl) (by rfl) (by decide) (by rfl) (by rfl)) (by rfl) (by first | exact .inl rfl | exact .inr rfl | assumption)) (@Yd _ _ _ _ _ (@Yq _ _ _ _ _ _ _ _ (@XG _ _ _ _ (@Y0 _ _ _ (@QK _ _ _ _ (@R4 _ (g) _ (2) _ _ _ _ _ _ 3 hr (@Ya _ _ _ _ _ (pv 4) Yc (by rfl)) (by omega) (by rfl) (by rfl) (by first | exact .inl rfl | exact .inr (.inl rfl) | exact .inr (.inr rfl)) (by decide) (by decide) (by rfl) (by rfl)) (@Vt _ (g) _ (4) _ _ _ _ _ _ 3 hr (@Ya _ _ _ _ _ (pv 4) Yc (by rfl)) (by omega) (by rfl) (by rfl) (by first | exact .inl rfl | exact .inr (.inl rfl) | exact .inr (.inr rfl)) (by decide) (by decide) (by rfl) (by rfl))) (by intro _;rfl))) (@Ye _ _ _ (@T8 _ _ _ _ _ _ _ _ _ _ _ _ _ _ Z2h hr TV (@Ya _ _ _ _ _ (pv 0) Yc (by rfl)) (by omega) (by rfl) (by rfl) (by rfl) (by decide) (by rfl) (by rfl))) Yl) (@Ye _ _ _ (PS.bA (@Yj _ _ _ _ (pv 4)))))),?_⟩;walk_at "rd";refine ⟨v,th,t,d,rfl,hA,?_⟩
 cases e:tell t d with
 | error mk'=>rw [e] at hq;exact hq
 | ok r =>
  rw [e] at hq hT
  intro v' H1 k1 b1 hv;have fin:∀ H',Yf H1 H'->(fun (x_1:V) (H':Hp)=>∃ c_1,x_1=V.bl c_1/\if c_1=false then
       Qo Z3 [Str.ofString "mark"] E (Vo (Wd 0) U5)
        { nx:=oW (Wd 4) { nx:=fun x H'=>Q V.non H',rt:=Q },rt:=Q }
        [some (V.str mk),some v,some th,some (V.ref f),some v'] H'
      else Q v' H') (V.bl (fp r)) H':=fun H' s'=>by
   refine ⟨_,rfl,?_⟩;simp only [tk] at hq
   cases c:fp r with
   | true =>
    rw [c,if_pos rfl] at hq
    exact Yu (by decide) (hq v' H' (k1.trans (Xz s')) (b1.keep s') (hv.keep s'))
   | false =>
    rw [c,if_neg (by decide)] at hq
    exact YT rfl ⟨rfl,by show (1:Nat)<=1000;omega,fun dd hd=>hq H' dd (k1.trans (Xz s')) (b1.keep s') hd⟩
  rcases hT r rfl H1 v' (fun (x_1:V) (H':Hp)=>∃ c_1,x_1=V.bl c_1/\if c_1=false then
       Qo Z3 [Str.ofString "mark"] E (Vo (Wd 0) U5)
        { nx:=oW (Wd 4) { nx:=fun x H'=>Q V.non H',rt:=Q },rt:=Q }
        [some (V.str mk),some v,some th,some (V.ref f),some v'] H'
      else Q v' H') k1 b1 hv fin with ⟨ps,sp,hF,hs⟩ | ⟨fd,ps,sp,hF,hb,ho,hs⟩
  ·refine .inl ⟨f,ps,sp,rfl,hF,?_⟩
   walk_at "rd";exact hs
  ·refine .inr ⟨f,fd,ps,sp,rfl,hF,hb,ho,?_⟩
   walk_at "rd";exact ⟨ho,hs⟩
theorem Wu {H Hz:Hp} {l:Yr} (h:WE H Hz l):Yf H Hz:=fun a o e=>by
 rw [h.2 a fun hm=>?_]
 ·exact e
 ·obtain ⟨p,hp,rfl⟩:=YX hm
  obtain ⟨_,_,n⟩:=h.1 p hp;rw [n] at e
  cases e
theorem V7 {l:Yr} {H:Hp} (hz:l.Z H) {a:Addr} {o:HO} (e:H a=some o) (n:∀ x u,o ≠ .bC x u):a∉l.as:=fun hm=>by
 obtain ⟨p,hp,rfl⟩:=YX hm;obtain ⟨x,z⟩:=hz p hp;rw [z] at e
 exact n _ _ (Option.some.inj e).symm
theorem zG {l:Yr} {H:Hp} (hz:l.Z H) {v:V} {d:PyData} (h:DV H v d):DV (off H l.as) v d:=by
 obtain ⟨L,h⟩:=h;exact ⟨L,h.dz (fun a vs e=>by rw [YE (V7 hz e fun _ _ z=>by cases z)];exact e) fun a _ vs e=>by rw [YE (V7 hz e fun _ _ z=>by cases z)];exact e⟩
theorem Uy {P:Addr} {l:Yr} {H H':Hp} (h:l.Z H) (s:Kq P H H'):l.Z H':=fun p hp=>by
 obtain ⟨o,z⟩:=h p hp;exact ⟨o,s.kt _ _ (fun ps q=>by cases q) z⟩
theorem VR {P:Addr} {l:Yr} {H1 Hz H':Hp} (h:WE H1 Hz l) (s:Kq P Hz H'):Kq P H1 (off H' l.as):=by
 have nm:∀ {a:Addr} {o:HO},H1 a=some o->a∉l.as:=fun {a o} e hm=>by
  obtain ⟨p,hp,rfl⟩:=YX hm;obtain ⟨_,_,n⟩:=h.1 p hp;rw [n] at e
  cases e
 refine ⟨fun a o n e=>?_,fun a o n e=>?_⟩
 ·rw [YE (nm e)];exact s.kt a o n (Wu h _ _ e)
 ·rw [YE (nm e)];exact s.ob a o n (Wu h _ _ e)
theorem Vl {P:Addr} {l:Yr} {H:Hp} (hz:l.Z H) (h:Tb P H):Tb P (off H l.as):=by
 rcases h with h | ⟨c,h,h1⟩
 ·exact .inl (by rw [YE (V7 hz h fun _ _ z=>by cases z)];exact h)
 ·exact .inr ⟨c,by rw [YE (V7 hz h fun _ _ z=>by cases z)];exact h,by rw [YE (V7 hz h1 fun _ _ z=>by cases z)];exact h1⟩
theorem Ygk {l:Yr} {H:Hp} (hz:l.Z H) {d:Addr} {o:HO} (n:H d=none):off (upd H d o) l.as=upd (off H l.as) d o:=by
 have nd:d∉l.as:=fun hm=>by
  obtain ⟨p,hp,rfl⟩:=YX hm;obtain ⟨x,z⟩:=hz p hp;rw [n] at z;cases z
 funext b
 by_cases hb:b=d
 ·subst hb;rw [YE nd,Yb,Yb]
 ·rw [Yg hb]
  by_cases hm:b∈l.as
  ·rw [Ws hm,Ws hm]
  ·rw [YE hm,YE hm,Yg hb]
theorem HY {l:Yr} {H H':Hp} (s:Yf (off H l.as) H'):Yf H (on H' H l.as):=fun a o e=>by
 by_cases hm:a∈l.as
 ·rw [V2 hm];exact e
 ·rw [Y5 hm];exact s _ _ (by rw [YE hm];exact e)
theorem Wv {C P:Addr} {H:Hp} {Q Q':VK} {E:XK} {mk:Str} {s:cU} {fp:PyData->Bool} {res:cU} (ho:Out C P H Q E res) (he:∀ m,s = .error m->res = .error m) (hn:∀ x,s = .ok x->fp x=false->res = .error mk)
  (hy:∀ x,s = .ok x->fp x=true->∀ r H',Kq P H H'->Tb P H'->DV H' r x->Q' r H'):Out C P H Q' E (tk mk s fp):=by
 cases s with
 | error m=>rw [he m rfl] at ho;exact ho
 | ok x =>
  simp only [tk]
  cases c:fp x with
  | true=>rw [if_pos rfl];exact hy x rfl c
  | false=>rw [if_neg (by decide)];rw [hn x rfl c] at ho;exact ho
theorem WV {P:Addr} {H:Hp} {f:Addr} {ps:List Str} {p:PyData->Bool} {e:PyData} (hf:g.pD 2 f ps (bQ p)):Q7 g P H f e (p e):=fun H1 r Q' _ _ hv h => .inl ⟨ps,_,hf,r,e,rfl,hv,h _ (.refl _)⟩
theorem Wj {P:Addr} {H:Hp} {f:Addr} {ps:List Str} {p:PyData->Bool} {e:PyData} (hf:g.pD 2 f ps (dB p)):Q7 g P H f e (p e):=fun H1 r Q' _ _ hv h => .inl ⟨ps,_,hf,r,e,rfl,hv,h⟩
theorem YdT {P:Addr} {Hz:Hp} {f c:Addr} {x:Addr} {k:Int} {e:PyData} {pm ctv:Value} (F:g.Fn 3 "is_list_or_tuple" ["thing"] (dB W9)) (b:g.mg "len"=none) (hf:Hz f=some (bG f (ZH [("place",x)] c pm ctv))) (hc:Hz c=some (cH c Zm)) (hz:Yr.Z [("place",x,.int k)] Hz):Q7 g P Hz f e (XT k e).isSome:=fun H1 r Q' k1 b1 hv h=>by
 have z1:=Uy hz k1;refine .inr ⟨_,_,_,Z2u (Z0:=0) (Z3:=0) (Z1:=0) (Z4:=0) (Z2:=0) (f_:=f) (c_:=c) (pm:=pm) (ctv:=ctv) (l:=[("place",x,.int k)]) F b rfl (by simp [Yr.as]),(fun us hl=>?_),k1.kt f _ (fun ps z=>by cases z) hf,⟨k1.kt f _ (fun ps z=>by cases z) hf,k1.kt c _ (fun ps z=>by cases z) hc,z1⟩,k,r,e,rfl,rfl,zG z1 hv,fun H' s' _=>h _ (HY s')⟩
 match us,hl with
 | [u],_=>rfl
inductive mL (g:Gx) (P C:Addr) (m:Nat) (vs:List V) (H:Hp) (Q:VK) (E:XK):Prop
 | mk (p:Addr) (v th:V) (k:Int) (t:Tm) (d:PyData) (h0:vs=[.ref p,th]) (h1:H p=some (.tup [v,.int k])) (h2:Ask P H m t v d th) (h3:Out C P H Q E (take "part" (tell t d) (XT k)))
theorem Ygl {P f c:Addr} {H:Hp} {ps ps':Array Value} {fd:FuncData} {q:Str} (hP:H P=some (.aV ps)) (hf:H f=none) (hc:H c=none) (hfc:f≠c):Kq P H (upd (upd (upd H P (.aV ps')) c (cH c q)) f (bG f fd)):=by
 have kk:∀ a o,a≠P->H a=some o->upd (upd (upd H P (.aV ps')) c (cH c q)) f (bG f fd) a=some o:=fun a o n e=>by
  rw [Yg (Ym e hf),Yg (Ym e hc),Yg n];exact e
 exact ⟨fun a o n e=>kk a o (Xy e hP (n _)) e,kk⟩
theorem Ia {H:Hp} {xs:List PyData} {vs:List V} {k:Int} {y:PyData} (hv:bB H vs xs) (h:(if 0<=k then xs[k.toNat]? else none)=some y):∃ n:Nat,k=n/\∃ u,vs[n]?=some u/\DV H u y:=by
 split at h
 ·next c =>
  refine ⟨k.toNat,by omega,?_⟩;have hl:=hv.length;have hlt:=(List.getElem?_eq_some_iff.mp h).1;have hu:vs[k.toNat]?=some (vs[k.toNat]'(by omega)):=List.getElem?_eq_getElem _;obtain ⟨d,e1,e2⟩:=hv.at hu;rw [h] at e1
  cases e1
  exact ⟨_,hu,e2⟩
 ·cases h
theorem uF {k:Nat} {Z0 Z3 Z1 Z4 Z2:Addr} {ao aj:Addr} {au aq:Addr} {aB aA:Addr} {aF aD:Addr} (R:g.dH "part_told" "part_told" pO ["body","thing"] ao) (bm:Bm g.mg g.base) (fG:W.CodeHd g.base ao aj) (Zh:g.Fn 3 "is_list_or_tuple" ["thing"] (dB W9)) (Zq:g.bD k "taken" ["mark","term","thing","can_take"] (mK g aj Z3 m)) (aN:g.mg "len"=none):g.bD (k+1) "part_told" ["body","thing"] (mL g aj Z3 m):=by
 refine R.fnX HD (fun vs H Q E h=>by obtain ⟨p,v,th,k,t,d,rfl,hp,hA,q⟩:=h;rfl) fun f_ A outer s H vs Q E hr h=>?_
 obtain ⟨p,v,th,k,t,d,rfl,hp,hA,q⟩:=h;refine ⟨_,(@Yd _ _ _ _ _ (PS.bA (@YD _ _ (2) _ _ _ _ HD.nd rfl (.inr rfl) (@Yy _ _ _ _ _ _ _ YM (pv 0) Yi (fun _ _=>rfl)) (by rfl) (by first | exact .inl rfl | exact .inr rfl | assumption))) (@Ye _ _ _ (@Yj _ _ _ _ (@QK _ _ _ _ (@Yy _ _ _ _ _ _ _ Y8 (@Uv _ _ _ _ _ _ _ _ _ _ _ _ _ _ _ _ _ _ _ _ _ Zq hr (@Ya _ _ _ _ _ Yp (@Ya _ _ _ _ _ (@Yy _ _ _ _ _ _ _ YM (pv 0) Yi (fun _ _=>rfl)) (@Ya _ _ _ _ _ (pv 1) (@Ya _ _ _ _ _ (@UR _ _ _ _ _ _ _ _ _ bm fG rfl rfl (Eq.trans rfl WU) rfl) Yc (by rfl)) (by rfl)) (by rfl)) (by rfl)) (by omega) (by rfl) (by decide) (by rfl) (by rfl)) (pv 2) (fun _ _=>rfl)) (@Yy _ _ _ _ _ _ _ YM (@Uv _ _ _ _ _ _ _ _ _ _ _ _ _ _ _ _ _ _ _ _ _ Zq hr (@Ya _ _ _ _ _ Yp (@Ya _ _ _ _ _ (@Yy _ _ _ _ _ _ _ YM (pv 0) Yi (fun _ _=>rfl)) (@Ya _ _ _ _ _ (pv 1) (@Ya _ _ _ _ _ (@UR _ _ _ _ _ _ _ _ _ bm fG rfl rfl (Eq.trans rfl WU) rfl) Yc (by rfl)) (by rfl)) (by rfl)) (by rfl)) (by omega) (by rfl) (by decide) (by rfl) (by rfl)) (pv 2) (fun _ _=>rfl)))))),?_⟩;walk_at "rd";refine ⟨_,aK.of hp,_,rfl,?_⟩;generalize hT:V4 _ _ _ _=T;have core:∀ Q2:VK,(∀ x,tell t d = .ok x->(XT k x).isSome=true->∀ r H',Kq aj H H'->Tb aj H'->DV H' r x->Q2 r H')->T [some (.ref p),some th,some (.int k)] H Q2:=by
  intro Q2 h2;rw [<- hT];unfold V4;walk_at "rd";refine ⟨_,aK.of hp,_,rfl,?_⟩;have fin:∀ (f c:Addr) (pm ctv:Value) (H1:Hp),Kq aj H H1->Tb aj H1->H1 f=some (bG f (ZH [("place",s.heap.objs.size+1)] c pm ctv))->H1 c=some (cH c Zm)->∃ l,
   Xu (g.bZ [Str.ofString "body",Str.ofString "thing",Str.ofString "place"] (Str.ofString "part_told") pO f_ (Value.ref ao) A outer s H E) [some (V.ref p),some th,some (V.int k)] l /\
    ((∀ (c:Addr),c∈l.as->H1 c=none)->∀ (Hz:Hp),WE H1 Hz l->mK g aj Z3 m [V.str (Str.ofString "part"),v,th,.ref f] Hz (fun v H'=>Q2 v (off H' l.as)) fun c d H'=>E c d (off H' l.as)):=by
   intro f c pm ctv H1 k1 b1 hf hc;refine ⟨[("place",s.heap.objs.size+1,.int k)],⟨by simp [Yr.as],fun z hz=>?_⟩,fun _ Hz hL=>?_⟩
   ·cases List.mem_singleton.mp hz
    exact ⟨2,rfl,rfl,rfl,rfl⟩
   ·have sz:=Wu hL
    have zz:=hL.z;refine ⟨"part",v,th,f,t,d,fun x=>(XT k x).isSome,rfl,hA.keep (k1.trans (Xz sz)) (b1.keep sz),fun e _=>YdT Zh aN (sz _ _ hf) (sz _ _ hc) zz,?_⟩;have q':Out Z3 aj Hz (fun v H'=>Q v (off H' (Yr.as [("place",s.heap.objs.size+1,.int k)]))) (fun c d H'=>E c d (off H' (Yr.as [("place",s.heap.objs.size+1,.int k)]))) (take "part" (tell t d) (XT k)):=by
     generalize take "part" (tell t d) (XT k)=res at q
     cases res with
     | ok r=>exact fun r H' k2 b2 hv=>q r _ (k1.trans (VR hL k2)) (Vl (Uy zz k2) b2) (zG (Uy zz k2) hv)
     | error mk =>
      intro H' dd k2 b2 hd
      show E _ _ _
      rw [Ygk (Uy zz k2) hd];exact q _ dd (k1.trans (VR hL k2)) (Vl (Uy zz k2) b2) (Xp hd)
    refine Wv q' (fun m e=>by rw [e];rfl) (fun x e c=>?_) fun x e c r H' k2 b2 hv=>h2 x e c r _ (k1.trans (VR hL k2)) (Vl (Uy zz k2) b2) (zG (Uy zz k2) hv)
    have c':XT k x=none:=by simpa using c
    rw [e];simp only [take,c']
  rcases hA.tb with ht | ⟨c,ht,hc⟩
  ·refine ⟨_,ht,trivial,.inl ⟨rfl,fun f c fd g1 g2 g3 ⟨pm,ctv,e⟩=>?_⟩⟩
   subst e;have n1:=Ym ht g1;have n2:=Ym ht g2;exact fin f c pm ctv _ (Ygl ht g1 g2 g3) (.inr ⟨c,by rw [Yg n1,Yg n2,Yb];rfl,by rw [Yg (Ne.symm g3),Yb]⟩) Yb (by rw [Yg (Ne.symm g3),Yb])
  ·refine ⟨_,ht,trivial,.inr ⟨c,rfl,fun f fd g1 ⟨pm,ctv,e⟩=>?_⟩⟩
   subst e;exact fin f c pm ctv _ (Xz (.aG g1 _)) (hA.tb.upd g1) Yb (by rw [Yg (Ym hc g1)];exact hc)
 have rB:(∃ ds,tell t d = .ok (.tuple ds))\/¬ ∃ ds,tell t d = .ok (.tuple ds):=Classical.em _;rcases rB with ⟨ds,hds⟩ | rB
 ·refine .inr (core _ fun x hx hs r H' k1 b1 hv=>?_)
  walk_at "rd";rw [hds] at hx q
  cases hx
  obtain ⟨a,vs,rfl,ha,hl,hvs⟩:=hv.gH;obtain ⟨y,hy⟩:=Option.isSome_iff_exists.mp hs;have hy':=hy;obtain ⟨n,rfl,u,hu,hv'⟩:=Ia (xs:=ds) (vs:=vs) hvs hy';refine ⟨a,rfl,vs,aK.of ha,u,Ys hu,?_⟩;simp only [take,hy] at q;exact q _ _ k1 b1 hv'
 ·refine .inl (core _ fun x hx hs r H' k1 b1 hv=>?_)
  walk_at "rd";obtain ⟨y,hy⟩:=Option.isSome_iff_exists.mp hs
  cases x with
  | list ds =>
   obtain ⟨a,vs,rfl,ha,hl,hvs⟩:=hv.gG;have hy':=hy;obtain ⟨n,rfl,u,hu,hv'⟩:=Ia (xs:=ds) (vs:=vs) hvs hy';refine ⟨a,rfl,vs,aJ.of ha,u,Ys hu,?_⟩;rw [hx] at q
   simp only [take,hy] at q;exact q _ _ k1 b1 hv'
  | tuple ds=>exact absurd ⟨ds,hx⟩ rB
  | _=>cases hy
theorem Ib {x:PyData} (h:isI x=true):∃ i,x = .int i:=by cases x<;>first | exact ⟨_,rfl⟩ | cases h
theorem Uz {x:PyData} (h:dg x=true):∃ i,x = .bool i:=by cases x<;>first | exact ⟨_,rfl⟩ | cases h
theorem Ie {x:PyData} (h:isI x=false):XW x=none:=by cases x<;>first | rfl | cases h
theorem VS {x:PyData} (h:dg x=false):Wa x=none:=by cases x<;>first | rfl | cases h
theorem Wk {α:Type} {mk:Str} {x:PyData} {f:PyData->Option α} (h:f x=none):take mk (.ok x) f = .error mk:=by simp only [take,h]
theorem XZ {α:Type} {mk:Str} {x:PyData} {f:PyData->Option α} {a:α} (h:f x=some a):take mk (.ok x) f = .ok a:=by simp only [take,h]
theorem YdU {x:Str} (h:PyData.strOk x=true):PyData.strOk (Vv x)=true:=by
 have h:x.cps.all _=true:=h
 show (x.cps.toList.reverse.toArray).all _=true
 rw [Array.all_eq_true'] at h ⊢
 intro c hc;exact h c (by simpa using hc)
def Ig (mk:Str) (f:Int->Int->PyData) (a b:cU):cU:=match take mk a XW with
 | .error m => .error m
 | .ok i=>(take mk b XW).map (f i)
def Nf (mk:Str) (f:Int->Int->PyData):Prop:=mk="less"/\f=fun i j => .bool (decide (i<j))
inductive mO (g:Gx) (P C:Addr) (m:Nat) (vs:List V) (H:Hp) (Q:VK) (E:XK):Prop
 | mk (mk:Str) (f:Int->Int->PyData) (p:Addr) (v1 v2 th:V) (a b:Tm) (d:PyData) (h0:vs=[.str mk,.ref p,th]) (h1:H p=some (.tup [v1,v2])) (h2:Nf mk f) (h3:Ask P H m a v1 d th) (h4:Ask P H m b v2 d th) (h5:Out C P H Q E (Ig mk f (tell a d) (tell b d)))
theorem ZR {k:Nat} {Z0 Z3 Z1 Z4 Z2:Addr} {ao aj:Addr} {au aq:Addr} {aB aA:Addr} {aF aD:Addr} (R:g.Raw "numbers_told" "numbers_told" yV ["mark","body","thing"]) (Zf:g.Fn 2 "is_whole_number" ["thing"] (bQ isI)) (Zq:g.bD k "taken" ["mark","term","thing","can_take"] (mK g aj Z3 m)) (hkv:2<=k):g.bD (k+1) "numbers_told" ["mark","body","thing"] (mO g aj Z3 m):=by
 refine R.fnX yW (fun vs H Q E h=>by obtain ⟨mk,f,p,v1,v2,th,a,b,d,rfl,hp,hf,hA,hB,q⟩:=h;rfl) fun f_ cdv A outer s H vs Q E hr h=>?_
 obtain ⟨mk,f,p,v1,v2,th,a,b,d,rfl,hp,hf,hA,hB,q⟩:=h;refine ⟨_,(@Yd _ _ _ _ _ (@YD _ _ (3) _ _ _ _ yW.nd rfl (.inl rfl) (@Xg _ _ _ _ _ _ _ _ _ _ _ _ _ Zq hr Xr (@Ya _ _ _ _ _ (pv 0) (@Ya _ _ _ _ _ (@Yy _ _ _ _ _ _ _ YM (pv 1) Yi (fun _ _=>rfl)) (@Ya _ _ _ _ _ (pv 2) (@Ya _ _ _ _ _ (@XI _ _ _ _ _ _ _ Zf (by rfl) (by rfl) (by decide)) Yc (by rfl)) (by rfl)) (by rfl)) (by rfl)) (by omega) (by rfl) (by rfl) (by decide) (by rfl) (by rfl)) (by rfl) (by first | exact .inl rfl | exact .inr rfl | assumption)) (@Yd _ _ _ _ _ (@YD _ _ (4) _ _ _ _ yW.nd rfl (.inl rfl) (@Xg _ _ _ _ _ _ _ _ _ _ _ _ _ Zq hr Xr (@Ya _ _ _ _ _ (pv 0) (@Ya _ _ _ _ _ (@Yy _ _ _ _ _ _ _ YM (pv 1) Yi (fun _ _=>rfl)) (@Ya _ _ _ _ _ (pv 2) (@Ya _ _ _ _ _ (@XI _ _ _ _ _ _ _ Zf (by rfl) (by rfl) (by decide)) Yc (by rfl)) (by rfl)) (by rfl)) (by rfl)) (by omega) (by rfl) (by rfl) (by decide) (by rfl) (by rfl)) (by rfl) (by first | exact .inl rfl | exact .inr rfl | assumption)) (@Yd _ _ _ _ _ (PS.bA (@Yq _ _ _ _ _ _ _ _ (@Yo _ _ _ _ _ _ _ _ Yz (pv 0) Yp (Yk _)) (@Ye _ _ _ YU) Yl)) (@Yd _ _ _ _ _ (PS.bA (@Yq _ _ _ _ _ _ _ _ (@Yo _ _ _ _ _ _ _ _ Yz (pv 0) Yp (Yk _)) (@Ye _ _ _ YU) Yl)) (@Ye _ _ _ (PS.bA (@Yj _ _ _ _ (@YV _ _ _ _ _ _ _ _ UC (pv 3) (pv 4) (Yk _))))))))),?_⟩;walk_at "rd";refine ⟨_,aK.of hp,_,rfl,fun f1 hf1=>⟨mk,v1,th,f1,a,d,isI,rfl,hA,fun e _=>WV hf1,Wv q (fun m e=>by rw [e];rfl) (fun x e c=>by rw [e];simp only [Ig,take,Ie c]) fun x ex c r H1 k1 b1 hv=>?_⟩⟩;obtain ⟨i,rfl⟩:=Ib c
 cases hv.xX
 refine ⟨_,aK.of (k1.tup hp),_,rfl,fun f2 hf2=>⟨mk,v2,th,f2,b,d,isI,rfl,hB.keep k1 b1,fun e _=>WV hf2,Wv (q.keep k1) (fun m e=>by rw [ex,e];rfl) (fun x e c=>by rw [ex,e];show (take mk (.ok x) XW).map (f i)=_;rw [Wk (Ie c)];rfl) fun x ey c r H2 k2 b2 hv2=>?_⟩⟩;obtain ⟨j,rfl⟩:=Ib c
 cases hv2.xX
 have q2:=q.keep (k1.trans k2);rw [ex,ey] at q2
 obtain ⟨rfl,rfl⟩:=hf
 trace_state
 exact Yu (by decide) (Yu (by decide) ⟨_,rfl,_,rfl,q2 _ _ (.refl _ _) b2 ⟨[],.bl _⟩⟩)
noncomputable def vG (a b:cU):cU:=match a with
  | .error m => .error m
  | .ok x=>b.map fun y => .bool (sm x y)
inductive kO (P C:Addr) (m:Nat) (vs:List V) (H:Hp) (Q:VK) (E:XK):Prop
 | mk (p:Addr) (v1 v2 th:V) (a b:Tm) (d:PyData) (h0:vs=[.ref p,th]) (h1:H p=some (.tup [v1,v2])) (h2:Ask P H m a v1 d th) (h3:Ask P H m b v2 d th) (h4:Out C P H Q E (vG (tell a d) (tell b d)))
theorem Ih {C P:Addr} {H:Hp} {Q Q':VK} {E:XK} {s res:cU} (ho:Out C P H Q E res) (he:∀ m,s = .error m->res = .error m) (hy:∀ x,s = .ok x->∀ r H',Kq P H H'->Tb P H'->DV H' r x->Q' r H'):Out C P H Q' E s:=by
 cases s with
 | error m=>rw [he m rfl] at ho;exact ho
 | ok x=>exact hy x rfl
theorem Ask.depth {P:Addr} {H:Hp} {m:Nat} {t:Tm} {v th:V} {d e:PyData} (h:Ask P H m t v d th) (ht:tell t d = .ok e):e.depth<=3:=by
 obtain ⟨k,hk,hl⟩:=h.pk;have:=(Y3 h.ok hk ht).2;have:=h.dd;omega
theorem uG {k:Nat} {Z0 Z3 Z1 Z4 Z2:Addr} {ao aj:Addr} {au aq:Addr} {aB aA:Addr} {aF aD:Addr} (R:g.Raw "same_told" "same_told" yX ["body","thing"]) (kJ:g.Fn k "same" ["one","other"] (fQ g.K 8)) (eE:g.bD k "told" ["term","thing"] (d9 aj Z3 m)):g.bD (k+1) "same_told" ["body","thing"] (kO aj Z3 m):=by
 refine R.fnX YaJ (fun vs H Q E h=>by obtain ⟨p,v1,v2,th,a,b,d,rfl,hp,hA,hB,q⟩:=h;rfl) fun f_ cdv A outer s H vs Q E hr h=>?_
 obtain ⟨p,v1,v2,th,a,b,d,rfl,hp,hA,hB,q⟩:=h;refine ⟨_,(@Ye _ _ _ (@Yj _ _ _ _ (@Yv _ _ _ _ _ _ _ _ _ _ _ _ kJ hr (@Ya _ _ _ _ _ (@Xg _ _ _ _ _ _ _ _ _ _ _ _ _ eE hr Xr (@Ya _ _ _ _ _ (@Yy _ _ _ _ _ _ _ YM (pv 0) Yi (fun _ _=>rfl)) (@Ya _ _ _ _ _ (pv 1) Yc (by rfl)) (by rfl)) (by omega) (by rfl) (by rfl) (by decide) (by rfl) (by rfl)) (@Ya _ _ _ _ _ (@Xg _ _ _ _ _ _ _ _ _ _ _ _ _ eE hr Xr (@Ya _ _ _ _ _ (@Yy _ _ _ _ _ _ _ YM (pv 0) Yi (fun _ _=>rfl)) (@Ya _ _ _ _ _ (pv 1) Yc (by rfl)) (by rfl)) (by omega) (by rfl) (by rfl) (by decide) (by rfl) (by rfl)) Yc (by rfl)) (by rfl)) (by omega) (by rfl) (by rfl) (by decide) (by rfl) (by rfl)))),?_⟩;walk_at "rd";refine ⟨_,aK.of hp,_,rfl,v1,th,a,d,rfl,hA,Ih q (fun m e=>by rw [e];rfl) fun x ex r H1 k1 b1 hv=>?_⟩;refine ⟨_,aK.of (k1.tup hp),_,rfl,v2,th,b,d,rfl,hB.keep k1 b1,Ih (q.keep k1) (fun m e=>by rw [ex,e];rfl) fun y ey r2 H2 k2 b2 hv2=>?_⟩;have q2:=q.keep (k1.trans k2);rw [ex,ey] at q2
 have:=hA.depth ex;exact ⟨r,r2,x,y,rfl,hv.kt k2.kt,hv2,by omega,fun H' s'=>q2 _ _ (Xz s') (b2.keep s') ⟨[],.bl _⟩⟩
theorem pk6 {t:Tm} {k:Nat} {d e:PyData} (ho:t.ok) (hp:Pk k d) (hk:k+t.dep<=6) (h:tell t d = .ok e):Pk 6 e:=(Y3 ho hp h).1.mono hk
inductive kW (g:Gx) (P C:Addr) (m:Nat) (vs:List V) (H:Hp) (Q:VK) (E:XK):Prop
 | mk (p:Addr) (v1 v2 th:V) (a b:Tm) (d:PyData) (h0:vs=[.ref p,th]) (h1:H p=some (.tup [v1,v2])) (h2:Ask P H m a v1 d th) (h3:Ask P H m b v2 d th) (h4:Out C P H Q E (tell (.each a b) d))
theorem YcW {K:W.Frag} {tl:TE} {g:TG} {tb:TS} {D:Ends} {σ:St} {H:Hp} (Pv:Addr->List V->Nat->St->Hp->Prop) (ha:∀ R:V->Hp->Prop,(∀ c xs H1,Pv c xs 0 σ H1->R (.ref c) H1)->tl σ H R) (hl:∀ c xs i σ H,i<=xs.length->Pv c xs i σ H->aJ K H c xs)
  (hs:∀ c xs (i:Nat) x σ H,xs[i]?=some x->Pv c xs i σ H->g x σ H fun σ2 H2=>tb { D with nx:=Pv c xs (i+1),ct:=Pv c xs (i+1),bk:=D.nx } σ2 H2) (hd:∀ c xs σ H,Pv c xs xs.length σ H->D.nx σ H):XY (XL K tl) g tb D σ H:=by
 refine ha _ fun c xs H1 h0=>⟨c,rfl,⟨xs,hl c xs 0 σ H1 (Nat.zero_le _) h0⟩,?_⟩
 exact Um (Pv c xs) h0 (hl c xs) (hs c xs) (hd c xs)
theorem YdX {K:W.Frag} {tl:TE} {g:TG} {tb:TS} {D:Ends} {σ:St} {H:Hp} (Pv:Addr->List V->Nat->St->Hp->Prop) (ha:∀ R:V->Hp->Prop,(∀ c xs H1,Pv c xs 0 σ H1->R (.ref c) H1)->tl σ H R) (hl:∀ c xs i σ H,i<=xs.length->Pv c xs i σ H->aK K H c xs)
  (hs:∀ c xs (i:Nat) x σ H,xs[i]?=some x->Pv c xs i σ H->g x σ H fun σ2 H2=>tb { D with nx:=Pv c xs (i+1),ct:=Pv c xs (i+1),bk:=D.nx } σ2 H2) (hd:∀ c xs σ H,Pv c xs xs.length σ H->D.nx σ H):XY (qK K tl) g tb D σ H:=by
 refine ha _ fun c xs H1 h0=>⟨c,rfl,⟨xs,hl c xs 0 σ H1 (Nat.zero_le _) h0⟩,?_⟩
 exact Ni (Pv c xs) h0 (hl c xs) (hs c xs) (hd c xs)
theorem QN {P:Addr} {H:Hp} {m:Nat} {a b:Tm} {v1 v2 th:V} {d x:PyData} {ds:List PyData} (hA:Ask P H m a v1 d th) (hB:Ask P H m b v2 d th) (ex:tell a d = .ok x) (hx:Xv x=some ds) (y:PyData) (hy:y∈ds) (H':Hp) (u:V) (k1:Kq P H H') (b1:Tb P H') (hv:DV H' u y):Ask P H' m b v2 y u:=by
 have hB':=hB.keep k1 b1;obtain ⟨k,hk,hl⟩:=hA.pk;obtain ⟨k',hk',hl'⟩:=hB.pk;obtain ⟨p1,p2⟩:=Y3 hA.ok hk ex;have dd:=hA.dd;have Ii:hb y/\y.depth<=3:=by
  cases x with
  | list zs =>
   cases hx
   have:=Y6 hy;rw [PyData.depth] at p2
   exact ⟨Vj p1.2 hy,by omega⟩
  | tuple zs =>
   cases hx
   have:=Y6 hy;rw [PyData.depth] at p2
   exact ⟨Vj p1.2 hy,by omega⟩
  | _=>cases hx
 exact ⟨hB'.at',hB'.ok,hB'.dep,hv,⟨0,yc Ii.1,by omega⟩,Ii.2,b1,hB.al⟩
theorem uH {k:Nat} {Z0 Z3 Z1 Z4 Z2:Addr} {ao aj:Addr} {au aq:Addr} {aB aA:Addr} {aF aD:Addr} (R:g.Raw "each_told" "each_told" yZ ["body","thing"]) (mJ:g.Fn 2 "is_truth" ["thing"] (bQ dg)) (Zh:g.Fn 2 "is_list_or_tuple" ["thing"] (dB W9)) (Zq:g.bD k "taken" ["mark","term","thing","can_take"] (mK g aj Z3 m)) (hkv:2<=k):g.bD (k+1) "each_told" ["body","thing"] (kW g aj Z3 m):=by
 refine R.fnX HF (fun vs H Q E h=>by obtain ⟨p,v1,v2,th,a,b,d,rfl,hp,hA,hB,q⟩:=h;rfl) fun f_ cdv A outer s H vs Q E hr h=>?_
 obtain ⟨p,v1,v2,th,a,b,d,rfl,hp,hA,hB,q⟩:=h;refine ⟨_,(@Yd _ _ _ _ _ (@XR _ _ _ _ _ _ _ _ PassesOwn.leaving rfl (@Gs _ _ _ _ _ (@Y1 _ _ _ _ (@Xg _ _ _ _ _ _ _ _ _ _ _ _ _ Zq hr Xr (@Ya _ _ _ _ _ Yp (@Ya _ _ _ _ _ (@Yy _ _ _ _ _ _ _ YM (pv 0) Yi (fun _ _=>rfl)) (@Ya _ _ _ _ _ (pv 1) (@Ya _ _ _ _ _ (@XI _ _ _ _ _ _ _ Zh (by rfl) (by rfl) (by decide)) Yc (by rfl)) (by rfl)) (by rfl)) (by rfl)) (by omega) (by rfl) (by rfl) (by decide) (by rfl) (by rfl))) (@DW _ _ _ _ (@Xg _ _ _ _ _ _ _ _ _ _ _ _ _ Zq hr Xr (@Ya _ _ _ _ _ Yp (@Ya _ _ _ _ _ (@Yy _ _ _ _ _ _ _ YM (pv 0) Yi (fun _ _=>rfl)) (@Ya _ _ _ _ _ (pv 1) (@Ya _ _ _ _ _ (@XI _ _ _ _ _ _ _ Zh (by rfl) (by rfl) (by decide)) Yc (by rfl)) (by rfl)) (by rfl)) (by rfl)) (by omega) (by rfl) (by rfl) (by decide) (by rfl) (by rfl)))) (@YK _ _ (2) _ HF.nd rfl (.inl rfl) (by first | exact .inl rfl | exact .inr rfl | assumption)) (@Ye _ _ _ (@Yq _ _ _ _ _ _ _ _ (@XG _ _ _ _ (@Y0 _ _ _ (@Xg _ _ _ _ _ _ _ _ _ _ _ _ _ Zq hr Xr (@Ya _ _ _ _ _ Yp (@Ya _ _ _ _ _ (@Yy _ _ _ _ _ _ _ YM (pv 0) Yi (fun _ _=>rfl)) (@Ya _ _ _ _ _ (pv 2) (@Ya _ _ _ _ _ (@XI _ _ _ _ _ _ _ mJ (by rfl) (by rfl) (by decide)) Yc (by rfl)) (by rfl)) (by rfl)) (by rfl)) (by omega) (by rfl) (by rfl) (by decide) (by rfl) (by rfl)) (by intro _;rfl))) (@Ye _ _ _ (PS.bA (@Yj _ _ _ _ Xq))) Yl)) (by intro _;rfl)) (@Ye _ _ _ (PS.bA (@Yj _ _ _ _ Xq)))),?_⟩;walk_at "rd"
 cases ex:tell a d with
 | error mk =>
  refine Ut ?_;unfold XY XL;walk_at "rd";refine ⟨_,aK.of hp,_,rfl,fun f1 hf1=>⟨_,v1,th,f1,a,d,W9,rfl,hA,fun e _=>Wj hf1,?_⟩⟩;simp only [tell,ex] at q;rw [ex];exact q
 | ok x =>
 cases x with
 | list ds =>
  have hitem:=QN hA hB ex rfl;simp only [tell,ex,XZ (show Xv (.list ds)=some ds from rfl)] at q;refine Ut (YcW (fun c xs i σ H'=>Kq aj H H'/\Tb aj H'/\(∃ w,σ=[some (.ref p),some th,w])/\H' c=some (.lst xs)/\bB H' xs ds/\Xh "each" (fun x=>tell b x) (ds.drop i)=Xh "each" (fun x=>tell b x) ds) (fun R hR=>?_) (fun c xs i σ H' _ z=>aJ.of z.2.2.2.1) (fun c xs i x σ H' hx z=>?_) fun c xs σ H' z=>?_)
  ·walk_at "rd"
   refine ⟨_,aK.of hp,_,rfl,fun f1 hf1=>⟨_,v1,th,f1,a,d,W9,rfl,hA,fun e _=>Wj hf1,?_⟩⟩;rw [ex];intro r H1 k1 b1 hv;obtain ⟨a1,us,rfl,h1,l1,d1⟩:=hv.gG;exact hR a1 us H1 ⟨k1,b1,⟨none,rfl⟩,h1,d1,rfl⟩
  ·obtain ⟨k1,b1,⟨w,rfl⟩,hc,hds,he⟩:=z
   obtain ⟨y,hy,hv⟩:=hds.at hx;obtain ⟨hi,ei⟩:=List.getElem?_eq_some_iff.mp hy;have ed:ds.drop i=y::ds.drop (i+1):=by rw [<- ei];exact List.drop_eq_getElem_cons hi
   rw [ed] at he
   have zH:Ask aj H' m b v2 y x:=hitem y (List.mem_of_getElem? hy) H' x k1 b1 hv;walk_at "rd";refine ⟨_,aK.of (k1.tup hp),_,rfl,fun f2 hf2=>⟨_,v2,x,f2,b,y,dg,rfl,zH,fun e _=>WV hf2,Wv (q.keep k1) (fun m e=>?_) (fun z e c=>?_) fun z ez c r H2 k2 b2 hv2=>?_⟩⟩
   ·rw [<- he];simp only [Xh,e];rfl
   ·rw [<- he];simp only [Xh,e,Wk (VS c)]
   ·obtain ⟨i',rfl⟩:=Uz c
    cases hv2.ur
    simp only [Xh,ez,XZ (show Wa (.bool i')=some i' from rfl)] at he;refine ⟨i',rfl,?_⟩
    cases i' with
    | true=>exact Yu (by decide) ⟨k1.trans k2,b2,k2.lst hc,hds.kt k2.kt,he⟩
    | false =>
     rw [<- he] at q
     exact YT rfl (q _ _ (k1.trans k2) b2 ⟨[],.bl _⟩)
  ·obtain ⟨k1,b1,⟨w,rfl⟩,hc,hds,he⟩:=z
   rw [hds.length,List.drop_length] at he
   rw [<- he] at q
   exact q _ _ k1 b1 ⟨[],.bl _⟩
 | tuple ds =>
  have hitem:=QN hA hB ex rfl;simp only [tell,ex,XZ (show Xv (.tuple ds)=some ds from rfl)] at q;refine Sd (YdX (fun c xs i σ H'=>Kq aj H H'/\Tb aj H'/\(∃ w,σ=[some (.ref p),some th,w])/\H' c=some (.tup xs)/\bB H' xs ds/\Xh "each" (fun x=>tell b x) (ds.drop i)=Xh "each" (fun x=>tell b x) ds) (fun R hR=>?_) (fun c xs i σ H' _ z=>aK.of z.2.2.2.1) (fun c xs i x σ H' hx z=>?_) fun c xs σ H' z=>?_)
  ·walk_at "rd"
   refine ⟨_,aK.of hp,_,rfl,fun f1 hf1=>⟨_,v1,th,f1,a,d,W9,rfl,hA,fun e _=>Wj hf1,?_⟩⟩;rw [ex];intro r H1 k1 b1 hv;obtain ⟨a1,us,rfl,h1,l1,d1⟩:=hv.gH;exact hR a1 us H1 ⟨k1,b1,⟨none,rfl⟩,h1,d1,rfl⟩
  ·obtain ⟨k1,b1,⟨w,rfl⟩,hc,hds,he⟩:=z
   obtain ⟨y,hy,hv⟩:=hds.at hx;obtain ⟨hi,ei⟩:=List.getElem?_eq_some_iff.mp hy;have ed:ds.drop i=y::ds.drop (i+1):=by rw [<- ei];exact List.drop_eq_getElem_cons hi
   rw [ed] at he
   have zH:Ask aj H' m b v2 y x:=hitem y (List.mem_of_getElem? hy) H' x k1 b1 hv;walk_at "rd";refine ⟨_,aK.of (k1.tup hp),_,rfl,fun f2 hf2=>⟨_,v2,x,f2,b,y,dg,rfl,zH,fun e _=>WV hf2,Wv (q.keep k1) (fun m e=>?_) (fun z e c=>?_) fun z ez c r H2 k2 b2 hv2=>?_⟩⟩
   ·rw [<- he];simp only [Xh,e];rfl
   ·rw [<- he];simp only [Xh,e,Wk (VS c)]
   ·obtain ⟨i',rfl⟩:=Uz c
    cases hv2.ur
    simp only [Xh,ez,XZ (show Wa (.bool i')=some i' from rfl)] at he;refine ⟨i',rfl,?_⟩
    cases i' with
    | true=>exact Yu (by decide) ⟨k1.trans k2,b2,k2.tup hc,hds.kt k2.kt,he⟩
    | false =>
     rw [<- he] at q
     exact YT rfl (q _ _ (k1.trans k2) b2 ⟨[],.bl _⟩)
  ·obtain ⟨k1,b1,⟨w,rfl⟩,hc,hds,he⟩:=z
   rw [hds.length,List.drop_length] at he
   rw [<- he] at q
   exact q _ _ k1 b1 ⟨[],.bl _⟩
 | _ =>
  refine Ut ?_;unfold XY XL;walk_at "rd";refine ⟨_,aK.of hp,_,rfl,fun f1 hf1=>⟨_,v1,th,f1,a,d,W9,rfl,hA,fun e _=>Wj hf1,?_⟩⟩;simp only [tell,ex] at q;rw [ex];exact q
theorem Vm {a b:Bool} (h:(a&&b)=true):a=true/\b=true:=by simpa using h
theorem Ask.sub {P:Addr} {H:Hp} {m:Nat} {T t:Tm} {v th u:V} {d:PyData} (h:Ask P H (m+1) T v d th) (ht:YB H t u) (ho:t.ok) (hd:t.dep+1<=T.dep) (ha:t8 t=true):Ask P H m t u d th:=by
 obtain ⟨k,hk,hl⟩:=h.pk;have:=h.dep;exact ⟨ht,ho,by omega,h.dv,⟨k,hk,by omega⟩,h.dd,h.tb,ha⟩
theorem Ij {t:Tm} {d:PyData} {z:Str} (h:∃ k,Pk k d/\k+(t.dep+1)<=7) (ho:t.ok) (e:tell t d = .ok (.str z)):z.length<=sizeLine:=by
 obtain ⟨k,hk,hl⟩:=h;have p:z.length<=64*2^6:=pk6 ho hk (by omega) e;exact few (by omega)
theorem V8 {k:Nat} {Z0 Z3 Z1 Z4 Z2:Addr} {ao aj:Addr} {au aq:Addr} {aB aA:Addr} {aF aD:Addr} (R:g.Raw "told" "told" za ["term","thing"]) (mJ:g.Fn 2 "is_truth" ["thing"] (bQ dg)) (Ik:g.Fn 2 "is_list_tuple_or_text" ["thing"] (dB V6)) (Zq:g.bD k "taken" ["mark","term","thing","can_take"] (mK g aj Z3 m)) (lN:g.bD k "part_told" ["body","thing"] (mL g aj Z3 m)) (Z2P:g.bD k "numbers_told" ["mark","body","thing"] (mO g aj Z3 m)) (lO:g.bD k "same_told" ["body","thing"] (kO aj Z3 m)) (lQ:g.bD k "each_told" ["body","thing"] (kW g aj Z3 m)) (hkv:2<=k) (aN:g.mg "len"=none):g.bD (k+1) "told" ["term","thing"] (d9 aj Z3 (m+1)):=by
 refine R.fnX Qs (fun vs H Q E h=>by obtain ⟨v,th,t,d,rfl,hA,q⟩:=h;rfl) fun f_ cdv A outer s H vs Q E hr h=>?_
 obtain ⟨v,th,t,d,rfl,hA,q⟩:=h;refine ⟨_,(@Yd _ _ _ _ _ (PS.bA (@YD _ _ (2) _ _ _ _ Qs.nd rfl (.inl rfl) (@Yy _ _ _ _ _ _ _ YM (pv 0) Yi (fun _ _=>rfl)) (by rfl) (by first | exact .inl rfl | exact .inr rfl | assumption))) (@Yd _ _ _ _ _ (PS.bA (@YD _ _ (3) _ _ _ _ Qs.nd rfl (.inl rfl) (@Yy _ _ _ _ _ _ _ YM (pv 0) Yi (fun _ _=>rfl)) (by rfl) (by first | exact .inl rfl | exact .inr rfl | assumption))) (@Yd _ _ _ _ _ (PS.bA (@Yq _ _ _ _ _ _ _ _ (@Yo _ _ _ _ _ _ _ _ Yz (pv 2) Yp (Yk _)) (@Ye _ _ _ (@Yj _ _ _ _ (pv 3))) Yl)) (@Yd _ _ _ _ _ (PS.bA (@Yq _ _ _ _ _ _ _ _ (@Yo _ _ _ _ _ _ _ _ Yz (pv 2) Yp (Yk _)) (@Ye _ _ _ (@Yj _ _ _ _ (pv 1))) Yl)) (@Yd _ _ _ _ _ (@Yq _ _ _ _ _ _ _ _ (@Yo _ _ _ _ _ _ _ _ Yz (pv 2) Yp (Yk _)) (@Ye _ _ _ (@Yj _ _ _ _ (@Xg _ _ _ _ _ _ _ _ _ _ _ _ _ lN hr Xr (@Ya _ _ _ _ _ (pv 3) (@Ya _ _ _ _ _ (pv 1) Yc (by rfl)) (by rfl)) (by omega) (by rfl) (by rfl) (by decide) (by rfl) (by rfl)))) Yl) (@Yd _ _ _ _ _ (@Yq _ _ _ _ _ _ _ _ (@Yo _ _ _ _ _ _ _ _ Yz (pv 2) Yp (Yk _)) (@Ye _ _ _ (@Yj _ _ _ _ (@YQ _ _ _ _ _ _ _ _ _ _ aN (Gu YW WM) (@Ya _ _ _ _ _ (@Xg _ _ _ _ _ _ _ _ _ _ _ _ _ Zq hr Xr (@Ya _ _ _ _ _ (pv 2) (@Ya _ _ _ _ _ (pv 3) (@Ya _ _ _ _ _ (pv 1) (@Ya _ _ _ _ _ (@XI _ _ _ _ _ _ _ Ik (by rfl) (by rfl) (by decide)) Yc (by rfl)) (by rfl)) (by rfl)) (by rfl)) (by omega) (by rfl) (by rfl) (by decide) (by rfl) (by rfl)) Yc (by rfl)) (by decide +kernel) (by rfl) (by rfl) (by decide) (by decide) (by rfl) (by rfl)))) Yl) (@Yd _ _ _ _ _ (@Yq _ _ _ _ _ _ _ _ (@Yo _ _ _ _ _ _ _ _ Yz (pv 2) Yp (Yk _)) (@Ye _ _ _ YU) Yl) (@Yd _ _ _ _ _ (@Yq _ _ _ _ _ _ _ _ (@Yo _ _ _ _ _ _ _ _ Yz (pv 2) Yp (Yk _)) (@Ye _ _ _ (@Yj _ _ _ _ (@vP _ _ _ _ (@Xg _ _ _ _ _ _ _ _ _ _ _ _ _ Zq hr Xr (@Ya _ _ _ _ _ (pv 2) (@Ya _ _ _ _ _ (pv 3) (@Ya _ _ _ _ _ (pv 1) (@Ya _ _ _ _ _ (@XI _ _ _ _ _ _ _ mJ (by rfl) (by rfl) (by decide)) Yc (by rfl)) (by rfl)) (by rfl)) (by rfl)) (by omega) (by rfl) (by rfl) (by decide) (by rfl) (by rfl))))) Yl) (@Yd _ _ _ _ _ (@Yq _ _ _ _ _ _ _ _ (@Yo _ _ _ _ _ _ _ _ Yz (pv 2) Yp (Yk _)) (@Ye _ _ _ (@Yj _ _ _ _ (@Yf9 _ _ _ _ _ _ _ (g.K) (@Xg _ _ _ _ _ _ _ _ _ _ _ _ _ Zq hr Xr (@Ya _ _ _ _ _ (pv 2) (@Ya _ _ _ _ _ (pv 3) (@Ya _ _ _ _ _ (pv 1) (@Ya _ _ _ _ _ (@XI _ _ _ _ _ _ _ Ik (by rfl) (by rfl) (by decide)) Yc (by rfl)) (by rfl)) (by rfl)) (by rfl)) (by omega) (by rfl) (by rfl) (by decide) (by rfl) (by rfl)) (@WB _ _ _ _ _ _ X6 Yi) (by rfl)))) Yl) (@Yd _ _ _ _ _ (@Yq _ _ _ _ _ _ _ _ (@Yo _ _ _ _ _ _ _ _ Yz (pv 2) Yp (Yk _)) (@Ye _ _ _ (@Yj _ _ _ _ (@Xg _ _ _ _ _ _ _ _ _ _ _ _ _ lO hr Xr (@Ya _ _ _ _ _ (pv 3) (@Ya _ _ _ _ _ (pv 1) Yc (by rfl)) (by rfl)) (by omega) (by rfl) (by rfl) (by decide) (by rfl) (by rfl)))) Yl) (@Yd _ _ _ _ _ (PS.bA (@Yq _ _ _ _ _ _ _ _ (@Yo _ _ _ _ _ _ _ _ Yz (pv 2) Yp (Yk _)) (@Ye _ _ _ YU) Yl)) (@Yd _ _ _ _ _ (PS.bA (@Yq _ _ _ _ _ _ _ _ (@Yo _ _ _ _ _ _ _ _ Yz (pv 2) Yp (Yk _)) (@Ye _ _ _ YU) Yl)) (@Yd _ _ _ _ _ (@Yq _ _ _ _ _ _ _ _ (@Yo _ _ _ _ _ _ _ _ Yz (pv 2) Yp (Yk _)) (@Ye _ _ _ (@Yj _ _ _ _ (@Xg _ _ _ _ _ _ _ _ _ _ _ _ _ lQ hr Xr (@Ya _ _ _ _ _ (pv 3) (@Ya _ _ _ _ _ (pv 1) Yc (by rfl)) (by rfl)) (by omega) (by rfl) (by rfl) (by decide) (by rfl) (by rfl)))) Yl) (@Yd _ _ _ _ _ (PS.bA (@Yq _ _ _ _ _ _ _ _ (@Yo _ _ _ _ _ _ _ _ Yz (pv 2) Yp (Yk _)) (@Ye _ _ _ YU) Yl)) (@Ye _ _ _ (@Yj _ _ _ _ (@Xg _ _ _ _ _ _ _ _ _ _ _ _ _ Z2P hr Xr (@Ya _ _ _ _ _ (pv 2) (@Ya _ _ _ _ _ (pv 3) (@Ya _ _ _ _ _ (pv 1) Yc (by rfl)) (by rfl)) (by rfl)) (by omega) (by rfl) (by rfl) (by decide) (by rfl) (by rfl)))))))))))))))))),?_⟩;have hat:=hA.at';have hok:=hA.ok;have hpk:=hA.pk;have hal:=hA.al
 cases t with
 | num i =>
  obtain ⟨a,rfl,h⟩:=hat;walk_at "rd";refine ⟨_,aK.of h,_,rfl,?_⟩;walk_at "rd";exact ⟨_,aK.of h,_,rfl,q _ _ (.refl _ _) hA.tb ⟨[],.int _⟩⟩
 | here =>
  obtain ⟨a,r,rfl,h⟩:=hat;walk_at "rd";refine ⟨_,aK.of h,_,rfl,?_⟩;walk_at "rd";refine ⟨_,aK.of h,_,rfl,?_⟩
  repeat refine Yu (by decide) ?_
  exact q _ _ (.refl _ _) hA.tb hA.dv
 | part t k =>
  obtain ⟨a,p,u,rfl,h,hp,ht⟩:=hat;walk_at "rd";refine ⟨_,aK.of h,_,rfl,?_⟩;walk_at "rd";refine ⟨_,aK.of h,_,rfl,?_⟩
  repeat refine Yu (by decide) ?_
  exact ⟨p,u,th,k,t,d,rfl,hp,hA.sub ht hok.2 (Nat.le_refl _) hal,q⟩
 | count t =>
  obtain ⟨a,u,rfl,h,ht⟩:=hat;walk_at "rd";refine ⟨_,aK.of h,_,rfl,?_⟩;walk_at "rd";refine ⟨_,aK.of h,_,rfl,?_⟩
  repeat refine Yu (by decide) ?_
  walk_at "rd";refine fun f1 hf1=>⟨_,u,th,f1,t,d,V6,rfl,hA.sub ht hok (Nat.le_refl _) hal,fun e _=>Wj hf1,Wv q (fun m e=>by simp only [tell,e];rfl) (fun x e c=>?_) fun x ex c r H1 k1 b1 hv=>?_⟩
  ·have:UW x=none:=by simpa [V6] using c
   simp only [tell,e,Wk this];rfl
  ·obtain ⟨n,hn⟩:=Option.isSome_iff_exists.mp (show (UW x).isSome=true from c)
   have e2:tell (.count t) d = .ok (.int n):=by simp only [tell,ex,XZ hn];rfl
   rw [e2] at q
   cases x with
   | list ds =>
    obtain ⟨a1,vs,rfl,h1,l1,d1⟩:=hv.gG
    cases hn
    exact .inl ⟨a1,rfl,vs,.inl (aJ.of h1),by rw [d1.length];exact q _ _ k1 b1 ⟨[],.int _⟩⟩
   | tuple ds =>
    obtain ⟨a1,vs,rfl,h1,l1,d1⟩:=hv.gH
    cases hn
    exact .inl ⟨a1,rfl,vs,.inr (aK.of h1),by rw [d1.length];exact q _ _ k1 b1 ⟨[],.int _⟩⟩
   | str z =>
    obtain ⟨rfl,_⟩:=hv.xY
    cases hn
    exact .inr ⟨z,rfl,Ij hpk hok ex,q _ _ k1 b1 ⟨[],.int _⟩⟩
   | _=>cases hn
 | sum t=>cases hal
 | not t =>
  obtain ⟨a,u,rfl,h,ht⟩:=hat;walk_at "rd";refine ⟨_,aK.of h,_,rfl,?_⟩;walk_at "rd";refine ⟨_,aK.of h,_,rfl,?_⟩
  repeat refine Yu (by decide) ?_
  walk_at "rd";refine fun f1 hf1=>⟨_,u,th,f1,t,d,dg,rfl,hA.sub ht hok (Nat.le_refl _) hal,fun e _=>WV hf1,Wv q (fun m e=>by simp only [tell,e];rfl) (fun x e c=>by simp only [tell,e,Wk (VS c)];rfl) fun x ex c r H1 k1 b1 hv=>?_⟩
  obtain ⟨i,rfl⟩:=Uz c
  cases hv.ur
  simp only [tell,ex,XZ (show Wa (.bool i)=some i from rfl)] at q;exact ⟨i,rfl,q _ _ k1 b1 ⟨[],.bl _⟩⟩
 | turned t =>
  obtain ⟨a,u,rfl,h,ht⟩:=hat;walk_at "rd";refine ⟨_,aK.of h,_,rfl,?_⟩;walk_at "rd";refine ⟨_,aK.of h,_,rfl,?_⟩
  repeat refine Yu (by decide) ?_
  unfold Hg;walk_at "rd";refine fun f1 hf1=>⟨_,u,th,f1,t,d,V6,rfl,hA.sub ht hok (Nat.le_refl _) hal,fun e _=>Wj hf1,Wv q (fun m e=>by simp only [tell,e];rfl) (fun x e c=>?_) fun x ex c r H1 k1 b1 hv=>?_⟩
  ·have:Hi x=none:=by cases x<;>first | rfl | (simp [V6,UW] at c)
   simp only [tell,e,Wk this]
  ·simp only [tell,ex] at q
   cases x with
   | list ds =>
    obtain ⟨a1,vs,rfl,h1,l1,d1⟩:=hv.gG;refine .inl ⟨a1,rfl,vs,aJ.of h1,fun p hp=>?_⟩;have s3:=Yf.aG hp (HO.lst vs.reverse);exact q _ _ (k1.trans (Xz s3)) (b1.keep s3) (.lst Yb (by rw [List.length_reverse];exact l1) (d1.reverse.keep s3))
   | tuple ds =>
    obtain ⟨a1,vs,rfl,h1,l1,d1⟩:=hv.gH;refine .inr (.inl ⟨a1,rfl,vs,aK.of h1,fun p hp=>?_⟩);have s3:=Yf.aG hp (HO.tup vs.reverse);exact q _ _ (k1.trans (Xz s3)) (b1.keep s3) (.tup Yb (by rw [List.length_reverse];exact l1) (d1.reverse.keep s3))
   | str z =>
    obtain ⟨rfl,o1⟩:=hv.xY;exact .inr (.inr ⟨z,rfl,Ij hpk hok ex,q _ _ k1 b1 ⟨[],.str _ (YdU o1)⟩⟩)
   | _=>cases c
 | same a b =>
  obtain ⟨c,p,u,w,rfl,h,hp,h1,h2⟩:=hat;walk_at "rd";refine ⟨_,aK.of h,_,rfl,?_⟩;walk_at "rd";refine ⟨_,aK.of h,_,rfl,?_⟩
  repeat refine Yu (by decide) ?_
  exact ⟨p,u,w,th,a,b,d,rfl,hp,hA.sub h1 hok.1 (by simp only [Tm.dep];omega) (Vm hal).1,hA.sub h2 hok.2 (by simp only [Tm.dep];omega) (Vm hal).2,q⟩
 | both a b=>cases hal
 | when a b c=>cases hal
 | each a b =>
  obtain ⟨c,p,u,w,rfl,h,hp,h1,h2⟩:=hat;walk_at "rd";refine ⟨_,aK.of h,_,rfl,?_⟩;walk_at "rd";refine ⟨_,aK.of h,_,rfl,?_⟩
  repeat refine Yu (by decide) ?_
  exact ⟨p,u,w,th,a,b,d,rfl,hp,hA.sub h1 hok.1 (by simp only [Tm.dep];omega) (Vm hal).1,hA.sub h2 hok.2 (by simp only [Tm.dep];omega) (Vm hal).2,q⟩
 | joined a b=>cases hal
 | plus a b=>cases hal
 | times a b=>cases hal
 | less a b =>
  obtain ⟨c,p,u,w,rfl,h,hp,h1,h2⟩:=hat;walk_at "rd";refine ⟨_,aK.of h,_,rfl,?_⟩;walk_at "rd";refine ⟨_,aK.of h,_,rfl,?_⟩
  repeat refine Yu (by decide) ?_
  exact ⟨_,_,p,u,w,th,a,b,d,rfl,hp,⟨rfl,rfl⟩,hA.sub h1 hok.1 (by simp only [Tm.dep];omega) (Vm hal).1,hA.sub h2 hok.2 (by simp only [Tm.dep];omega) (Vm hal).2,q⟩
def NL (H H':Hp):Prop:=(∀ b xs,H b=some (.tup xs)->H' b=some (.tup xs))/\∀ b φ,H b=some (.ext φ)->H' b=some (.ext φ)
theorem NL.refl (H:Hp):NL H H:=⟨fun _ _ e=>e,fun _ _ e=>e⟩
theorem NL.trans {H H1 H2:Hp} (a:NL H H1) (b:NL H1 H2):NL H H2:=⟨fun c o e=>b.1 c o (a.1 c o e),fun c o e=>b.2 c o (a.2 c o e)⟩
theorem CQ {H H':Hp} (s:Yf H H'):NL H H':=⟨fun b o e=>s b _ e,fun b o e=>s b _ e⟩
theorem Kt.nl {H H':Hp} (h:Kt H H'):NL H H':=⟨fun b xs e=>h b _ (by intro ps z;cases z) e,fun b φ e=>h b _ (by intro ps z;cases z) e⟩
theorem zJ {H H':Hp} {P:Addr} {ps:Array Value} (hk:∀ a o,a≠P->H a=some o->H' a=some o) (hP:H P=some (.aV ps)):Kt H H':=fun c o n e=>hk c o (Xy e hP (n _)) e
noncomputable def says (t:Tm) (d:PyData):Bool:=@decide (tell t d = .ok (.bool true)) (Classical.propDecidable _)
theorem Il {t:Tm} {d e:PyData} (h:tell t d = .ok e) (b:Bool) (hb:b=true↔e = .bool true):says t d=b:=by
 unfold says;rw [h]
 cases b with
 | true=>rw [hb.mp rfl];exact @decide_eq_true _ (Classical.propDecidable _) rfl
 | false=>exact @decide_eq_false _ (Classical.propDecidable _) fun z=>by cases z;exact absurd (hb.mpr rfl) (by decide)
theorem Im {t:Tm} {d:PyData} {m:Str} (h:tell t d = .error m):says t d=false:=by
 unfold says;rw [h];exact @decide_eq_false _ (Classical.propDecidable _) fun z=>by cases z
inductive eF (P C:Addr) (vs:List V) (H:Hp) (Q:VK) (E_:XK):Prop
 | mk (v:_) (th:_) (t:_) (d:_) (h0:vs=[v,th]) (h1:Ask P H 4 t v d th) (h2:∀ H',Kq P H H'->Tb P H'->Q (.bl (says t d)) H')
theorem YaQ {k:Nat} {Z0 Z3 Z1 Z4 Z2:Addr} {ao aj:Addr} {au aq:Addr} {aB aA:Addr} {aF aD:Addr} (R:g.Raw "says_true" "says_true" zf ["term","thing"]) (eE:g.bD k "told" ["term","thing"] (d9 aj Z3 4)) (dJ:g.mg "Astray"=some (.ref Z3)) (bJ:W.exmOne g.K (.ref Z3) (.ref Z3)=some true):g.Fn (k+1) "says_true" ["term","thing"] (eF aj Z3):=by
 refine R.fn YaL (fun vs H Q E h=>by obtain ⟨v,th,t,d,rfl,hA,q⟩:=h;rfl) fun f_ cdv A outer s H vs Q E hr h=>?_
 obtain ⟨v,th,t,d,rfl,hA,q⟩:=h;refine ⟨_,(@Ye _ _ _ (@Yga _ _ _ _ _ _ _ _ _ _ _ _ _ _ _ _ _ _ _ _ _ _ _ _ eE hr (@Ya _ _ _ _ _ (pv 0) (@Ya _ _ _ _ _ (pv 1) Yc (by rfl)) (by rfl)) dJ (fun _=>(@Ye _ _ _ (@Yj _ _ _ _ Xq))) (by omega) (by rfl) (by rfl) (by rfl) (by rfl) (by rfl) (by decide) (by decide) (by rfl) (by rfl) (by rfl))),?_⟩;walk_at "rd";unfold Hl;walk_at "rd";refine ⟨v,th,t,d,rfl,hA,?_⟩
 cases e:tell t d with
 | error mk =>
  intro H1 dd k1 b1 hd;refine ⟨bJ,?_⟩;have s1:=Yf.aG hd (Wy dd [("mark",.str mk)]);have:=q _ (k1.trans (Xz s1)) (b1.keep s1);rw [Im e] at this
  exact this
 | ok x =>
  intro r H1 k1 b1 hv;have:=q _ k1 b1;rw [Il e (decide (r = .bl true)) ?_] at this
  ·exact this
  ·rw [decide_eq_true_eq]
   constructor
   ·rintro rfl
    obtain ⟨L,h⟩:=hv
    cases h
    rfl
   ·rintro rfl
    exact hv.ur
def Ygm (P C:Addr) (fv vs:List V) (H:Hp) (Q:VK):Prop:=∃ u th t d,fv=[u]/\vs=[th]/\Ask P H 4 t u d th/\∀ H',Kq P H H'->Tb P H'->Q (.bl (says t d)) H'
theorem Z2E {k:Nat} {Z0 Z3 Z1 Z4 Z2:Addr} {f_ c_:Addr} {pm ctv:Value} {l:Yr} (uI:g.Fn k "says_true" ["term","thing"] (eF aj Z3)) (hl:l.map (·.1)=(["term"]:List Str)) (hnd:l.as.Nodup):aW g.P g.w g.K g.mg g.base bL (k+1) f_ (Zu l.cl c_ pm ctv) ["thing"] (fun vs H Q _=>uc H f_ c_ (Zu l.cl c_ pm ctv) Zj l/\(Ygm aj Z3) l.vs vs (off H l.as) fun v H'=>(∀ c∈l.as,H' c=none)->Q v (on H' H l.as)):=by
 refine Tj (N:=["thing","term"]) (by rw [hl];exact Z2D) hnd (fun vs H Q h=>by obtain ⟨u,th,t,d,jd,rfl,hA,q⟩:=h;rfl) fun A outer s H vs Q hr h=>?_
 obtain ⟨u,th,t,d,jd,rfl,hA,q⟩:=h;refine ⟨_,(@Yv _ _ _ _ _ _ _ _ _ _ _ _ uI hr (@Ya _ _ _ _ _ (pv 1) (@Ya _ _ _ _ _ (pv 0) Yc (by rfl)) (by rfl)) (by omega) (by rfl) (by rfl) (by decide) (by rfl) (by rfl)),?_⟩;rw [jd]
 show (_:TE) [some th,some u] H _
 walk_at "rd";exact ⟨u,th,t,d,rfl,hA,q⟩
theorem Ygn {c:Addr} {q:Str} {v:V} (h:cH c q=Wm c v):False:=by
 have e:=HO.ext.inj h
 let ob:Obj:={ cls := .type "code",data := .fields #[.none,.str q 0] }
 let h0:Heap:={ objs:=Array.replicate (c+1) ob }
 have g:h0.get? c=some ob:=by
  show (match (Array.replicate (c+1) ob)[c]? with | some ⟨_,_,.freed,_⟩=>none | x=>x)=some ob
  rw [Array.getElem?_replicate,if_pos (by omega)]
 have z:(fun h:Heap=>h.CodeRec (.ref c) q) h0:=⟨c,ob,_,0,rfl,g,rfl,rfl⟩;rw [e] at z
 obtain ⟨u,_,o,g2,d⟩:=z;rw [g] at g2
 cases g2
 cases d
theorem YgX {P:Addr} {H:Hp} {x:Str} {a:Addr} {u:V} (h:Tb P H) (hin:Yr.In [(x,a,u)] H):Tb P (off H (Yr.as [(x,a,u)])):=by
 have ha:H a=some (Wm a u):=hin _ (.head _);rcases h with h | ⟨c,h,h1⟩
 ·exact .inl (WG hin h fun φ z=>by cases z)
 ·refine .inr ⟨c,WG hin h (fun φ z=>by cases z),?_⟩
  rw [YE fun hm=>?_]
  ·exact h1
  ·have e:c=a:=by simpa [Yr.as] using hm
   subst e;rw [h1] at ha
   exact Ygn (Option.some.inj ha)
theorem Ip {P:Addr} {l:Yr} {H H':Hp} (k:Kq P (off H l.as) H'):Kq P H (on H' H l.as):=by
 refine ⟨fun a o n e=>?_,fun a o n e=>?_⟩
 ·by_cases hm:a∈l.as
  ·rw [V2 hm];exact e
  ·rw [Y5 hm];exact k.kt a o n (by rw [YE hm];exact e)
 ·by_cases hm:a∈l.as
  ·rw [V2 hm];exact e
  ·rw [Y5 hm];exact k.ob a o n (by rw [YE hm];exact e)
theorem Ir {P:Addr} {l:Yr} {H H':Hp} (b:Tb P H') (hc:∀ c∈l.as,H' c=none):Tb P (on H' H l.as):=by
 have out:∀ {a:Addr} {o:HO},H' a=some o->on H' H l.as a=some o:=fun {a o} e=>by
  rw [Y5 fun hm=>?_]
  ·exact e
  ·rw [hc a hm] at e;cases e
 rcases b with h | ⟨c,h,h1⟩
 ·exact .inl (out h)
 ·exact .inr ⟨c,out h,out h1⟩
def V9 (g:Gx) (P:Addr) (H:Hp) (f:Addr) (t:Tm):Prop:=∃ fd sp,aW g.P g.w g.K g.mg g.base bL 40 f fd ["thing"] sp/\(∀ us:List Value,us.length=(["thing"]:List Str).length->bindArgs fd ⟨us,[]⟩=pure ((["thing"]:List Str).zip us))/\H f=some (bG f fd) /\
 ∀ (H1:Hp) (th:V) (d:PyData) (Q:VK),NL H H1->Tb P H1->DV H1 th d->(∃ k,Pk k d/\k+t.dep<=7)->d.depth<=3->(∀ H',Kq P H1 H'->Tb P H'->Q (.bl (says t d)) H')->H1 f=some (bG f fd)/\sp [th] H1 Q E0
theorem YeV {g:Gx} {P C:Addr} {H:Hp} {f c x:Addr} {u:V} {t:Tm} {pm ctv:Value} (F0:g.Fn 39 "says_true" ["term","thing"] (eF P C)) (h:uc H f c (Zu [("term",x)] c pm ctv) Zj [("term",x,u)]) (ht:YB H t u) (ho:t.ok) (hd:t.dep<4) (ha:t8 t=true):V9 g P H f t:=by
 have F:=Z2E (g:=g) (k:=39) (Z0:=0) (Z3:=C) (Z1:=0) (Z4:=0) (Z2:=0) (f_:=f) (c_:=c) (pm:=pm) (ctv:=ctv) (l:=[("term",x,u)]) F0 rfl (by simp [Yr.as]);refine ⟨_,_,F,fun us hl=>?_,h.1,fun H1 th d Q k1 b1 hv hp hdd q=>?_⟩
 ·match us,hl with
  | [_],_=>rfl
 ·have nt:∀ {φ:Heap->Prop} (ps:Array Value),HO.ext φ ≠ .aV ps:=fun ps z=>by cases z
  have hin:Yr.In [("term",x,u)] H1:=fun p hp=>k1.2 _ _ (h.2.2 p hp)
  have hcl:uc H1 f c (Zu [("term",x)] c pm ctv) Zj [("term",x,u)]:=⟨k1.2 _ _ h.1,k1.2 _ _ h.2.1,hin⟩;have tp:tZ H1 (off H1 (Yr.as [("term",x,u)])):=fun a vs e=>Qi hin e
  obtain ⟨L,hv⟩:=hv;refine ⟨hcl.1,hcl,u,th,t,d,rfl,rfl,⟨(ht.tps k1.1).tps tp,ho,hd,⟨L,hv.dz tp fun a _ vs e=>WG hin e fun φ z=>by cases z⟩,hp,hdd,YgX b1 hin,ha⟩,fun H' k' b' hc=>q _ (Ip k') (Ir b' hc)⟩
def rC (H:Hp) (P:Addr):Prop:=H P=some (.aV #[])\/∃ c,H P=some (.aV #[rawInt 658,rawInt 11,.ref c])/\H c=some (cH c Zj)
inductive Iu (g:Gx) (P PJ C:Addr) (vs:List V) (H:Hp) (Q:VK) (E_:XK):Prop
 | mk (u:V) (t:Tm) (h0:vs=[u]) (h1:YB H t u) (h2:t.ok) (h3:t.dep<4) (h4:t8 t=true) (h5:rC H PJ) (h6:∀ f H',V9 g P H' f t->rC H' PJ->(∀ a o,a≠PJ->H a=some o->H' a=some o)->Q (.ref f) H')
theorem QO {g:Gx} {H H3:Hp} {P PJ C f cf x:Addr} {u:V} {t:Tm} {ps:Array Value} {pm ctv:Value} (F0:g.Fn 39 "says_true" ["term","thing"] (eF P C)) (ht:YB H t u) (ho:t.ok) (hd:t.dep<4) (ha:t8 t=true) (hT:H PJ=some (.aV ps)) (kf:H3 f=some (bG f (Zu [("term",x)] cf pm ctv))) (kcf:H3 cf=some (cH cf Zj))
  (kT:H3 PJ=some (.aV #[rawInt 658,rawInt 11,.ref cf])) (keep:∀ a o,a≠PJ->H a=some o->H3 a=some o) (hc:∀ c∈Yr.as [("term",x,u)],H3 c=none) :
  V9 g P (lay H3 [("term",x,u)]) f t/\rC (lay H3 [("term",x,u)]) PJ/\∀ a o,a≠PJ->H a=some o->lay H3 [("term",x,u)] a=some o:=by
 have hin:=GC (H:=H3) (l:=[("term",x,u)]) (by simp [Yr.as]);have out:∀ {a:Addr} {o:HO},H3 a=some o->lay H3 [("term",x,u)] a=some o:=fun {a o} e=>by
  rw [Vg fun hm=>?_]
  ·exact e
  ·rw [hc a hm] at e;cases e
 have kk:∀ a o,a≠PJ->H a=some o->lay H3 [("term",x,u)] a=some o:=fun a o h1 h2=>out (keep a o h1 h2)
 exact ⟨YeV F0 ⟨out kf,out kcf,hin⟩ (ht.tps fun a vs e=>kk _ _ (Xy e hT (by intro z;cases z)) e) ho hd ha,.inr ⟨cf,out kT,out kcf⟩,kk⟩
theorem Ybd {k:Nat} {Z0 Z3 Z1 Z4 Z2:Addr} {ao aj:Addr} {au aq:Addr} {aB aA:Addr} {aF aD:Addr} (R:g.dH "judge_of" "judge_of" uy ["term"] au) (bm:Bm g.mg g.base) (lR:W.CodeHd g.base au aq) (uI:g.Fn 39 "says_true" ["term","thing"] (eF aj Z3)):g.Fn (k+1) "judge_of" ["term"] (Iu g aj aq Z3):=by
 refine R.Tf Yba (fun vs H Q E h=>by obtain ⟨u,t,rfl,hT,ho,hd,ha,ht,q⟩:=h;rfl) fun f_ A outer s H vs Q E hr h=>?_
 obtain ⟨u,t,rfl,hT,ho,hd,ha,ht,q⟩:=h;refine ⟨_,(@S5 _ _ _ _ (@UR _ _ _ _ _ _ _ _ _ bm lR rfl rfl (Eq.trans rfl UY) rfl)),?_⟩;rcases ht with ht | ⟨c1,ht,hc1⟩
 ·refine ⟨_,ht,trivial,.inl ⟨rfl,fun f cf ff g1 g2 g3 ⟨pm,ctv,e⟩=>⟨[("term",s.heap.objs.size+1,u)],⟨by simp [Yr.as],fun z hz=>?_⟩,fun hc=>?_⟩⟩⟩
  ·cases List.mem_singleton.mp hz
   exact ⟨0,rfl,rfl,rfl,rfl⟩
  ·subst e
   have fP:=Ym ht g1;have cP:=Ym ht g2;obtain ⟨r1,r2,r3⟩:=QO (H:=H) (f:=f) (cf:=cf) uI hT ho hd ha ht (by rw [Yb];rfl) (by rw [Yg (Ne.symm g3),Yb]) (by rw [Yg fP,Yg cP,Yb];rfl) (fun a o h1 h2=>by rw [Yg (Ym h2 g1),Yg (Ym h2 g2),Yg h1];exact h2) hc;exact q f _ r1 r2 r3
 ·refine ⟨_,ht,trivial,.inr ⟨c1,rfl,fun f ff g1 ⟨pm,ctv,e⟩=>⟨[("term",s.heap.objs.size+1,u)],⟨by simp [Yr.as],fun z hz=>?_⟩,fun hc=>?_⟩⟩⟩
  ·cases List.mem_singleton.mp hz
   exact ⟨0,rfl,rfl,rfl,rfl⟩
  ·subst e
   obtain ⟨r1,r2,r3⟩:=QO (H:=H) (f:=f) (cf:=c1) uI hT ho hd ha ht (by rw [Yb];rfl) (by rw [Yg (Ym hc1 g1)];exact hc1) (by rw [Yg (Ym ht g1)];exact ht) (fun a o h1 h2=>by rw [Yg (Ym h2 g1)];exact h2) hc;exact q f _ r1 r2 r3
def Tp (H H':Hp):Prop:=∀ b xs,H b=some (.tup xs)->H' b=some (.tup xs)
theorem Xe {H H':Hp} (k:Kt H H'):Tp H H':=fun _ _ e=>k.tup e
theorem Iv {H:Hp} {p:Addr} {xs ys:List V} (h:H p=some (.lst xs)):Tp H (upd H p (.lst ys)):=fun b zs e=>by rw [Yg (Xy e h (by intro z;cases z))];exact e
inductive Sk
 | wh | tx | my | us | ro
 deriving DecidableEq
def uJ (lo:Int):List V:=[.str "whole",.int lo,.int (lo+1023)]
def Xd (H:Hp) (lo:Int) (a:Addr):Sk->Prop
 | .wh=>H a=some (.tup (uJ lo))
 | .tx=>H a=some (.tup [.str "text",.str "ab"])
 | .my=>∃ w,H a=some (.tup [.str "many",.ref w])/\H w=some (.tup (uJ lo))
 | .us=>H a=some (.tup [.str "use",.str "row"])
 | .ro=>∃ T t m w,H a=some (.tup [.str "row",.ref T])/\H T=some (.tup [.ref t,.ref m])/\H t=some (.tup [.str "text",.str "ab"])/\H m=some (.tup [.str "many",.ref w])/\H w=some (.tup (uJ lo))
theorem Xd.tp {H H':Hp} (k:Tp H H') {lo:Int} {a:Addr} {s:Sk} (h:Xd H lo a s):Xd H' lo a s:=by
 cases s with
 | wh=>exact k _ _ h
 | tx=>exact k _ _ h
 | my=>obtain ⟨w,h1,h2⟩:=h;exact ⟨w,k _ _ h1,k _ _ h2⟩
 | us=>exact k _ _ h
 | ro=>obtain ⟨T,t,m,w,h1,h2,h3,h4,h5⟩:=h;exact ⟨T,t,m,w,k _ _ h1,k _ _ h2,k _ _ h3,k _ _ h4,k _ _ h5⟩
structure bR (H:Hp) (lo:Int) (B:Addr):Prop where
 ex:∃ p m,H B=some (.lst [.ref p])/\H p=some (.tup [.str "row",.ref m])/\Xd H lo m .my
theorem bR.kt {H H':Hp} (k:Kt H H') {lo:Int} {B:Addr} (h:bR H lo B):bR H' lo B:=by
 obtain ⟨p,m,h1,h2,h3⟩:=h.ex;exact ⟨p,m,k.lst h1,k.tup h2,h3.tp (Xe k)⟩
def ofs (lo:Int) (os:List Nat):List V:=os.map fun (o:Nat)=>V.int (lo+(o:Nat))
def bw (os:List Nat):Prop:=os.length<=100/\∀ o∈os,o<=1023
inductive Vk (H:Hp) (lo:Int):Sk->V->Prop
 | wh (o:Nat) (h:o<=1023):Vk H lo .wh (.int (lo+o))
 | tx:Vk H lo .tx (.str "")
 | my (D:Addr) (os:List Nat) (h:H D=some (.lst (ofs lo os))) (k:bw os):Vk H lo .my (.ref D)
 | us (D:Addr) (os:List Nat) (h:H D=some (.lst (ofs lo os))) (k:bw os):Vk H lo .us (.ref D)
 | ro (a D:Addr) (os:List Nat) (ha:H a=some (.tup [.str "",.ref D])) (h:H D=some (.lst (ofs lo os))) (k:bw os):Vk H lo .ro (.ref a)
theorem Vk.kt {H H':Hp} (k:Kt H H') {lo:Int} {s:Sk} {v:V} (h:Vk H lo s v):Vk H' lo s v:=by
 cases h with
 | wh o h=>exact .wh o h
 | tx=>exact .tx
 | my D os h kk=>exact .my D os (k.lst h) kk
 | us D os h kk=>exact .us D os (k.lst h) kk
 | ro a D os ha h kk=>exact .ro a D os (k.tup ha) (k.lst h) kk
def dM:Sk->Nat
 | .wh=>1 | .tx=>1 | .my=>2 | .us=>3 | .ro=>3
theorem aU {x y:Str} {i:Nat} {t rest:TS} {D:Ends} {σ:St} {H:Hp} (hσ:σ[i]?=some (some (.str x))) (h:¬ x=y) (hr:rest D σ H):Ul (oX (UD (iU o9 (Wd i) (tC (.str y)))) t UB) rest D σ H:=by
 refine UA hσ ?_
 show if decide (x=y)=true then _ else _
 rw [if_neg (by simpa using h)];exact hr
theorem dU {x y:Str} {i:Nat} {t rest:TS} {D:Ends} {σ:St} {H:Hp} (hσ:σ[i]?=some (some (.str x))) (h:x=y) (ht:t { D with nx:=rest D } σ H):Ul (oX (UD (iU o9 (Wd i) (tC (.str y)))) t UB) rest D σ H:=by
 refine UA hσ ?_
 show if decide (x=y)=true then _ else _
 rw [if_pos (by simpa using h)];exact ht
inductive mQ (vs:List V) (H:Hp) (Q:VK) (E_:XK):Prop
 | mk (B:Addr) (lo:Int) (h0:vs=[.ref B,.str "row"]) (h1:bR H lo B) (h2:∀ m,Xd H lo m .my->Q (.ref m) H)
theorem Ybe {Z0 Z3 Z1 Z4 Z2:Addr} {ao aj:Addr} {au aq:Addr} {aB aA:Addr} {aF aD:Addr} (R:g.Raw "shape_of" "shape_of" yh ["book","name"]):g.Fn (1) "shape_of" ["book","name"] (mQ):=by
 refine R.fn Hs (fun vs H Q E h=>by obtain ⟨B,lo,rfl,hB,q⟩:=h;rfl) fun f_ cdv A outer s H vs Q E hr h=>?_
 obtain ⟨B,lo,rfl,hB,q⟩:=h;refine ⟨_,(@Yd _ _ _ _ _ (@XR _ _ _ _ _ _ _ _ PassesOwn.never rfl (@Y1 _ _ _ _ (pv 0)) (@YK _ _ (2) _ Hs.nd rfl (.inl rfl) (by first | exact .inl rfl | exact .inr rfl | assumption)) (@Ye _ _ _ (@Yq _ _ _ _ _ _ _ _ (@Yo _ _ _ _ _ _ _ _ Yz (@Yy _ _ _ _ _ _ _ YM (pv 2) Yi (fun _ _=>rfl)) (pv 1) (Yk _)) (@Ye _ _ _ (@Yj _ _ _ _ (@Yy _ _ _ _ _ _ _ YM (pv 2) Yi (fun _ _=>rfl)))) Yl)) (by intro _;rfl)) (@Ye _ _ _ YU)),?_⟩;obtain ⟨p,m,h1,h2,h3⟩:=hB.ex;refine Yn fun R rr=>?_
 refine UN (K:=g.K) (xs:=[.ref p]) (fun c i σ H'=>c=B/\(∃ o,σ=[some (.ref B),some (.str "row"),o])/\H'=H/\i=0) (fun R r=>by walk_at "rd";exact r B _ ⟨rfl,⟨_,rfl⟩,rfl,rfl⟩) (fun c i σ H' _ ⟨e,_,e2,_⟩=>by subst e;rw [e2];exact aJ.of h1) ?_ ?_
 ·rintro c i x σ H' hx ⟨rfl,⟨o,rfl⟩,rfl,rfl⟩
  cases Option.some.inj hx
  walk_at "rd";exact ⟨_,aK.of h2,_,Ys (j:=0) rfl,rfl,YT rfl ⟨_,aK.of h2,_,Ys (j:=1) rfl,q m h3⟩⟩
 ·rintro c σ H' ⟨_,_,_,h⟩
  cases h
theorem Iw:(Str.ofString "")=S []:=by decide +kernel
inductive uL (K:W.Frag) (vs:List V) (H:Hp) (Q:VK) (E_:XK):Prop
 | mk (lo:Int) (a:Addr) (s:Sk) (v:V) (h0:vs=[.ref a,v]) (h1:Xd H lo a s) (h2:Vk H lo s v) (h3:∀ H',Yf H H'->Q (.bl true) H')
theorem Ybf {k:Nat} {Z0 Z3 Z1 Z4 Z2:Addr} {ao aj:Addr} {au aq:Addr} {aB aA:Addr} {aF aD:Addr} (R:g.Raw "has_form" "has_form" yp ["shape","value"]) (Zf:g.Fn k "is_whole_number" ["thing"] (bQ isI)) (iu:g.mg "all"=none) (Z5:g.mg "isinstance"=none) (aN:g.mg "len"=none) (aP:g.mg "list"=none) (bV:g.mg "str"=none) (Z6:g.mg "tuple"=none) (je:g.j7 "OF_ONE_PART" ([.str "many",.str "rising",.str "unlike"])):g.Fn (k+1) "has_form" ["shape","value"] (uL g.K):=by
 refine R.fn Ht (fun vs H Q E h=>by obtain ⟨lo,a,s,v,rfl,hS,hv,q⟩:=h;rfl) fun f_ cdv A outer s H vs Q E hr h=>?_
 obtain ⟨lo,a,s,v,rfl,hS,hv,q⟩:=h;refine ⟨_,(@Yd _ _ _ _ _ (@YD _ _ (2) _ _ _ _ Ht.nd rfl (.inl rfl) (@Yy _ _ _ _ _ _ _ YM (pv 0) Yi (fun _ _=>rfl)) (by rfl) (by first | exact .inl rfl | exact .inr rfl | assumption)) (@Yd _ _ _ _ _ (@Yq _ _ _ _ _ _ _ _ (@Yo _ _ _ _ _ _ _ _ Yz (pv 2) Yp (Yk _)) (@Ye _ _ _ (@Yj _ _ _ _ (@Xf _ _ _ _ _ _ _ (@Yv _ _ _ _ _ _ _ _ _ _ _ _ Zf hr (@Ya _ _ _ _ _ (pv 1) Yc (by rfl)) (by omega) (by rfl) (by rfl) (by decide) (by rfl) (by rfl)) (@Xa _ _ _ _ _ (@Ej _ _ _ _ _ _ _ _ _ _ _ _ VX VX (@Yy _ _ _ _ _ _ _ YM (pv 0) Yi (fun _ _=>rfl)) (pv 1) (@Yy _ _ _ _ _ _ _ YM (pv 0) Yi (fun _ _=>rfl)) (by with_unfolding_all rfl)))))) Yl) (@Yd _ _ _ _ _ (@Yq _ _ _ _ _ _ _ _ (@Yo _ _ _ _ _ _ _ _ Yz (pv 2) Yp (Yk _)) (@Ye _ _ _ (@Yj _ _ _ _ (@Xf _ _ _ _ _ _ _ (@YQ _ _ _ _ _ _ _ _ _ _ Z5 YO (@Ya _ _ _ _ _ (pv 1) (@Ya _ _ _ _ _ (@Y4 _ _ _ _ ("str") bV (by decide +kernel) (by rfl) (by rfl) (by decide) (by decide)) Yc (by rfl)) (by rfl)) (by decide +kernel) (by rfl) (by rfl) (by decide) (by decide) (by rfl) (by rfl)) (@Xa _ _ _ _ _ (@YQ _ _ _ _ _ _ _ _ _ _ iu (Qb rfl) (@Ya _ _ _ _ _ (@XF _ _ _ _ _ _ _ ([none,some 0]) ((["sign","shape"]:List Str)) _ (YJ 0) _ _ (.own (.cap (i:=0) rfl rfl (by first | exact .inl rfl | exact .inr rfl) .nil)) rfl (@Fp _ _ _ _ (pv 1)) (fun cl C s₀ H₀ fp pn=>(@YK _ _ (0) _ (show List.Nodup (["sign","shape"]:List Str) by decide +kernel) rfl (.inl rfl) (.inr rfl))) (fun cl C s₀ H₀ fp pn=>Xs) (fun cl C s₀ H₀ fp pn=>(@YV _ _ _ _ _ _ _ _ Np (pv 0) (@Yy _ _ _ _ _ _ _ (V0 (K:=g.K)) (pv 1) Yi (fun _ _=>rfl)) rfl)) (by intro x hx;simp at hx;first | (subst hx;exact .inl rfl) | (rcases hx with rfl | rfl<;>exact .inl rfl) | (rcases hx with rfl | rfl | rfl<;>exact .inl rfl) | (rcases hx with rfl | rfl | rfl | rfl<;>exact .inl rfl) | (rcases hx with rfl | rfl | rfl | rfl | rfl<;>exact .inl rfl)) (by rfl) (by decide) (by decide +kernel) (by intro _;rfl)) Yc (by rfl)) (by decide +kernel) (by rfl) (by rfl) (by decide) (by decide) (by rfl) (by rfl)))))) Yl) (@Yd _ _ _ _ _ (@Yq _ _ _ _ _ _ _ _ (@Yo _ _ _ _ _ _ _ _ Yz (pv 2) Yp (Yk _)) (@Ye _ _ _ (@Yj _ _ _ _ (@Xf _ _ _ _ _ _ _ (@YQ _ _ _ _ _ _ _ _ _ _ Z5 YO (@Ya _ _ _ _ _ (pv 1) (@Ya _ _ _ _ _ (@Y4 _ _ _ _ ("tuple") Z6 (by decide +kernel) (by rfl) (by rfl) (by decide) (by decide)) Yc (by rfl)) (by rfl)) (by decide +kernel) (by rfl) (by rfl) (by decide) (by decide) (by rfl) (by rfl)) (@Xa _ _ _ _ _ (@YV _ _ _ _ _ _ _ _ Yz (@YQ _ _ _ _ _ _ _ _ _ _ aN YW (@Ya _ _ _ _ _ (pv 1) Yc (by rfl)) (by decide +kernel) (by rfl) (by rfl) (by decide) (by decide) (by rfl) (by rfl)) (@YQ _ _ _ _ _ _ _ _ _ _ aN YW (@Ya _ _ _ _ _ (@Yy _ _ _ _ _ _ _ YM (pv 0) Yi (fun _ _=>rfl)) Yc (by rfl)) (by decide +kernel) (by rfl) (by rfl) (by decide) (by decide) (by rfl) (by rfl)) (Yk _)))))) Yl) (@Yd _ _ _ _ _ (@Yq _ _ _ _ _ _ _ _ (@Yo _ _ _ _ _ _ _ _ Yz (pv 2) Yp (Yk _)) (@Ye _ _ _ YU) Yl) (@Yd _ _ _ _ _ (@Yq _ _ _ _ _ _ _ _ (@Yo _ _ _ _ _ _ _ _ Yz (pv 2) Yp (Yk _)) (@Ye _ _ _ YU) Yl) (@Yd _ _ _ _ _ (@Yq _ _ _ _ _ _ _ _ (@Yo _ _ _ _ _ _ _ _ QC (pv 2) (@Gh _ _ _ _ _ je (by rfl) (by rfl) (by decide)) rfl) (@Ye _ _ _ (@Yj _ _ _ _ (@YQ _ _ _ _ _ _ _ _ _ _ Z5 YO (@Ya _ _ _ _ _ (pv 1) (@Ya _ _ _ _ _ (@Y4 _ _ _ _ ("list") aP (by decide +kernel) (by rfl) (by rfl) (by decide) (by decide)) Yc (by rfl)) (by rfl)) (by decide +kernel) (by rfl) (by rfl) (by decide) (by decide) (by rfl) (by rfl)))) Yl) (@Ye _ _ _ (@Yj _ _ _ _ Xq))))))))),?_⟩
 cases hv with
 | wh o ho =>
  have hS:H a=some (.tup [.str "whole",.int lo,.int (lo+1023)]):=hS;refine Yn fun R rr=>?_
  walk_at "rd";refine ⟨_,aK.of hS,_,Ys (j:=0) rfl,rr _ _ (dU rfl rfl ?_)⟩;walk_at "rd";refine ⟨.int (lo+o),.int (lo+o),rfl,⟨[],.int _⟩,_,rfl,U9 ⟨_,aK.of hS,_,Ys (j:=1) rfl,_,rfl,YT (by omega) ⟨_,aK.of hS,_,Ys (j:=2) rfl,_,rfl,?_⟩⟩⟩;rw [decide_eq_true (by omega)];exact q H (.refl _)
 | tx =>
  have hS:H a=some (.tup [.str "text",.str "ab"]):=hS;refine Yn fun R rr=>?_
  walk_at "rd";refine ⟨_,aK.of hS,_,Ys (j:=0) rfl,rr _ _ (aU rfl (by decide +kernel) (dU rfl rfl ?_))⟩;walk_at "rd";refine ⟨_,rfl,_,.str _,true,rfl,YT rfl ?_⟩;refine Gi (l:=[]) [] (fun R r=>by walk_at "rd";rw [Iw];exact r) rfl (by simp) (fun i c y H' h=>by cases h) fun D H' gD sm hD=>⟨D,rfl,[],aJ.of hD,q H' sm⟩
 | my D os hD hk =>
  obtain ⟨w,h0,h1⟩:=hS;refine Yn fun R rr=>?_
  walk_at "rd";refine ⟨_,aK.of h0,_,Ys (j:=0) rfl,rr _ _ (aU rfl (by decide +kernel) (aU rfl (by decide +kernel) (aU rfl (by decide +kernel) (aU rfl (by decide +kernel) (aU rfl (by decide +kernel) ?_)))))⟩;walk_at "rd";exact fun c hc=>⟨_,.inr hc,rfl,rfl,YT (by decide +kernel) ⟨_,rfl,_,.lst hD,true,rfl,q H (.refl _)⟩⟩
 | us D os hD hk =>
  have hS:H a=some (.tup [.str "use",.str "row"]):=hS;refine Yn fun R rr=>?_
  walk_at "rd";refine ⟨_,aK.of hS,_,Ys (j:=0) rfl,rr _ _ (aU rfl (by decide +kernel) (aU rfl (by decide +kernel) (aU rfl (by decide +kernel) (aU rfl (by decide +kernel) (aU rfl (by decide +kernel) ?_)))))⟩;walk_at "rd";exact fun c hc=>⟨_,.inr hc,rfl,rfl,Yu (by decide +kernel) (q H (.refl _))⟩
 | ro a' D os ha hD hk =>
  obtain ⟨T,t,m,w,h1,h2,h3,h4,h5⟩:=hS;refine Yn fun R rr=>?_
  walk_at "rd";refine ⟨_,aK.of h1,_,Ys (j:=0) rfl,rr _ _ (aU rfl (by decide +kernel) (aU rfl (by decide +kernel) (dU rfl rfl ?_)))⟩;walk_at "rd";refine ⟨_,rfl,_,.tup ha,true,rfl,U9 ⟨_,.inr (aK.of ha),_,aK.of h1,_,Ys (j:=1) rfl,_,rfl,_,.inr (aK.of h2),?_⟩⟩;exact q H (.refl _)
def uM (H:Hp) (lo:Int) (ts:List Addr) (L:List (Sk×V)):Prop:=ts.length=L.length/\∀ (i:Nat) t w,ts[i]?=some t->L[i]?=some w->∃ p,H t=some (.tup [.ref p,w.2])/\Xd H lo p w.1/\Vk H lo w.1 w.2
inductive Wi (H:Hp) (lo:Int):Sk->V->List (Sk×V)->Prop
 | wh (o:Nat) (ho:o<=1023):Wi H lo .wh (.int (lo+o)) []
 | tx:Wi H lo .tx (.str "") []
 | my (D:Addr) (os:List Nat) (h:H D=some (.lst (ofs lo os))) (k:bw os):Wi H lo .my (.ref D) ((ofs lo os).map fun v=>(.wh,v))
 | us (D:Addr) (os:List Nat) (h:H D=some (.lst (ofs lo os))) (k:bw os):Wi H lo .us (.ref D) [(.my,.ref D)]
 | ro (a D:Addr) (os:List Nat) (ha:H a=some (.tup [.str "",.ref D])) (h:H D=some (.lst (ofs lo os))) (k:bw os):Wi H lo .ro (.ref a) [(.tx,.str ""),(.my,.ref D)]
theorem Wi.lv {H:Hp} {lo:Int} {s:Sk} {v:V} {L:List (Sk×V)} (h:Wi H lo s v L):∀ w∈L,dM w.1<dM s:=by
 cases h with
 | wh=>intro w h;cases h
 | tx=>intro w h;cases h
 | my D os=>intro w hw;obtain ⟨z,_,rfl⟩:=List.mem_map.mp hw;simp [dM]
 | us=>intro w hw;cases List.mem_singleton.mp hw;simp [dM]
 | ro=>intro w hw;simp only [List.mem_cons,List.not_mem_nil,or_false] at hw;rcases hw with rfl | rfl<;>simp [dM]
theorem Iz {H:Hp} {lo:Int} {os:List Nat} {v:V} {i:Nat} (k:bw os) (h:(ofs lo os)[i]?=some v):Vk H lo .wh v:=by
 rw [ofs,List.getElem?_map] at h
 obtain ⟨o,ho,rfl⟩:=Option.map_eq_some_iff.mp h;exact .wh o (k.2 o (List.mem_of_getElem? ho))
inductive uN (K:W.Frag) (vs:List V) (H:Hp) (Q:VK) (E_:XK):Prop
 | mk (B:Addr) (lo:Int) (a:Addr) (s:Sk) (v:V) (h0:vs=[.ref B,.ref a,v]) (h1:bR H lo B) (h2:Xd H lo a s) (h3:Vk H lo s v) (h4:∀ D ts L H',Yf H H'->H D=none->H' D=some (.lst (ts.map V.ref))->ts.length<=100->uM H' lo ts L->Wi H lo s v L->Q (.ref D) H')
theorem Z2v {k:Nat} {Z0 Z3 Z1 Z4 Z2:Addr} {ao aj:Addr} {au aq:Addr} {aB aA:Addr} {aF aD:Addr} (R:g.Raw "things_within" "things_within" yq ["book","shape","value"]) (nY:g.Fn k "shape_of" ["book","name"] (mQ)) (aP:g.mg "list"=none) (bM:g.mg "zip"=none) (je:g.j7 "OF_ONE_PART" ([.str "many",.str "rising",.str "unlike"])):g.Fn (k+1) "things_within" ["book","shape","value"] (uN g.K):=by
 refine R.fn Hu (fun vs H Q E h=>by obtain ⟨B,lo,a,s,v,rfl,hB,hS,hv,q⟩:=h;rfl) fun f_ cdv A outer s H vs Q E hr h=>?_
 obtain ⟨B,lo,a,s,v,rfl,hB,hS,hv,q⟩:=h;refine ⟨_,(@Yd _ _ _ _ _ (@YD _ _ (3) _ _ _ _ Hu.nd rfl (.inl rfl) (@Yy _ _ _ _ _ _ _ YM (pv 1) Yi (fun _ _=>rfl)) (by rfl) (by first | exact .inl rfl | exact .inr rfl | assumption)) (@Yd _ _ _ _ _ (@Yq _ _ _ _ _ _ _ _ (@Yo _ _ _ _ _ _ _ _ Yz (pv 3) Yp (Yk _)) (@Ye _ _ _ (@Yj _ _ _ _ (@Rt _ _ _ _ _ _ _ _ rfl aP rfl bM (@Ya _ _ _ _ _ (@Yy _ _ _ _ _ _ _ YM (pv 1) Yi (fun _ _=>rfl)) (@Ya _ _ _ _ _ (pv 2) Yc (by rfl)) (by rfl)) (by rfl) (by rfl) (by rfl)))) Yl) (@Yd _ _ _ _ _ (@Yq _ _ _ _ _ _ _ _ (@Yo _ _ _ _ _ _ _ _ Yz (pv 3) Yp (Yk _)) (@Ye _ _ _ YU) Yl) (@Yd _ _ _ _ _ (@Yq _ _ _ _ _ _ _ _ (@Yo _ _ _ _ _ _ _ _ Yz (pv 3) Yp (Yk _)) (@Ye _ _ _ (@Yj _ _ _ _ (@YY _ _ _ _ (@Ya _ _ _ _ _ (@YF _ _ _ _ _ (@Ya _ _ _ _ _ (@Yv _ _ _ _ _ _ _ _ _ _ _ _ nY hr (@Ya _ _ _ _ _ (pv 0) (@Ya _ _ _ _ _ (@Yy _ _ _ _ _ _ _ YM (pv 1) Yi (fun _ _=>rfl)) Yc (by rfl)) (by rfl)) (by omega) (by rfl) (by rfl) (by decide) (by rfl) (by rfl)) (@Ya _ _ _ _ _ (pv 2) Yc (by rfl)) (by rfl))) Yc (YG _ _ _ _ _))))) Yl) (@Yd _ _ _ _ _ (@Yq _ _ _ _ _ _ _ _ (@Wz _ _ _ _ _ _ _ (@Yo _ _ _ _ _ _ _ _ Yz (pv 3) Yp (Yk _)) (@WK _ _ _ _ (@Yo _ _ _ _ _ _ _ _ QC (pv 3) (@Gh _ _ _ _ _ je (by rfl) (by rfl) (by decide)) rfl))).pt (@Ye _ _ _ (@Yj _ _ _ _ (@XF _ _ _ _ _ _ _ ([none,some 1]) ((["thing","shape"]:List Str)) _ (YJ 0) _ _ (.own (.cap (i:=1) rfl rfl (by first | exact .inl rfl | exact .inr rfl) .nil)) rfl (@Y1 _ _ _ _ (pv 2)) (fun cl C s₀ H₀ fp pn=>(@YK _ _ (0) _ (show List.Nodup (["thing","shape"]:List Str) by decide +kernel) rfl (.inl rfl) (.inr rfl))) (fun cl C s₀ H₀ fp pn=>Xs) (fun cl C s₀ H₀ fp pn=>(@YF _ _ _ _ _ (@Ya _ _ _ _ _ (@Yy _ _ _ _ _ _ _ (V0 (K:=g.K)) (pv 1) Yi (fun _ _=>rfl)) (@Ya _ _ _ _ _ (pv 0) Yc (by rfl)) (by rfl)))) (by intro x hx;simp at hx;first | (subst hx;exact .inl rfl) | (rcases hx with rfl | rfl<;>exact .inl rfl) | (rcases hx with rfl | rfl | rfl<;>exact .inl rfl) | (rcases hx with rfl | rfl | rfl | rfl<;>exact .inl rfl) | (rcases hx with rfl | rfl | rfl | rfl | rfl<;>exact .inl rfl)) (by rfl) (by decide) (by decide +kernel) (by intro _;rfl)))) Yl) (@Ye _ _ _ (@Yj _ _ _ _ (@YY _ _ _ _ Yc)))))))),?_⟩
 cases hv with
 | wh o ho =>
  have hS:H a=some (.tup [.str "whole",.int lo,.int (lo+1023)]):=hS;refine Yn fun R rr=>?_
  walk_at "rd";refine ⟨_,aK.of hS,_,Ys (j:=0) rfl,rr _ _ (aU rfl (by decide +kernel) (aU rfl (by decide +kernel) (aU rfl (by decide +kernel) ?_)))⟩;walk_at "rd";refine Yu (by decide +kernel) fun c hc=>⟨_,.inr hc,rfl,rfl,Yu (by decide +kernel) ⟨few (by decide),fun p hp=>?_⟩⟩
  exact q p [] [] _ (.aG hp _) hp Yb (by decide) ⟨rfl,fun i t w h=>by cases h⟩ (.wh o ho)
 | tx =>
  have hS:H a=some (.tup [.str "text",.str "ab"]):=hS;refine Yn fun R rr=>?_
  walk_at "rd";refine ⟨_,aK.of hS,_,Ys (j:=0) rfl,rr _ _ (aU rfl (by decide +kernel) (aU rfl (by decide +kernel) (aU rfl (by decide +kernel) ?_)))⟩;walk_at "rd";refine Yu (by decide +kernel) fun c hc=>⟨_,.inr hc,rfl,rfl,Yu (by decide +kernel) ⟨few (by decide),fun p hp=>?_⟩⟩
  exact q p [] [] _ (.aG hp _) hp Yb (by decide) ⟨rfl,fun i t w h=>by cases h⟩ .tx
 | my D os hD hk =>
  obtain ⟨e,h0,h1⟩:=hS;refine Yn fun R rr=>?_
  walk_at "rd";refine ⟨_,aK.of h0,_,Ys (j:=0) rfl,rr _ _ (aU rfl (by decide +kernel) (aU rfl (by decide +kernel) (aU rfl (by decide +kernel) ?_)))⟩;walk_at "rd";refine Yu (by decide +kernel) fun c hc=>⟨_,.inr hc,rfl,rfl,YT (by decide +kernel) ?_⟩
  have hl:(ofs lo os).length=os.length:=List.length_map _;have hk1:=hk.1;refine Rz (K:=g.K) (xs:=ofs lo os) ((ofs lo os).map fun u=>[.ref e,u]) (fun R r=>by walk_at "rd";exact r D H (.refl _) (aJ.of hD)) (by simp) (by omega) ?_ ?_
  ·intro i u y H' hu hy sm R r
   rw [List.getElem?_map,hu] at hy
   cases Option.some.inj hy
   walk_at "rd";exact ⟨_,aK.of (sm _ _ h0),_,Ys (j:=1) rfl,few (by decide),fun p hp=>r p _ (.aG hp _) Yb⟩
  ·intro D2 as H' gD sm hd hal hat
   refine q D2 as _ H' sm gD hd (by omega) ⟨by rw [List.length_map,hal],fun i t w h1' h2'=>?_⟩ (.my D os hD hk);rw [List.getElem?_map] at h2'
   obtain ⟨u,hu,rfl⟩:=Option.map_eq_some_iff.mp h2';exact ⟨e,hat i t _ h1' (by rw [List.getElem?_map,hu];rfl),sm _ _ h1,Iz hk hu⟩
 | us D os hD hk =>
  have hS:H a=some (.tup [.str "use",.str "row"]):=hS;refine Yn fun R rr=>?_
  walk_at "rd";refine ⟨_,aK.of hS,_,Ys (j:=0) rfl,rr _ _ (aU rfl (by decide +kernel) (aU rfl (by decide +kernel) (dU rfl rfl ?_)))⟩;walk_at "rd";refine ⟨_,aK.of hS,_,Ys (j:=1) rfl,B,lo,rfl,hB,fun m hm=>⟨few (by decide),fun p gp=>⟨few (by decide),fun L gL=>?_⟩⟩⟩;have s1:=Yf.aG gp (.tup [.ref m,.ref D]);have s2:=Yf.aG gL (.lst [.ref p]);have s12:=s1.trans s2;refine q L [p] _ _ s12 (s1.free gL) Yb (by simp) ⟨rfl,fun i t w h1 h2=>?_⟩ (.us D os hD hk)
  match i,h1,h2 with
  | 0,h1,h2 =>
   cases Option.some.inj h1
   cases Option.some.inj h2
   exact ⟨m,s2 _ _ Yb,hm.tp (Xe (YA s12)),.my D os (s12 _ _ hD) hk⟩
 | ro a' D os ha hD hk =>
  obtain ⟨T,t,m,w,h1,h2,h3,h4,h5⟩:=hS;refine Yn fun R rr=>?_
  walk_at "rd";refine ⟨_,aK.of h1,_,Ys (j:=0) rfl,rr _ _ (dU rfl rfl ?_)⟩;walk_at "rd";refine ⟨_,aK.of h1,_,Ys (j:=1) rfl,_,rfl,_,aK.of h2,_,aK.of ha,rfl,fun l as H2 hl s2 hd hal hat=>?_⟩;refine q l as _ _ s2 hl hd (by rw [hal];simp) ⟨hal,fun i t' w' e1 e2=>?_⟩ (.ro a' D os ha hD hk)
  match i,e1,e2 with
  | 0,e1,e2 =>
   cases Option.some.inj e2
   exact ⟨t,(hat 0 t' _ _ e1 rfl rfl).2,s2 _ _ h3,.tx⟩
  | 1,e1,e2 =>
   cases Option.some.inj e2
   exact ⟨m,(hat 1 t' _ _ e1 rfl rfl).2,⟨w,s2 _ _ h4,s2 _ _ h5⟩,.my D os (s2 _ _ hD) hk⟩
def kY (H:Hp) (ks:List Addr):Prop:=∀ k∈ks,∃ (n:Nat) (r:List V),H k=some (.tup (.int (n:Nat)::r))
theorem kY.nums {H:Hp}:∀ {ks:List Addr},kY H ks->∃ ns:List Nat,ns.length=ks.length/\∀ (i:Nat) k n,ks[i]?=some k->ns[i]?=some n->∃ r,H k=some (.tup (.int (n:Nat)::r))
 | [],_=>⟨[],rfl,fun i k n h=>by cases h⟩
 | k::ks,h=>by
  obtain ⟨ns,hl,hn⟩:=kY.nums (ks:=ks) fun a ha=>h a (List.mem_cons_of_mem _ ha)
  obtain ⟨n,r,e⟩:=h k (List.mem_cons_self ..);refine ⟨n::ns,by simp [hl],fun i a m h1 h2=>?_⟩
  match i,h1,h2 with
  | 0,h1,h2=>cases Option.some.inj h1;cases Option.some.inj h2;exact ⟨r,e⟩
  | i+1,h1,h2=>exact hn i a m h1 h2
inductive kZ (K:W.Frag) (vs:List V) (H:Hp) (Q:VK) (E_:XK):Prop
 | mk (b:Addr) (ks:List Addr) (h0:vs=[.ref b]) (h1:H b=some (.lst (ks.map V.ref))) (h2:kY H ks) (h3:ks.length<=100) (h4:∀ (n:Nat) H',Yf H H'->Q (.int (n:Nat)) H')
theorem YeW (l:List Nat):(l.map fun n=>((n:Nat):Int)).sum=((l.sum:Nat):Int):=by
 induction l with
 | nil=>rfl
 | cons a l ih=>rw [List.map_cons,List.sum_cons,ih,List.sum_cons,Int.natCast_add]
theorem Z2F {Z0 Z3 Z1 Z4 Z2:Addr} {ao aj:Addr} {au aq:Addr} {aB aA:Addr} {aF aD:Addr} (R:g.Raw "sum_of_sizes" "sum_of_sizes" yr ["keys"]) (dW:g.mg "sum"=none):g.Fn (1) "sum_of_sizes" ["keys"] (kZ g.K):=by
 refine R.fn Z2B (fun vs H Q E h=>by obtain ⟨b,ks,rfl,hb,hk,hl,q⟩:=h;rfl) fun f_ cdv A outer s H vs Q E hr h=>?_
 obtain ⟨b,ks,rfl,hb,hk,hl,q⟩:=h;refine ⟨_,(@Ye _ _ _ (@Yj _ _ _ _ (@YQ _ _ _ _ _ _ _ _ _ _ dW Vz (@Ya _ _ _ _ _ (@XF _ _ _ _ _ _ _ ([none]) ((["key"]:List Str)) _ (YJ 0) _ _ (.own .nil) rfl (@Y1 _ _ _ _ (pv 0)) (fun cl C s₀ H₀ fp pn=>(@YK _ _ (0) _ (show List.Nodup (["key"]:List Str) by decide +kernel) rfl (.inl rfl) (.inr rfl))) (fun cl C s₀ H₀ fp pn=>Xs) (fun cl C s₀ H₀ fp pn=>(@Yy _ _ _ _ _ _ _ (V0 (K:=g.K)) (pv 0) Yi (fun _ _=>rfl))) (by intro x hx;simp at hx) (by rfl) (by decide) (by decide +kernel) (by intro _;rfl)) Yc (by rfl)) (by decide +kernel) (by rfl) (by rfl) (by decide) (by decide) (by rfl) (by rfl)))),?_⟩;obtain ⟨ns,hn,hk⟩:=hk.nums;walk_at "rd";refine QI (K:=g.K) (xs:=ks.map V.ref) ((ns.map fun n=>((n:Nat):Int)).map V.int) (fun R r=>by walk_at "rd";exact r b H (.refl _) (aJ.of hb)) (by simp [hn]) (by simp;omega) ?_ ?_
 ·intro i x y H' hx hy sm R r
  rw [List.getElem?_map] at hx
  obtain ⟨k,hk1,rfl⟩:=Option.map_eq_some_iff.mp hx;rw [List.getElem?_map,List.getElem?_map] at hy
  obtain ⟨z,hz,rfl⟩:=Option.map_eq_some_iff.mp hy;obtain ⟨n,hn,rfl⟩:=Option.map_eq_some_iff.mp hz;obtain ⟨r0,e⟩:=hk i k n hk1 hn;walk_at "rd";exact ⟨_,aK.of (sm _ _ e),_,Ys (j:=0) rfl,r H' (.refl _)⟩
 ·intro D H' hD sm hd
  refine ⟨D,rfl,_,aJ.of hd,?_⟩;rw [YeW];exact q _ H' sm
inductive uO (K:W.Frag) (vs:List V) (H:Hp) (Q:VK) (E_:XK):Prop
 | mk (a e b:Addr) (ks:List Addr) (h0:vs=[.ref a,.ref b]) (h1:H a=some (.tup [.str "many",.ref e])) (h2:H b=some (.lst (ks.map V.ref))) (h3:kY H ks) (h4:ks.length<=100) (h5:∀ k (n:Nat) r H',Yf H H'->H' k=some (.tup (.int (n:Nat)::r))->Q (.ref k) H')
theorem Ybg {k:Nat} {Z0 Z3 Z1 Z4 Z2:Addr} {ao aj:Addr} {au aq:Addr} {aB aA:Addr} {aF aD:Addr} (R:g.Raw "list_key" "list_key" yt ["shape","keys"]) (zK:g.Fn k "sum_of_sizes" ["keys"] (kZ g.K)) (aN:g.mg "len"=none) (Z6:g.mg "tuple"=none):g.Fn (k+1) "list_key" ["shape","keys"] (uO g.K):=by
 refine R.fn yu (fun vs H Q E h=>by obtain ⟨a,e,b,ks,rfl,ha,hb,hk,hl,q⟩:=h;rfl) fun f_ cdv A outer s H vs Q E hr h=>?_
 obtain ⟨a,e,b,ks,rfl,ha,hb,hk,hl,q⟩:=h;refine ⟨_,(@Yd _ _ _ _ _ (@YD _ _ (2) _ _ _ _ yu.nd rfl (.inl rfl) (@Yy _ _ _ _ _ _ _ YM (pv 0) Yi (fun _ _=>rfl)) (by rfl) (by first | exact .inl rfl | exact .inr rfl | assumption)) (@Yd _ _ _ _ _ (@YD _ _ (3) _ _ _ _ yu.nd rfl (.inl rfl) (@Yx _ _ _ _ _ _ _ _ Xm (@YQ _ _ _ _ _ _ _ _ _ _ aN YW (@Ya _ _ _ _ _ (pv 1) Yc (by rfl)) (by decide +kernel) (by rfl) (by rfl) (by decide) (by decide) (by rfl) (by rfl)) (@Yv _ _ _ _ _ _ _ _ _ _ _ _ zK hr (@Ya _ _ _ _ _ (pv 1) Yc (by rfl)) (by omega) (by rfl) (by rfl) (by decide) (by rfl) (by rfl))) (by rfl) (by first | exact .inl rfl | exact .inr rfl | assumption)) (@Yd _ _ _ _ _ (@Yq _ _ _ _ _ _ _ _ (@Yo _ _ _ _ _ _ _ _ Yz (pv 2) Yp (Yk _)) (@Ye _ _ _ (@Yj _ _ _ _ (@Vp _ _ _ _ _ _ _ _ _ _ Z6 XA (@Ya _ _ _ _ _ (@Yx _ _ _ _ _ _ _ _ XB (@YY _ _ _ _ (@Ya _ _ _ _ _ (pv 3) Yc (by rfl))) (pv 1)) Yc (by rfl)) (by decide +kernel) (by rfl) (by rfl) (by decide) (by decide) (by rfl) (by rfl)))) Yl) (@Yd _ _ _ _ _ YU (@Yd _ _ _ _ _ YU (@Ye _ _ _ YU)))))),?_⟩;refine Yn fun R rr=>?_
 walk_at "rd";refine ⟨_,aK.of ha,_,Ys (j:=0) rfl,rr _ _ (Yn fun R rr=>?_)⟩;walk_at "rd";refine ⟨_,.inl (aJ.of hb),b,ks,rfl,hb,hk,hl,fun n H1 s1=>⟨_,rfl,rr _ _ (dU rfl rfl ?_)⟩⟩;walk_at "rd";rw [<- Int.natCast_add];refine ⟨few (by decide),fun X gX=>?_⟩;have sX:=Yf.aG gX (.lst [.int (((ks.map V.ref).length+n:Nat):Int)]);refine ⟨_,Yb,_,sX _ _ (s1 _ _ hb),few (by simp;omega),fun Y gY=>⟨_,.inl ⟨aJ.of Yb,fun Z gZ=>?_⟩⟩⟩;exact q _ _ _ _ (((s1.trans sX).trans (.aG gY _)).trans (.aG gZ _)) Yb
inductive uP (K:W.Frag) (vs:List V) (H:Hp) (Q:VK) (E_:XK):Prop
 | mk (lo:Int) (a:Addr) (s:Sk) (v:V) (b:Addr) (ks:List Addr) (h0:vs=[.ref a,v,.ref b]) (h1:Xd H lo a s) (h2:Vk H lo s v) (h3:H b=some (.lst (ks.map V.ref))) (h4:kY H ks) (h5:ks.length<=100) (h6:(s = .us->ks.length=1)) (h7:∀ k (n:Nat) r H',Yf H H'->H' k=some (.tup (.int (n:Nat)::r))->Q (.ref k) H')
theorem Ybh {k:Nat} {Z0 Z3 Z1 Z4 Z2:Addr} {ao aj:Addr} {au aq:Addr} {aB aA:Addr} {aF aD:Addr} (R:g.Raw "key_made" "key_made" yw ["shape","value","keys"]) (zK:g.Fn k "sum_of_sizes" ["keys"] (kZ g.K)) (nZ:g.Fn k "list_key" ["shape","keys"] (uO g.K)) (aN:g.mg "len"=none) (Z6:g.mg "tuple"=none):g.Fn (k+1) "key_made" ["shape","value","keys"] (uP g.K):=by
 refine R.fn Hv (fun vs H Q E h=>by obtain ⟨lo,a,s,v,b,ks,rfl,hS,hv,hb,hk,hl,h1k,q⟩:=h;rfl) fun f_ cdv A outer s H vs Q E hr h=>?_
 obtain ⟨lo,a,s,v,b,ks,rfl,hS,hv,hb,hk,hl,h1k,q⟩:=h;refine ⟨_,(@Yd _ _ _ _ _ (@YD _ _ (3) _ _ _ _ Hv.nd rfl (.inl rfl) (@Yy _ _ _ _ _ _ _ YM (pv 0) Yi (fun _ _=>rfl)) (by rfl) (by first | exact .inl rfl | exact .inr rfl | assumption)) (@Yd _ _ _ _ _ (@Yq _ _ _ _ _ _ _ _ (@Yo _ _ _ _ _ _ _ _ Yz (pv 3) Yp (Yk _)) (@Ye _ _ _ (@Yj _ _ _ _ (@YF _ _ _ _ _ (@Ya _ _ _ _ _ (@Ey _ _ _ _ _ _ _ _ _ F.plainAttrs_int F.slot_int_bit_length F.type_int_bit_length Gf (@Yx _ _ _ _ _ _ _ _ VF (pv 1) (@Yy _ _ _ _ _ _ _ YM (pv 0) Yi (fun _ _=>rfl))) (by rfl) (by rfl)) (@Ya _ _ _ _ _ (pv 1) Yc (by rfl)) (by rfl))))) Yl) (@Yd _ _ _ _ _ (@Yq _ _ _ _ _ _ _ _ (@Yo _ _ _ _ _ _ _ _ Yz (pv 3) Yp (Yk _)) (@Ye _ _ _ (@Yj _ _ _ _ (@Vp _ _ _ _ _ _ _ _ _ _ Z6 XA (@Ya _ _ _ _ _ (@Yx _ _ _ _ _ _ _ _ XB (@YY _ _ _ _ (@Ya _ _ _ _ _ (@YQ _ _ _ _ _ _ _ _ _ _ aN WM (@Ya _ _ _ _ _ (pv 1) Yc (by rfl)) (by decide +kernel) (by rfl) (by rfl) (by decide) (by decide) (by rfl) (by rfl)) Yc (by rfl))) (@XF _ _ _ _ _ _ _ ([none,some 0]) ((["sign","shape"]:List Str)) _ (YJ 0) _ _ (.own (.cap (i:=0) rfl rfl (by first | exact .inl rfl | exact .inr rfl) .nil)) rfl (@Fp _ _ _ _ (pv 1)) (fun cl C s₀ H₀ fp pn=>(@YK _ _ (0) _ (show List.Nodup (["sign","shape"]:List Str) by decide +kernel) rfl (.inl rfl) (.inr rfl))) (fun cl C s₀ H₀ fp pn=>Xs) (fun cl C s₀ H₀ fp pn=>(@Rc _ (g.K) _ _ _ _ _ _ _ _ _ _ _ F.plainAttrs_str F.slot_str_find F.type_str_find Ra (@Yy _ _ _ _ _ _ _ (V0 (K:=g.K)) (pv 1) Yi (fun _ _=>rfl)) (@Ya _ _ _ _ _ (pv 0) Yc (by rfl)) (by rfl) (by rfl) (by rfl) (by rfl) (by rfl) (by rfl))) (by intro x hx;simp at hx;first | (subst hx;exact .inl rfl) | (rcases hx with rfl | rfl<;>exact .inl rfl) | (rcases hx with rfl | rfl | rfl<;>exact .inl rfl) | (rcases hx with rfl | rfl | rfl | rfl<;>exact .inl rfl) | (rcases hx with rfl | rfl | rfl | rfl | rfl<;>exact .inl rfl)) (by rfl) (by decide) (by decide +kernel) (by intro _;rfl))) Yc (by rfl)) (by decide +kernel) (by rfl) (by rfl) (by decide) (by decide) (by rfl) (by rfl)))) Yl) (@Yd _ _ _ _ _ (@Yq _ _ _ _ _ _ _ _ (@Yo _ _ _ _ _ _ _ _ Yz (pv 3) Yp (Yk _)) (@Ye _ _ _ (@Yj _ _ _ _ (@Vp _ _ _ _ _ _ _ _ _ _ Z6 XA (@Ya _ _ _ _ _ (@Yx _ _ _ _ _ _ _ _ XB (@YY _ _ _ _ (@Ya _ _ _ _ _ (@Yv _ _ _ _ _ _ _ _ _ _ _ _ zK hr (@Ya _ _ _ _ _ (pv 2) Yc (by rfl)) (by omega) (by rfl) (by rfl) (by decide) (by rfl) (by rfl)) Yc (by rfl))) (pv 2)) Yc (by rfl)) (by decide +kernel) (by rfl) (by rfl) (by decide) (by decide) (by rfl) (by rfl)))) Yl) (@Yd _ _ _ _ _ (@Yq _ _ _ _ _ _ _ _ (@Yo _ _ _ _ _ _ _ _ Yz (pv 3) Yp (Yk _)) (@Ye _ _ _ YU) Yl) (@Yd _ _ _ _ _ (@Yq _ _ _ _ _ _ _ _ (@Yo _ _ _ _ _ _ _ _ Yz (pv 3) Yp (Yk _)) (@Ye _ _ _ (@Yj _ _ _ _ (@YF _ _ _ _ _ (@Ya _ _ _ _ _ (@Yx _ _ _ _ _ _ _ _ Xm Yi (@Yy _ _ _ _ _ _ _ YM (@Yy _ _ _ _ _ _ _ Y8 (pv 2) Yi (fun _ _=>rfl)) Yi (fun _ _=>rfl))) (@Ya _ _ _ _ _ (@Yy _ _ _ _ _ _ _ Y8 (pv 2) Yi (fun _ _=>rfl)) Yc (by rfl)) (by rfl))))) Yl) (@Ye _ _ _ (@Yj _ _ _ _ (@Yv _ _ _ _ _ _ _ _ _ _ _ _ nZ hr (@Ya _ _ _ _ _ (pv 0) (@Ya _ _ _ _ _ (pv 2) Yc (by rfl)) (by rfl)) (by omega) (by rfl) (by rfl) (by decide) (by rfl) (by rfl)))))))))),?_⟩
 cases hv with
 | wh o ho =>
  have hS:H a=some (.tup [.str "whole",.int lo,.int (lo+1023)]):=hS;refine Yn fun R rr=>?_
  walk_at "rd";refine ⟨_,aK.of hS,_,Ys (j:=0) rfl,rr _ _ (dU rfl rfl ?_)⟩;walk_at "rd";refine ⟨_,aK.of hS,_,Ys (j:=1) rfl,_,rfl,rfl,few (by decide),fun p hp=>?_⟩;exact q p _ _ _ (.aG hp _) Yb
 | tx =>
  have hS:H a=some (.tup [.str "text",.str "ab"]):=hS;refine Yn fun R rr=>?_
  walk_at "rd";refine ⟨_,aK.of hS,_,Ys (j:=0) rfl,rr _ _ (aU rfl (by decide +kernel) (dU rfl rfl ?_))⟩;walk_at "rd";have e0:(Str.ofString "").length=0:=by decide +kernel
  rw [e0];refine ⟨few (by decide),few (by decide),fun p gp=>?_⟩;have s1:=Yf.aG gp (.lst [.int ((0:Nat):Int)]);refine Gi (l:=[]) [] (fun R r=>by walk_at "rd";rw [Iw];exact r) rfl (by simp) (fun i c y H' h=>by cases h) fun D H' gD sm hD=>⟨D,rfl,_,sm _ _ Yb,_,hD,few (by decide),fun Y gY=>⟨_,.inl ⟨aJ.of Yb,fun Z gZ=>q Z 0 _ _ (((s1.trans sm).trans (.aG gY _)).trans (.aG gZ _)) Yb⟩⟩⟩
 | my D os hD IK =>
  obtain ⟨e,h0,h1⟩:=hS;refine Yn fun R rr=>?_
  walk_at "rd";refine ⟨_,aK.of h0,_,Ys (j:=0) rfl,rr _ _ (aU rfl (by decide +kernel) (aU rfl (by decide +kernel) (aU rfl (by decide +kernel) (aU rfl (by decide +kernel) (aU rfl (by decide +kernel) ?_)))))⟩;walk_at "rd";exact ⟨a,e,b,ks,rfl,h0,hb,hk,hl,fun k n r H' s' hk'=>q k n r H' s' hk'⟩
 | us D os hD IK =>
  have hS:H a=some (.tup [.str "use",.str "row"]):=hS;have h1k:=h1k rfl
  match ks,h1k with
  | [k0],_ =>
  obtain ⟨n0,r0,e0⟩:=hk k0 (List.mem_cons_self ..);refine Yn fun R rr=>?_
  walk_at "rd";refine ⟨_,aK.of hS,_,Ys (j:=0) rfl,rr _ _ (aU rfl (by decide +kernel) (aU rfl (by decide +kernel) (aU rfl (by decide +kernel) (aU rfl (by decide +kernel) (dU rfl rfl ?_)))))⟩;walk_at "rd";refine ⟨_,aJ.of hb,_,Ys (j:=0) rfl,k0,rfl,_,aK.of e0,_,Ys (j:=0) rfl,_,rfl,_,aJ.of hb,_,Ys (j:=0) rfl,few (by decide),fun X gX=>?_⟩;rw [show (1:Int)+(n0:Int)=((1+n0:Nat):Int) by omega];exact q X _ _ _ (.aG gX _) Yb
 | ro a' D os ha hD IK =>
  obtain ⟨T,t,m,w,h1,h2,h3,h4,h5⟩:=hS;refine Yn fun R rr=>?_
  walk_at "rd";refine ⟨_,aK.of h1,_,Ys (j:=0) rfl,rr _ _ (aU rfl (by decide +kernel) (aU rfl (by decide +kernel) (dU rfl rfl ?_)))⟩;walk_at "rd";refine ⟨b,ks,rfl,hb,hk,hl,fun n H1 s1=>⟨few (by decide),fun X gX=>?_⟩⟩;have sX:=Yf.aG gX (.lst [.int (n:Nat)]);refine ⟨_,Yb,_,sX _ _ (s1 _ _ hb),few (by simp;omega),fun Y gY=>⟨_,.inl ⟨aJ.of Yb,fun Z gZ=>?_⟩⟩⟩;exact q Z n _ _ (((s1.trans sX).trans (.aG gY _)).trans (.aG gZ _)) Yb
inductive uQ (K:W.Frag) (m:Nat) (vs:List V) (H:Hp) (Q:VK) (E_:XK):Prop
 | mk (B:Addr) (lo:Int) (a:Addr) (s:Sk) (v:V) (h0:vs=[.ref B,.ref a,v]) (h1:bR H lo B) (h2:Xd H lo a s) (h3:Vk H lo s v) (h4:dM s<=m) (h5:∀ k (n:Nat) r H',Yf H H'->H' k=some (.tup (.int (n:Nat)::r))->Q (.ref k) H')
theorem YcY {K:W.Frag} {vs:List V} {H:Hp} {Q:VK} {E:XK} (h:uQ K 0 vs H Q E):False:=by
 obtain ⟨B,lo,a,s,v,_,_,_,_,h,_⟩:=h
 cases s<;>simp [dM] at h
theorem Wb {K:W.Frag} {tl:TE} {g:TG} {tb:TS} {D:Ends} {σ:St} {H:Hp} (G:Addr->List V->Hp->Prop) (ha:∀ R:V->Hp->Prop,(∀ a xs H1,aJ K H1 a xs->G a xs H1->R (.ref a) H1)->tl σ H R)
  (hb:∀ a xs H1,aJ K H1 a xs->G a xs H1->∃ Pv:Nat->St->Hp->Prop,Pv 0 σ H1/\(∀ i σ H,i<=xs.length->Pv i σ H->aJ K H a xs) /\
   (∀ i x σ H,xs[i]?=some x->Pv i σ H->g x σ H fun σ2 H2=>tb { D with nx:=Pv (i+1),ct:=Pv (i+1),bk:=D.nx } σ2 H2)/\∀ σ H,Pv xs.length σ H->D.nx σ H):XY (XL K tl) g tb D σ H :=
 ha _ fun a xs H1 hS hG=>by
  obtain ⟨Pv,h0,hl,hs,hd⟩:=hb a xs H1 hS hG;exact ⟨a,rfl,⟨xs,hS⟩,Um Pv h0 hl hs hd⟩
theorem IV {H H0 H':Hp} {lo:Int} {s:Sk} {v:V} {L:List (Sk×V)} (hv:Vk H lo s v) (wi:Wi H0 lo s v L) (k0:Yf H H0) (k:Yf H H'):∀ w∈L,Vk H' lo w.1 w.2:=by
 cases wi with
 | wh=>intro w h;cases h
 | tx=>intro w h;cases h
 | my D os h kk =>
  intro w hw;obtain ⟨u,hu,rfl⟩:=List.mem_map.mp hw;obtain ⟨i,hi⟩:=List.getElem?_of_mem hu;exact Iz kk hi
 | us D os h kk =>
  intro w hw
  cases List.mem_singleton.mp hw
  cases hv with
  | us _ os' h' iw=>exact .my D os' (k _ _ h') iw
 | ro a D os ha h kk =>
  intro w hw
  cases hv with
  | ro _ D' os' ha' h' iw =>
   rw [k0 _ _ ha'] at ha
   cases ha
   simp only [List.mem_cons,List.not_mem_nil,or_false] at hw;rcases hw with rfl | rfl
   ·exact .tx
   ·exact .my D os' (k _ _ h') iw
inductive WgV (H1:Hp) (lo:Int) (B a:Addr) (v:V) (p l:Addr) (ts:List Addr) (i:Nat) (σ:St) (H':Hp):Prop
 | mk (o4 o5 o6:Option V) (ks:List Addr) (e:σ=[some (.ref B),some (.ref a),some v,some (.ref p),o4,o5,o6]) (s:∀ b o,b≠p->H1 b=some o->H' b=some o) (hp:H' p=some (.lst (ks.map V.ref))) (kl:ks.length=i) (ky:kY H' ks)
theorem zL {k:Nat} {Z0 Z3 Z1 Z4 Z2:Addr} {ao aj:Addr} {au aq:Addr} {aB aA:Addr} {aF aD:Addr} (R:g.Raw "weighed" "weighed" yC ["book","shape","value"]) (n8:g.Fn k "has_form" ["shape","value"] (uL g.K)) (Zw:g.Fn k "things_within" ["book","shape","value"] (uN g.K)) (oh:g.Fn k "key_made" ["shape","value","keys"] (uP g.K)) (zM:g.Fn k "weighed" ["book","shape","value"] (uQ g.K m)):g.Fn (k+1) "weighed" ["book","shape","value"] (uQ g.K (m+1)):=by
 refine R.fn pL (fun vs H Q E h=>by obtain ⟨B,lo,a,s,v,rfl,hB,hS,hv,hm,q⟩:=h;rfl) fun f_ cdv A outer s H vs Q E hr h=>?_
 obtain ⟨B,lo,a,s,v,rfl,hB,hS,hv,hm,q⟩:=h;refine ⟨_,(@Yd _ _ _ _ _ (@Yq _ _ _ _ _ _ _ _ (@XG _ _ _ _ (@Y0 _ _ _ (@Yv _ _ _ _ _ _ _ _ _ _ _ _ n8 hr (@Ya _ _ _ _ _ (pv 1) (@Ya _ _ _ _ _ (pv 2) Yc (by rfl)) (by rfl)) (by omega) (by rfl) (by rfl) (by decide) (by rfl) (by rfl)) (by intro _;rfl))) (@Ye _ _ _ YU) Yl) (@Yd _ _ _ _ _ (@YD _ _ (3) _ _ _ _ pL.nd rfl (.inl rfl) (@YY _ _ _ _ Yc) (by rfl) (by first | exact .inl rfl | exact .inr rfl | assumption)) (@Yd _ _ _ _ _ (@XR _ _ _ _ _ _ _ _ PassesOwn.never rfl (@Y1 _ _ _ _ (@Yv _ _ _ _ _ _ _ _ _ _ _ _ Zw hr (@Ya _ _ _ _ _ (pv 0) (@Ya _ _ _ _ _ (pv 1) (@Ya _ _ _ _ _ (pv 2) Yc (by rfl)) (by rfl)) (by rfl)) (by omega) (by rfl) (by rfl) (by decide) (by rfl) (by rfl))) (@VD _ _ _ _ _ (2) rfl (@Xo _ _ _ _ _ (@YK _ _ (4) _ pL.nd rfl (.inl rfl) (by first | exact .inl rfl | exact .inr rfl | assumption)) (@Xo _ _ _ _ _ (@YK _ _ (5) _ pL.nd rfl (.inl rfl) (by first | exact .inl rfl | exact .inr rfl | assumption)) Va (by rfl)) (by rfl)) (by rfl) (by rfl)) (@Yd _ _ _ _ _ (@YD _ _ (6) _ _ _ _ pL.nd rfl (.inl rfl) (@Yv _ _ _ _ _ _ _ _ _ _ _ _ zM hr (@Ya _ _ _ _ _ (pv 0) (@Ya _ _ _ _ _ (pv 4) (@Ya _ _ _ _ _ (pv 5) Yc (by rfl)) (by rfl)) (by rfl)) (by omega) (by rfl) (by rfl) (by decide) (by rfl) (by rfl)) (by rfl) (by first | exact .inl rfl | exact .inr rfl | assumption)) (@Yd _ _ _ _ _ (@Yq _ _ _ _ _ _ _ _ (@Yo _ _ _ _ _ _ _ _ VG (pv 6) Wo (Yk _)) (@Ye _ _ _ YU) Yl) (@Ye _ _ _ (@Xk _ _ _ _ (@WC _ _ _ _ _ _ _ _ _ _ _ _ F.plainAttrs_list F.slot_list_append F.type_list_append XH (pv 3) (@Ya _ _ _ _ _ (pv 6) Yc (by rfl)) (by rfl) (by rfl) (by rfl) (by rfl) (by rfl)) (by rfl))))) (by intro _;rfl)) (@Ye _ _ _ (@Yj _ _ _ _ (@Yv _ _ _ _ _ _ _ _ _ _ _ _ oh hr (@Ya _ _ _ _ _ (pv 1) (@Ya _ _ _ _ _ (pv 2) (@Ya _ _ _ _ _ (pv 3) Yc (by rfl)) (by rfl)) (by rfl)) (by omega) (by rfl) (by rfl) (by decide) (by rfl) (by rfl))))))),?_⟩;refine Yn fun R rr=>?_
 walk_at "rd";refine ⟨lo,a,s,v,rfl,hS,hv,fun H1 s1=>?_⟩;walk_at "rd";refine rr _ _ (Yn fun R rr=>?_);walk_at "rd";refine ⟨few (by decide),fun p gp=>rr _ _ (Yn fun R rr=>?_)⟩;have sp:=Yf.aG gp (.lst []);have s2:=s1.trans sp;have gp0:=s1.free gp;refine Wb (fun l xs H2=>∃ (ts:List Addr) (L:List (Sk×V)),xs=ts.map V.ref/\Yf (upd H1 p (.lst [])) H2/\H2 l=some (.lst (ts.map V.ref))/\l≠p/\ts.length<=100/\uM H2 lo ts L/\Wi (upd H1 p (.lst [])) lo s v L) (fun R r=>?_) ?_
 ·walk_at "rd"
  exact ⟨B,lo,a,s,v,rfl,hB.kt (YA s2),hS.tp (Xe (YA s2)),hv.kt (YA s2),fun D ts L H' s' gD hD hl pr wi=>r D _ H' (aJ.of hD) ⟨ts,L,rfl,s',hD,(fun e=>by rw [e,Yb] at gD;cases gD),hl,pr,wi⟩⟩
 ·rintro l xs H2 hS2 ⟨ts,L,rfl,s3,hl,hlp,CT,pr,wi⟩
  have ou:=pr.1;have old:∀ b o,H b=some o->H2 b=some o:=fun b o e=>s3 _ _ (s2 _ _ e)
  have np:∀ b o,H b=some o->b≠p:=fun b o e=>Ym e gp0
  refine ⟨WgV H2 lo B a v p l ts,⟨none,none,none,[],rfl,fun b o _ e=>e,s3 _ _ Yb,rfl,fun k h=>by cases h⟩,fun i σ H' _ ⟨_,_,_,_,_,s,_,_,_⟩=>aJ.of (s _ _ hlp hl),?_,?_⟩
  ·rintro i x σ H' hx ⟨o4,o5,o6,ks,rfl,s4,pP,kl,zN⟩
   rw [List.getElem?_map] at hx
   obtain ⟨t,ht,rfl⟩:=Option.map_eq_some_iff.mp hx;have hi:=(List.getElem?_eq_some_iff.mp ht).1;have hwi:L[i]?=some (L[i]'(by omega)):=List.getElem?_eq_getElem _;generalize L[i]'(by omega)=w at hwi;have iy:=List.mem_of_getElem? hwi;obtain ⟨b,e1,e2,e3⟩:=pr.2 i t w ht hwi;have IW:Tp H2 H':=fun c zs e=>s4 _ _ (fun z=>by rw [z,s3 _ _ Yb] at e;cases e) e
   have s5:Yf H H':=fun b o e=>s4 _ _ (np b o e) (old b o e)
   refine ⟨t,_,rfl,aK.of (IW _ _ e1),rfl,_,_,rfl,_,_,rfl,rfl,Yn fun R rr=>?_⟩;walk_at "rd";have:=wi.lv w iy;refine ⟨B,lo,b,w.1,w.2,rfl,hB.kt (YA s5),e2.tp IW,IV hv wi s2 s5 w iy,by omega,fun k n r H5 pQ hk5=>rr _ _ (Yn fun R rr=>?_)⟩;walk_at "rd";refine Yu (by intro z;cases z) (rr _ _ ?_);walk_at "rd";refine ⟨.inl ⟨rfl,_,aJ.of (pQ _ _ pP)⟩,_,pQ _ _ pP,few (by simp;omega),?_⟩;refine ⟨_,_,_,ks++[k],rfl,fun c o nc e=>by rw [Yg nc];exact pQ _ _ (s4 _ _ nc e),by rw [Yb,List.map_append];rfl,by rw [List.length_append,kl];rfl,fun k' hk'=>?_⟩;have Ja:Tp H5 (upd H5 p (.lst (ks.map V.ref++[.ref k]))):=Iv (pQ _ _ pP);rcases List.mem_append.mp hk' with hk' | hk'
   ·obtain ⟨n',r',e⟩:=zN k' hk'
    exact ⟨n',r',Ja _ _ (pQ _ _ e)⟩
   ·rw [List.mem_singleton.mp hk']
    exact ⟨n,r,Ja _ _ hk5⟩
  ·rintro σ H' ⟨o4,o5,o6,ks,rfl,s4,pP,kl,zN⟩
   rw [List.length_map] at kl
   refine rr _ _ ?_;walk_at "rd";have s5:Yf H H':=fun b o e=>s4 _ _ (np b o e) (old b o e)
   refine ⟨lo,a,s,v,p,ks,rfl,hS.tp (Xe (YA s5)),hv.kt (YA s5),pP,zN,by omega,fun e=>?_,fun k n r H6 s6 hk6=>q k n r H6 (s5.trans s6) hk6⟩;subst e
   cases wi
   rw [kl,ou];rfl
theorem Jb (s:Sk):dM s<=3:=by cases s<;>decide
inductive mR (K:W.Frag) (vs:List V) (H:Hp) (Q:VK) (E_:XK):Prop
 | mk (B:Addr) (lo:Int) (a:Addr) (s:Sk) (v:V) (h0:vs=[.ref B,.ref a,v]) (h1:bR H lo B) (h2:Xd H lo a s) (h3:Vk H lo s v) (h4:∀ H',Yf H H'->Q (.bl true) H')
theorem Ygo {k:Nat} {Z0 Z3 Z1 Z4 Z2:Addr} {ao aj:Addr} {au aq:Addr} {aB aA:Addr} {aF aD:Addr} (R:g.Raw "fits" "fits" yD ["book","shape","value"]) (zM:g.Fn k "weighed" ["book","shape","value"] (uQ g.K 3)):g.Fn (k+1) "fits" ["book","shape","value"] (mR g.K):=by
 refine R.fn Ygd (fun vs H Q E h=>by obtain ⟨B,lo,a,s,v,rfl,hB,hS,hv,q⟩:=h;rfl) fun f_ cdv A outer s H vs Q E hr h=>?_
 obtain ⟨B,lo,a,s,v,rfl,hB,hS,hv,q⟩:=h;refine ⟨_,(@Ye _ _ _ (@Yj _ _ _ _ (@YV _ _ _ _ _ _ _ _ Ei (@Yv _ _ _ _ _ _ _ _ _ _ _ _ zM hr (@Ya _ _ _ _ _ (pv 0) (@Ya _ _ _ _ _ (pv 1) (@Ya _ _ _ _ _ (pv 2) Yc (by rfl)) (by rfl)) (by rfl)) (by omega) (by rfl) (by rfl) (by decide) (by rfl) (by rfl)) Wo (Yk _)))),?_⟩;walk_at "rd";refine ⟨B,lo,a,s,v,rfl,hB,hS,hv,Jb s,fun k n r H' s' hk=>?_⟩;rw [decide_eq_false (by intro z;cases z)];exact q H' s'
inductive iz (K:W.Frag) (vs:List V) (H:Hp) (Q:VK) (E_:XK):Prop
 | mk (B:Addr) (lo:Int) (a:Addr) (s:Sk) (v:V) (h0:vs=[.ref B,.ref a,v]) (h1:bR H lo B) (h2:Xd H lo a s) (h3:Vk H lo s v) (h4:∀ H',Yf H H'->Q .non H')
theorem Z27 {k:Nat} {Z0 Z3 Z1 Z4 Z2:Addr} {ao aj:Addr} {au aq:Addr} {aB aA:Addr} {aF aD:Addr} (R:g.Raw "refuse_no_value" "refuse_no_value" yE ["book","shape","value"]) (zO:g.Fn k "fits" ["book","shape","value"] (mR g.K)):g.Fn (k+1) "refuse_no_value" ["book","shape","value"] (iz g.K):=by
 refine R.fn Z1S (fun vs H Q E h=>by obtain ⟨B,lo,a,s,v,rfl,hB,hS,hv,q⟩:=h;rfl) fun f_ cdv A outer s H vs Q E hr h=>?_
 obtain ⟨B,lo,a,s,v,rfl,hB,hS,hv,q⟩:=h;refine ⟨_,(@Ye _ _ _ (@Yq _ _ _ _ _ _ _ _ (@XG _ _ _ _ (@Y0 _ _ _ (@Yv _ _ _ _ _ _ _ _ _ _ _ _ zO hr (@Ya _ _ _ _ _ (pv 0) (@Ya _ _ _ _ _ (pv 1) (@Ya _ _ _ _ _ (pv 2) Yc (by rfl)) (by rfl)) (by rfl)) (by omega) (by rfl) (by rfl) (by decide) (by rfl) (by rfl)) (by intro _;rfl))) (@Ye _ _ _ YU) Yl)),?_⟩;walk_at "rd";refine ⟨B,lo,a,s,v,rfl,hB,hS,hv,fun H' s'=>?_⟩;walk_at "rd";exact q H' s'
def SameBut (p:Addr) (H H':Hp):Prop:=∀ q o,q≠p->H q=some o->H' q=some o
def hal:Nat->Nat->List Nat
 | 0,_=>[]
 | f+1,o=>if o=0 then [] else (o / 2)::hal f (o / 2)
def cB (o:Nat):List Nat:=(hal 20 o).reverse
def wo {α:Type} (xs:List α):List (List α):=(List.range xs.length).map fun i=>xs.take i++xs.drop (i+1)
def wi {α:Type} (xs:List α) (L:List (List α)):List (List α):=((List.range L.length).map fun i=>(L.getD i []).map fun s=>xs.take i++[s]++xs.drop (i+1)).flatten
inductive uR (K:W.Frag) (vs:List V) (H:Hp) (Q:VK) (E_:XK):Prop
 | mk (lo:Int) (o:Nat) (h0:vs=[.int lo,.int (lo+o)]) (h1:o<=1023) (h2:∀ D H',Yf H H'->H D=none->H' D=some (.lst ((cB o).map fun (i:Nat)=>V.int (lo+(i:Nat))))->Q (.ref D) H')
theorem Jc {f o:Nat} (h:0<o):hal (f+1) o=(o / 2)::hal f (o / 2):=by rw [hal,if_neg (by omega)]
theorem YeX (f:Nat):hal f 0=[]:=by cases f<;>rfl
theorem Z2Q {Z0 Z3 Z1 Z4 Z2:Addr} {ao aj:Addr} {au aq:Addr} {aB aA:Addr} {aF aD:Addr} (R:g.Raw "whole_steps" "whole_steps" yF ["low","value"]):g.Fn (1) "whole_steps" ["low","value"] (uR g.K):=by
 refine R.fn uw (fun vs H Q E h=>by obtain ⟨lo,o,rfl,ho,q⟩:=h;rfl) fun f_ cdv A outer s H vs Q E hr h=>?_
 obtain ⟨lo,o,rfl,ho,q⟩:=h;refine ⟨_,(@Yd _ _ _ _ _ (@YD _ _ (2) _ _ _ _ uw.nd rfl (.inl rfl) (@YY _ _ _ _ Yc) (by rfl) (by first | exact .inl rfl | exact .inr rfl | assumption)) (@Yd _ _ _ _ _ (@YD _ _ (3) _ _ _ _ uw.nd rfl (.inl rfl) (@Yx _ _ _ _ _ _ _ _ VF (pv 1) (pv 0)) (by rfl) (by first | exact .inl rfl | exact .inr rfl | assumption)) (@Yd _ _ _ _ _ (@DR _ _ _ _ _ _ PassesOwn.never (@Yo _ _ _ _ _ _ _ _ Ci (pv 3) Yi (Yk _)) (@Yd _ _ _ _ _ (@YD _ _ (3) _ _ _ _ uw.nd rfl (.inl rfl) (@Yx _ _ _ _ _ _ _ _ Vq (pv 3) Yi) (by rfl) (by first | exact .inl rfl | exact .inr rfl | assumption)) (@Ye _ _ _ (@Xk _ _ _ _ (@WC _ _ _ _ _ _ _ _ _ _ _ _ F.plainAttrs_list F.slot_list_append F.type_list_append XH (pv 2) (@Ya _ _ _ _ _ (@Yx _ _ _ _ _ _ _ _ Xm (pv 0) (pv 3)) Yc (by rfl)) (by rfl) (by rfl) (by rfl) (by rfl) (by rfl)) (by rfl))))) (@Ye _ _ _ (@Yj _ _ _ _ (@UO _ _ _ _ _ _ _ (pv 2) (@WB _ _ _ _ _ _ X6 Yi))))))),?_⟩;refine Yn fun R rr=>?_
 walk_at "rd";refine ⟨few (by decide),fun X gX=>rr _ _ (Yn fun R rr=>?_)⟩;have sX:=Yf.aG gX (.lst []);walk_at "rd";rw [show lo+(o:Int) - lo=o by omega];refine rr _ _ (Yn fun R rr=>?_);refine Ge (α:=Nat×Nat×List Nat) (fun a σ H'=>σ=[some (.int lo),some (.int (lo+o)),some (.ref X),some (.int (a.1:Nat))]/\a.1<2^a.2.1/\a.2.1<=20/\a.2.2.length+a.2.1=20/\hal 20 o=a.2.2++hal a.2.1 a.1/\SameBut X H H'/\H' X=some (.lst (a.2.2.map fun (i:Nat)=>V.int (lo+(i:Nat))))) (fun a=>decide (0<a.1)) (fun a=>a.1) (o,20,[]) ⟨rfl,(by omega:o<2^20),Nat.le_refl 20,rfl,rfl,fun b u nb e=>by rw [Yg nb];exact e,Yb⟩ ?_ ?_ ?_
 ·rintro ⟨x,f,l⟩ σ H' ⟨rfl,h1,h2,h3,h4,sb,hX⟩ R r
  walk_at "rd";have:=r H' ⟨rfl,h1,h2,h3,h4,sb,hX⟩;rw [show decide (0<x)=decide ((0:Int)<(x:Int)) from decide_eq_decide.mpr (by omega)] at this
  exact this
 ·rintro ⟨x,f,l⟩ σ H' ⟨rfl,h1,h2,h3,h4,sb,hX⟩ hx
  have hx0:0<x:=of_decide_eq_true hx;clear hx;have hf:f≠0:=fun z=>by subst z;simp at h1;omega
  obtain ⟨f,rfl⟩:∃ f',f=f'+1:=⟨f - 1,by omega⟩;dsimp only at h1 h2 h3 h4 hX ⊢;rw [Jc hx0] at h4
  rw [Nat.pow_succ] at h1
  refine Yn fun R rr=>?_
  walk_at "rd";refine ⟨W1 (by decide) (by decide),rr _ _ ?_⟩;walk_at "rd";rw [show ((x:Nat):Int) / 2=((x / 2:Nat):Int) by omega];refine ⟨.inl ⟨rfl,_,aJ.of hX⟩,_,hX,few (by simp;omega),?_⟩;refine ⟨(x / 2,f,l++[x / 2]),rfl,(by omega:x / 2<2^f),(by omega:f<=20),?_,?_,fun b u nb e=>by rw [Yg nb];exact sb b u nb e,?_,(by omega:x / 2<x)⟩
  ·show (l++[x / 2]).length+f=20
   rw [List.length_append,List.length_singleton];omega
  ·show hal 20 o=(l++[x / 2])++hal f (x / 2)
   rw [h4,List.append_assoc];rfl
  ·rw [Yb,List.map_append];rfl
 ·rintro ⟨x,f,l⟩ σ H' ⟨rfl,h1,h2,h3,h4,sb,hX⟩ hx
  have hx:x=0:=by have:=of_decide_eq_false hx;omega
  subst hx;refine rr _ _ ?_;walk_at "rd";rw [YeX,List.append_nil] at h4
  refine ⟨_,aJ.of hX,fun Y gY=>q Y _ (fun b u e=>?_) ?_ ?_⟩
  ·rw [Yg (Ym (sb _ _ (Ym e gX) e) gY)]
   exact sb _ _ (Ym e gX) e
  ·cases e:H Y with
   | none=>rfl
   | some u=>rw [sb _ _ (Ym e gX) e] at gY;cases gY
  ·rw [Yb,cB,h4,List.map_reverse]
structure Nl (H H':Hp) (as:List Addr) (zs:List (List V)):Prop where
 len:as.length=zs.length
 nw:∀ a∈as,H a=none
 nd:as.Nodup
 at_:∀ (i:Nat) a z,as[i]?=some a->zs[i]?=some z->H' a=some (.lst z)
theorem Nl.snoc {H H' aO:Hp} {as:List Addr} {zs:List (List V)} {a:Addr} {z:List V} (h:Nl H H' as zs) (ha:H a=none) (ha':H' a=none) (hz:aO a=some (.lst z)) (k:∀ b∈as,∀ o,H' b=some o->aO b=some o):Nl H aO (as++[a]) (zs++[z]):=by
 have al:∀ b∈as,H' b≠none:=fun b hb=>by
  obtain ⟨i,hi⟩:=List.getElem?_of_mem hb;have hl:=(List.getElem?_eq_some_iff.mp hi).1;have e:zs[i]?=some (zs[i]'(by have:=h.len;omega)):=List.getElem?_eq_getElem _;rw [h.at_ i b _ hi e];simp
 refine ⟨by rw [List.length_append,List.length_append,h.len];rfl,fun b hb=>?_,?_,fun i b y h1 h2=>?_⟩
 ·rcases List.mem_append.mp hb with hb | hb
  ·exact h.nw b hb
  ·cases List.mem_singleton.mp hb;exact ha
 ·rw [List.nodup_append]
  refine ⟨h.nd,by simp,fun x hx y hy=>?_⟩
  cases List.mem_singleton.mp hy
  intro e;subst e;exact al x hx ha'
 ·by_cases c:i<as.length
  ·rw [List.getElem?_append_left c] at h1
   rw [List.getElem?_append_left (by have:=h.len;omega)] at h2
   exact k b (List.mem_of_getElem? h1) _ (h.at_ i b y h1 h2)
  ·have hi:i=as.length:=by
    have:=(List.getElem?_eq_some_iff.mp h1).1;rw [List.length_append,List.length_singleton] at this
    omega
   subst hi;rw [List.getElem?_append_right (Nat.le_refl _),Nat.sub_self] at h1
   rw [h.len,List.getElem?_append_right (Nat.le_refl _),Nat.sub_self] at h2
   cases Option.some.inj h1
   cases Option.some.inj h2
   exact hz
inductive uT (K:W.Frag) (vs:List V) (H:Hp) (Q:VK) (E_:XK):Prop
 | mk (x:V) (us:List V) (h0:vs=[x]) (h1:((x = .str ""/\us=[])\/∃ T,x = .ref T/\H T=some (.lst us))) (h2:us.length<=100) (h3:∀ D as H',Yf H H'->H D=none->H' D=some (.lst (as.map V.ref))->Nl H H' as (wo us)->Q (.ref D) H')
theorem Z2G {Z0 Z3 Z1 Z4 Z2:Addr} {ao aj:Addr} {au aq:Addr} {aB aA:Addr} {aF aD:Addr} (R:g.Raw "without_each" "without_each" yG ["things"]) (aN:g.mg "len"=none) (jf:g.mg "range"=none):g.Fn (1) "without_each" ["things"] (uT g.K):=by
 refine R.fn Z2C (fun vs H Q E h=>by obtain ⟨x,us,rfl,hx,hl,q⟩:=h;rfl) fun f_ cdv A outer s H vs Q E hr h=>?_
 obtain ⟨x,us,rfl,hx,hl,q⟩:=h;refine ⟨_,(@Ye _ _ _ (@Yj _ _ _ _ (@XF _ _ _ _ _ _ _ ([none,some 0]) ((["place","things"]:List Str)) _ (YJ 0) _ _ (.own (.cap (i:=0) rfl rfl (by first | exact .inl rfl | exact .inr rfl) .nil)) rfl (@Qw _ _ _ _ _ _ rfl jf (@Ya _ _ _ _ _ (@YQ _ _ _ _ _ _ _ _ _ _ aN (Gu YW WM) (@Ya _ _ _ _ _ (pv 0) Yc (by rfl)) (by decide +kernel) (by rfl) (by rfl) (by decide) (by decide) (by rfl) (by rfl)) Yc (by rfl)) (by rfl)) (fun cl C s₀ H₀ fp pn=>(@YK _ _ (0) _ (show List.Nodup (["place","things"]:List Str) by decide +kernel) rfl (.inl rfl) (.inr rfl))) (fun cl C s₀ H₀ fp pn=>Xs) (fun cl C s₀ H₀ fp pn=>(@Yx _ _ _ _ _ _ _ _ XB (@WL _ _ _ _ _ _ _ _ _ _ (Vr (K:=g.K)) (pv 1) VY (@WF _ _ _ (pv 0))) (@WL _ _ _ _ _ _ _ _ _ _ (Vr (K:=g.K)) (pv 1) (@WF _ _ _ (@Yx _ _ _ _ _ _ _ _ Xm (pv 0) Yi)) VY))) (by intro x hx;simp at hx;first | (subst hx;exact .inl rfl) | (rcases hx with rfl | rfl<;>exact .inl rfl) | (rcases hx with rfl | rfl | rfl<;>exact .inl rfl) | (rcases hx with rfl | rfl | rfl | rfl<;>exact .inl rfl) | (rcases hx with rfl | rfl | rfl | rfl | rfl<;>exact .inl rfl)) (by rfl) (by decide) (by decide +kernel) (by intro _;rfl)))),?_⟩;rcases hx with ⟨rfl,rfl⟩ | ⟨T,rfl,hT⟩
 ·walk_at "rd"
  refine US (n:=0) (fun _ => .non) (fun R r=>?_) (by omega) (fun i H' hi=>by omega) fun D H' gD sm hD=>q D [] H' sm gD hD ⟨rfl,(fun a h=>by cases h),List.nodup_nil,fun i a z h=>by cases h⟩
  walk_at "rd";have e0:(Str.ofString "").length=0:=by decide +kernel
  rw [e0];exact .inr ⟨few (by decide),r _ (.refl _)⟩
 walk_at "rd";refine Sg (n:=us.length) (fun D i zs H'=>∃ as:List Addr,zs=as.map V.ref/\as.length=i/\H' D=some (.lst zs)/\Yf H H'/\D∉as/\Nl H H' as ((List.range i).map fun i=>us.take i++us.drop (i+1))) (fun R r=>?_) (by omega) ?_ ?_ ?_ ?_
 ·walk_at "rd"
  exact .inl ⟨_,.inl (aJ.of hT),r⟩
 ·intro D hD
  exact ⟨[],rfl,rfl,Yb,.aG hD _,by simp,⟨rfl,(fun a h=>by cases h),List.nodup_nil,fun i a z h=>by cases h⟩⟩
 ·rintro D i zs H' ⟨as,rfl,h1,h2,_⟩
  exact ⟨by rw [List.length_map,h1],h2⟩
 ·rintro D i zs H' hD hi ⟨as,rfl,hal,hd,sm,lg,nl⟩ R r
  walk_at "rd";refine ⟨_,aJ.of (sm _ _ hT),fun X gX=>?_⟩;rw [Gb];have sX:=Yf.aG gX (.lst (us.take i));refine ⟨_,aJ.of (sX _ _ (sm _ _ hT)),fun Y gY=>?_⟩;rw [show (i:Int)+1=((i+1:Nat):Int) by omega,Gd];have sY:=Yf.aG gY (.lst (us.drop (i+1)));refine ⟨_,sY _ _ Yb,_,Yb,few (by simp;omega),fun Z gZ=>?_⟩;have sZ:=Yf.aG gZ (.lst (us.take i++us.drop (i+1)));have s3:=(sX.trans sY).trans sZ;have zP:H' Z=none:=(sX.trans sY).free gZ;have pR:Z≠D:=Ne.symm (Ym hd zP);refine r _ _ (s3 _ _ hd) ⟨as++[Z],by rw [List.map_append];rfl,by rw [List.length_append,hal];rfl,Yb,.cO hD (sm.trans s3) _,fun h=>?_,?_⟩
  ·rcases List.mem_append.mp h with h | h
   ·exact lg h
   ·exact pR (List.mem_singleton.mp h).symm
  ·rw [List.range_succ,List.map_append]
   refine nl.snoc (sm.free zP) zP (by rw [Yg pR,Yb]) (fun b hb o e=>?_);rw [Yg fun z=>lg (by rw [<- z];exact hb)];exact s3 _ _ e
 ·rintro D zs H' hD ⟨as,rfl,hal,hd,sm,lg,nl⟩
  exact q D as H' sm hD hd nl
section
 variable {src:List (Option Nat)} {te:TE} {σ:St} {H:Hp} {Q:VK}
theorem YeY {K:W.Frag} {tl:TE} {b:Addr} {xs:List V} (zs:List (List V)) (ha:∀ R:V->Hp->Prop,R (.ref b) H->tl σ H R) (hS:H b=some (.lst xs)) (hz:zs.length=xs.length) (hlen:xs.length<=100000)
  (step:∀ (i:Nat) x z H',xs[i]?=some x->zs[i]?=some z->Yf H H'->∀ R:VK,(∀ a aO,Yf H' aO->H' a=none->aO a=some (.lst z)->R (.ref a) aO)->te (some x::YH src σ) H' R)
  (fin:∀ D as H',Yf H H'->H D=none->H' D=some (.lst (as.map V.ref))->Nl H H' as zs->Q (.ref D) H'):eX (none::src) (XL K tl) (YJ 0) XO te σ H Q:=by
 refine Tn (b:=b) (fun D i ys H'=>∃ as:List Addr,ys=as.map V.ref/\as.length=i/\H' D=some (.lst ys)/\Yf H H'/\D∉as/\Nl H H' as (zs.take i)) ha (aJ.of hS) hlen ?_ ?_ ?_ ?_
 ·intro D hD
  exact ⟨[],rfl,rfl,Yb,.aG hD _,by simp,⟨by simp,(fun a h=>by cases h),List.nodup_nil,fun i a z h=>by cases h⟩⟩
 ·rintro D i ys H' hD ⟨as,rfl,h1,h2,sm,_⟩
  exact ⟨by rw [List.length_map,h1],h2,aJ.of (sm _ _ hS)⟩
 ·rintro D i x ys H' hD hx ⟨as,rfl,hal,hd,sm,lg,nl⟩ R r
  have hi:=(List.getElem?_eq_some_iff.mp hx).1;have Jd:zs[i]?=some (zs[i]'(by omega)):=List.getElem?_eq_getElem _;refine step i x _ H' hx Jd sm R fun Z aO s2 gZ hZ=>?_
  have pR:Z≠D:=Ne.symm (Ym hd gZ);refine r _ _ (s2 _ _ hd) ⟨as++[Z],by rw [List.map_append];rfl,by rw [List.length_append,hal];rfl,Yb,.cO hD (sm.trans s2) _,fun h=>?_,?_⟩
  ·rcases List.mem_append.mp h with h | h
   ·exact lg h
   ·exact pR (List.mem_singleton.mp h).symm
  ·rw [Xw Jd]
   refine nl.snoc (sm.free gZ) gZ (by rw [Yg pR];exact hZ) (fun b hb o e=>?_);rw [Yg fun z=>lg (by rw [<- z];exact hb)];exact s2 _ _ e
 ·rintro D ys H' hD ⟨as,rfl,hal,hd,sm,lg,nl⟩
  rw [<- hz,List.take_length] at nl
  exact fin D as H' sm hD hd nl
end
def Je (H:Hp) (is_:List Addr) (ss:List (List V)):Prop:=is_.length=ss.length/\∀ (i:Nat) a s,is_[i]?=some a->ss[i]?=some s->H a=some (.lst s)
inductive pU (K:W.Frag) (vs:List V) (H:Hp) (Q:VK) (E_:XK):Prop
 | mk (T I:Addr) (us:List V) (is_:List Addr) (ss:List (List V)) (h0:vs=[.ref T,.ref I]) (h1:H T=some (.lst us)) (h2:us.length<=100) (h3:H I=some (.lst (is_.map V.ref))) (h4:is_.length<=100) (h5:Je H is_ ss) (h6:(∃ M,(∀ s∈ss,s.length<=M)/\M*is_.length<=30000)) (h7:∀ D as H',Yf H H'->H D=none->H' D=some (.lst (as.map V.ref))->D∉as->Nl H H' as (wi us ss)->Q (.ref D) H')
theorem Q8 {α:Type} {M:Nat} {us:List α} {ss:List (List α)} (h:∀ s∈ss,s.length<=M):∀ i≤ss.length,(((List.range i).map fun i=>(ss.getD i []).map fun s=>us.take i++[s]++us.drop (i+1)).flatten).length<=M*i
 | 0,_=>by simp
 | i+1,hi=>by
  have ih:=Q8 (us:=us) h i (by omega);rw [List.range_succ,List.map_append,List.flatten_append,List.length_append];have:(ss.getD i []).length<=M:=by
   rw [List.getD_eq_getElem?_getD,List.getElem?_eq_getElem (by omega)];exact h _ (List.getElem_mem _)
  simp only [List.map_cons,List.map_nil,List.flatten_cons,List.flatten_nil,List.append_nil,List.length_map];rw [Nat.mul_succ];omega
theorem Nl.app {H H1 H':Hp} {as bs:List Addr} {zs ys:List (List V)} (h:Nl H H1 as zs) (h2:Nl H1 H' bs ys) (al:∀ a∈as,H1 a≠none) (f:∀ x,H1 x=none->H x=none) (k:∀ a∈as,∀ o,H1 a=some o->H' a=some o):Nl H H' (as++bs) (zs++ys):=by
 refine ⟨by rw [List.length_append,List.length_append,h.len,h2.len],fun a ha=>?_,?_,fun i a z e1 e2=>?_⟩
 ·rcases List.mem_append.mp ha with ha | ha
  ·exact h.nw a ha
  ·exact f a (h2.nw a ha)
 ·rw [List.nodup_append]
  refine ⟨h.nd,h2.nd,fun x hx y hy e=>?_⟩;subst e;exact al x hx (h2.nw x hy)
 ·by_cases c:i<as.length
  ·rw [List.getElem?_append_left c] at e1
   rw [List.getElem?_append_left (by have:=h.len;omega)] at e2
   exact k a (List.mem_of_getElem? e1) _ (h.at_ i a z e1 e2)
  ·rw [List.getElem?_append_right (by omega)] at e1
   rw [List.getElem?_append_right (by have:=h.len;omega),<- h.len] at e2
   exact h2.at_ _ a z e1 e2
theorem Z2i {Z0 Z3 Z1 Z4 Z2:Addr} {ao aj:Addr} {au aq:Addr} {aB aA:Addr} {aF aD:Addr} (R:g.Raw "with_each_step" "with_each_step" yH ["things","inner"]) (pW:g.mg "enumerate"=none):g.Fn (1) "with_each_step" ["things","inner"] (pU g.K):=by
 refine R.fn Zy (fun vs H Q E h=>by obtain ⟨T,I,us,is_,ss,rfl,hT,hul,hI,hil,hss,⟨M,hsl,hM⟩,q⟩:=h;rfl) fun f_ cdv A outer s H vs Q E hr h=>?_
 obtain ⟨T,I,us,is_,ss,rfl,hT,hul,hI,hil,hss,⟨M,hsl,hM⟩,q⟩:=h;refine ⟨_,(@Yd _ _ _ _ _ (@YD _ _ (2) _ _ _ _ Zy.nd rfl (.inl rfl) (@YY _ _ _ _ Yc) (by rfl) (by first | exact .inl rfl | exact .inr rfl | assumption)) (@Yd _ _ _ _ _ (@XR _ _ _ _ _ _ _ _ PassesOwn.never rfl (@Py _ _ _ _ _ _ _ _ rfl pW (@Ya _ _ _ _ _ (pv 1) Yc (by rfl)) (by rfl)) (@VD _ _ _ _ _ (2) rfl (@Xo _ _ _ _ _ (@YK _ _ (3) _ Zy.nd rfl (.inr rfl) (by first | exact .inl rfl | exact .inr rfl | assumption)) (@Xo _ _ _ _ _ (@YK _ _ (4) _ Zy.nd rfl (.inl rfl) (by first | exact .inl rfl | exact .inr rfl | assumption)) Va (by rfl)) (by rfl)) (by rfl) (by rfl)) (@Ye _ _ _ (@Xk _ _ _ _ (@WC _ _ _ _ _ _ _ _ _ _ _ _ PySem.F.plainAttrs_list PySem.F.slot_list_extend PySem.F.type_list_extend QE (pv 2) (@Ya _ _ _ _ _ (@XF _ _ _ _ _ _ _ ([none,some 0,some 3]) ((["step","things","place"]:List Str)) _ (YJ 0) _ _ (.own (.cap (i:=0) rfl rfl (by first | exact .inl rfl | exact .inr rfl) (.cap (i:=3) rfl rfl (by first | exact .inl rfl | exact .inr rfl) .nil))) rfl (@Y1 _ _ _ _ (pv 4)) (fun cl C s₀ H₀ fp pn=>(@YK _ _ (0) _ (show List.Nodup (["step","things","place"]:List Str) by decide +kernel) rfl (.inl rfl) (.inr rfl))) (fun cl C s₀ H₀ fp pn=>Xs) (fun cl C s₀ H₀ fp pn=>(@Yx _ _ _ _ _ _ _ _ XB (@Yx _ _ _ _ _ _ _ _ XB (@WL _ _ _ _ _ _ _ _ _ _ (Vr (K:=g.K)) (pv 1) VY (@WF _ _ _ (pv 2))) (@YY _ _ _ _ (@Ya _ _ _ _ _ (pv 0) Yc (by rfl)))) (@WL _ _ _ _ _ _ _ _ _ _ (Vr (K:=g.K)) (pv 1) (@WF _ _ _ (@Yx _ _ _ _ _ _ _ _ Xm (pv 2) Yi)) VY))) (by intro x hx;simp at hx;first | (subst hx;exact .inl rfl) | (rcases hx with rfl | rfl<;>exact .inl rfl) | (rcases hx with rfl | rfl | rfl<;>exact .inl rfl) | (rcases hx with rfl | rfl | rfl | rfl<;>exact .inl rfl) | (rcases hx with rfl | rfl | rfl | rfl | rfl<;>exact .inl rfl)) (by rfl) (by decide) (by decide +kernel) (by intro _;rfl)) Yc (by rfl)) (by rfl) (by rfl) (by rfl) (by rfl) (by rfl)) (by rfl))) (by intro _;rfl)) (@Ye _ _ _ (@Yj _ _ _ _ (pv 2))))),?_⟩;refine Yn fun R rr=>?_
 walk_at "rd";refine ⟨few (by decide),fun C gC=>rr _ _ (Yn fun R rr=>?_)⟩;have sC:=Yf.aG gC (.lst []);refine Sv (K:=g.K) (a:=I) (xs:=is_.map V.ref) (fun i σ H'=>∃ (o3 o4:Option V) (as:List Addr),σ=[some (.ref T),some (.ref I),some (.ref C),o3,o4]/\SameBut C H H'/\H' C=some (.lst (as.map V.ref))/\C∉as/\Nl H H' as (((List.range i).map fun i=>(ss.getD i []).map fun s=>us.take i++[s]++us.drop (i+1)).flatten)) (fun R r=>by walk_at "rd";exact r) ⟨none,none,[],rfl,fun b o nb e=>sC _ _ e,Yb,by simp,⟨rfl,(fun a h=>by cases h),List.nodup_nil,fun i a z h=>by cases h⟩⟩ (fun i σ H' _ ⟨_,_,_,_,sb,_,_,_⟩=>aJ.of (sb _ _ (Ym hI gC) hI)) ?_ ?_
 ·rintro i x σ H' Z hx ⟨o3,o4,as,rfl,sb,hC,uU,nl⟩ gZ
  rw [List.getElem?_map] at hx
  obtain ⟨ii,Jf,rfl⟩:=Option.map_eq_some_iff.mp hx;have hi:=(List.getElem?_eq_some_iff.mp Jf).1;have hsi:ss[i]?=some (ss[i]'(by have:=hss.1;omega)):=List.getElem?_eq_getElem _;generalize ss[i]'(by have:=hss.1;omega)=sl at hsi;have adL:=hsl _ (List.mem_of_getElem? hsi);have his:=hss.2 i ii sl Jf hsi;have sZ:=Yf.aG gZ (.tup [.int (i:Int),.ref ii]);refine ⟨Z,_,rfl,aK.of Yb,rfl,_,_,rfl,_,_,rfl,rfl,?_⟩;walk_at "rd";have hT1:=sZ _ _ (sb _ _ (Ym hT gC) hT);have lq:=sZ _ _ hC;have zQ:SameBut C H (upd H' Z (.tup [.int (i:Int),.ref ii])):=fun b o nb e=>sZ _ _ (sb b o nb e)
  have eY:Nl H (upd H' Z (.tup [.int (i:Int),.ref ii])) as _:=⟨nl.len,nl.nw,nl.nd,fun j a z e1 e2=>sZ _ _ (nl.at_ j a z e1 e2)⟩;have hll:=Q8 (us:=us) hsl i (by have:=hss.1;omega);rw [<- nl.len] at hll
  have hMi:M*i+M<=M*is_.length:=by rw [<- Nat.mul_succ];exact Nat.mul_le_mul_left M (by omega)
  have zR:=sZ _ _ (sb _ _ (Ym his gC) his);generalize upd H' Z (.tup [.int (i:Int),.ref ii])=H1 at sZ hT1 lq zQ eY zR;refine ⟨.inl ⟨rfl,_,aJ.of lq⟩,?_⟩;refine YeY (K:=g.K) (b:=ii) (xs:=sl) (sl.map fun s=>us.take i++[s]++us.drop (i+1)) (fun R r=>by walk_at "rd";exact r) zR (by simp) (by omega) ?_ ?_
  ·intro j y z H2 hy hz sm R r
   rw [List.getElem?_map,hy] at hz
   cases Option.some.inj hz
   walk_at "rd";refine ⟨_,aJ.of (sm _ _ hT1),fun X gX=>?_⟩;rw [Gb];have sX:=Yf.aG gX (.lst (us.take i));refine ⟨few (by decide),fun Y gY=>?_⟩;have sY:=Yf.aG gY (.lst [y]);refine ⟨_,sY _ _ Yb,_,Yb,few (by simp;omega),fun W gW=>?_⟩;have sW:=Yf.aG gW (.lst (us.take i++[y]));refine ⟨_,aJ.of (sW _ _ (sY _ _ (sX _ _ (sm _ _ hT1)))),fun X2 gX2=>?_⟩;rw [show (i:Int)+1=((i+1:Nat):Int) by omega,Gd];have Jg:=Yf.aG gX2 (.lst (us.drop (i+1)));refine ⟨_,Jg _ _ Yb,_,Yb,few (by simp;omega),fun A gA=>?_⟩;have s5:=((sX.trans sY).trans sW).trans Jg;exact r A _ (s5.trans (.aG gA _)) (s5.free gA) Yb
  ·intro D bs H2 sm gD hD dN
   have hC2:=sm _ _ lq;have nCD:C≠D:=Ym lq gD;refine ⟨C,D,_,_,rfl,rfl,hC2,hD,few (by have:=dN.len;simp at this;simp;omega),fun b o nb e=>by rw [Yg nb];exact sm _ _ (zQ b o nb e),as++bs,by rw [Yb,List.map_append],?_,?_⟩
   ·intro h
    rcases List.mem_append.mp h with h | h
    ·exact uU h
    ·have:=dN.nw C h;rw [lq] at this;cases this
   ·rw [List.range_succ,List.map_append,List.flatten_append]
    have e0:ss.getD i []=sl:=by rw [List.getD_eq_getElem?_getD,hsi];rfl
    simp only [List.map_cons,List.map_nil,List.flatten_cons,List.flatten_nil,List.append_nil,e0];have alv:∀ a∈as,H1 a≠none:=fun a ha=>by
     obtain ⟨j,hj⟩:=List.getElem?_of_mem ha;have e:=(List.getElem?_eq_some_iff.mp hj).1;have hz:(((List.range i).map fun i=>(ss.getD i []).map fun s=>us.take i++[s]++us.drop (i+1)).flatten)[j]?=some ((((List.range i).map fun i=>(ss.getD i []).map fun s=>us.take i++[s]++us.drop (i+1)).flatten)[j]'(by rw [<- eY.len];exact e)):=List.getElem?_eq_getElem _;rw [eY.at_ j a _ hj hz];simp
    have hb:∀ b∈bs,b≠C:=fun b hb z=>by have:=dN.nw b hb;rw [z,lq] at this;cases this
    refine eY.app ⟨dN.len,dN.nw,dN.nd,fun j a z e1 e2=>by rw [Yg (hb a (List.mem_of_getElem? e1))];exact dN.at_ j a z e1 e2⟩ alv (fun x gx=>?_) (fun a ha o e=>by rw [Yg fun z=>uU (by rw [<- z];exact ha)];exact sm _ _ e)
    cases e:H x with
    | none=>rfl
    | some o =>
     by_cases c:x=C
     ·rw [c,lq] at gx;cases gx
     ·rw [zQ x o c e] at gx;cases gx
 ·rintro σ H' ⟨o3,o4,as,rfl,sb,hC,uU,nl⟩
  refine rr _ _ ?_;walk_at "rd";rw [List.length_map,hss.1] at nl
  exact q C as H' (fun b o e=>sb b o (Ym e gC) e) gC hC uU nl
inductive F2 {α β:Type} (R:α->β->Prop):List α->List β->Prop
 | nil:F2 R [] []
 | cons {a:α} {b:β} {as:List α} {bs:List β} (h:R a b) (t:F2 R as bs):F2 R (a::as) (b::bs)
section
 variable {α β:Type} {R:α->β->Prop}
theorem F2.len:∀ {as:List α} {bs:List β},F2 R as bs->as.length=bs.length
 | _,_,.nil=>rfl
 | _,_,.cons _ t=>by rw [List.length_cons,List.length_cons,t.len]
theorem F2.of:∀ {as:List α} {bs:List β},as.length=bs.length->(∀ (i:Nat) a b,as[i]?=some a->bs[i]?=some b->R a b)->F2 R as bs
 | [],[],_,_ => .nil
 | a::as,b::bs,h,k => .cons (k 0 a b rfl rfl) (F2.of (Nat.succ.inj h) fun i x y e1 e2=>k (i+1) x y e1 e2)
 | [],_::_,h,_=>by cases h
 | _::_,[],h,_=>by cases h
theorem F2.get:∀ {as:List α} {bs:List β},F2 R as bs->∀ (i:Nat) a b,as[i]?=some a->bs[i]?=some b->R a b
 | _,_,.nil,i,a,b,e,_=>by cases e
 | _,_,.cons h t,0,a,b,e1,e2=>by cases Option.some.inj e1;cases Option.some.inj e2;exact h
 | _,_,.cons h t,i+1,a,b,e1,e2=>t.get i a b e1 e2
theorem F2.app:∀ {as:List α} {bs:List β} {cs:List α} {ds:List β},F2 R as bs->F2 R cs ds->F2 R (as++cs) (bs++ds)
 | _,_,_,_,.nil,h=>h
 | _,_,_,_,.cons h t,k => .cons h (t.app k)
theorem F2.take:∀ {as:List α} {bs:List β} (n:Nat),F2 R as bs->F2 R (as.take n) (bs.take n)
 | _,_,0,_ => .nil
 | _,_,_+1,.nil => .nil
 | _,_,n+1,.cons h t => .cons h (t.take n)
theorem F2.drop:∀ {as:List α} {bs:List β} (n:Nat),F2 R as bs->F2 R (as.drop n) (bs.drop n)
 | _,_,0,h=>h
 | _,_,_+1,.nil => .nil
 | _,_,n+1,.cons h t=>t.drop n
theorem F2.flat:∀ {as:List (List α)} {bs:List (List β)},F2 (F2 R) as bs->F2 R as.flatten bs.flatten
 | _,_,.nil => .nil
 | _,_,.cons h t=>h.app t.flat
theorem F2.map {α' β':Type} {R':α'->β'->Prop} {f:α->α'} {g:β->β'} (k:∀ a b,R a b->R' (f a) (g b)):∀ {as:List α} {bs:List β},F2 R as bs->F2 R' (as.map f) (bs.map g)
 | _,_,.nil => .nil
 | _,_,.cons h t => .cons (k _ _ h) (t.map k)
theorem F2.imp {R':α->β->Prop} (k:∀ a b,R a b->R' a b):∀ {as:List α} {bs:List β},F2 R as bs->F2 R' as bs
 | _,_,.nil => .nil
 | _,_,.cons h t => .cons (k _ _ h) (t.imp k)
theorem F2.rng {f:Nat->α} {g:Nat->β}:∀ {l:List Nat},(∀ i∈l,R (f i) (g i))->F2 R (l.map f) (l.map g)
 | [],_ => .nil
 | i::l,h => .cons (h i (.head _)) (F2.rng fun j hj=>h j (.tail _ hj))
theorem F2.getD:∀ {as:List (List α)} {bs:List (List β)} (i:Nat),F2 (F2 R) as bs->F2 R (as.getD i []) (bs.getD i [])
 | _,_,_,.nil => .nil
 | _,_,0,.cons h t=>h
 | _,_,i+1,.cons h t=>t.getD i
theorem F2.wo {as:List α} {bs:List β} (h:F2 R as bs):F2 (F2 R) (KW.wo as) (KW.wo bs):=by
 unfold KW.wo;rw [h.len];exact F2.rng fun i _=>(h.take i).app (h.drop (i+1))
theorem F2.wi {as:List α} {bs:List β} {ss:List (List α)} {L:List (List β)} (h:F2 R as bs) (k:F2 (F2 R) ss L):F2 (F2 R) (KW.wi as ss) (KW.wi bs L):=by
 unfold KW.wi;rw [k.len];exact F2.flat (F2.rng fun i _=>F2.map (f:=fun s=>as.take i++[s]++as.drop (i+1)) (g:=fun s=>bs.take i++[s]++bs.drop (i+1)) (fun s t e=>((h.take i).app (.cons e .nil)).app (h.drop (i+1))) (k.getD i))
end
theorem F2.mono {α β:Type} {R R':α->β->Prop} {as:List α} {bs:List β} (h:F2 R as bs) (k:∀ a∈as,∀ b∈bs,R a b->R' a b):F2 R' as bs:=F2.of h.len fun i a b e1 e2=>k a (List.mem_of_getElem? e1) b (List.mem_of_getElem? e2) (h.get i a b e1 e2)
theorem F2.unmap {α β γ:Type} {R:α->γ->Prop} {f:β->γ}:∀ {as:List α} {bs:List β},F2 R as (bs.map f)->F2 (fun a b=>R a (f b)) as bs
 | _,[],.nil => .nil
 | _,_::_,.cons h t => .cons h t.unmap
def Io (lo:Int) (v:V) (o:Nat):Prop:=v = .int (lo+(o:Nat))
theorem zT (lo:Int):∀ os:List Nat,F2 (Io lo) (ofs lo os) os
 | [] => .nil
 | o::os => .cons rfl (zT lo os)
theorem zU {lo:Int}:∀ {us:List V} {os:List Nat},F2 (Io lo) us os->us=ofs lo os
 | _,_,.nil=>rfl
 | _,_,.cons h t=>by rw [zU t,h];rfl
def Wl (H:Hp) (lo:Int) (as:List Addr) (L:List (List Nat)):Prop:=F2 (fun a os=>H a=some (.lst (ofs lo os))) as L
theorem Wl.same {H H':Hp} {lo:Int} {as:List Addr} {L:List (List Nat)} (h:Wl H lo as L) (s:Yf H H'):Wl H' lo as L:=F2.imp (fun _ _ e=>s _ _ e) h
theorem Nl.all {H H':Hp} {lo:Int} {as:List Addr} {zs:List (List V)} {L:List (List Nat)} (n:Nl H H' as zs) (h:F2 (F2 (Io lo)) zs L):Wl H' lo as L:=by
 refine F2.of (by rw [n.len,h.len]) fun i a xs e1 e2=>?_
 have hi:=(List.getElem?_eq_some_iff.mp e2).1;have hz:zs[i]?=some (zs[i]'(by have:=h.len;omega)):=List.getElem?_eq_getElem _;rw [n.at_ i a _ e1 hz,zU (h.get i _ xs hz e2)]
def stm (os:List Nat):List (List Nat):=wo os++wi os (os.map cB)
inductive Rs (H0 H:Hp) (lo:Int):Sk->V->Addr->Prop
 | wh (o:Nat) (D:Addr) (hD:H D=some (.lst (ofs lo (cB o)))):Rs H0 H lo .wh (.int (lo+o)) D
 | tx (v:V) (D:Addr) (hD:H D=some (.lst [])):Rs H0 H lo .tx v D
 | my (T:Addr) (os:List Nat) (D:Addr) (as:List Addr) (hT:H T=some (.lst (ofs lo os))) (hD:H D=some (.lst (as.map V.ref))) (hl:Wl H lo as (stm os)) (hn:∀ a∈as,H0 a=none):Rs H0 H lo .my (.ref T) D
 | us (T:Addr) (os:List Nat) (D:Addr) (as:List Addr) (hT:H T=some (.lst (ofs lo os))) (hD:H D=some (.lst (as.map V.ref))) (hl:Wl H lo as (stm os)) (hn:∀ a∈as,H0 a=none):Rs H0 H lo .us (.ref T) D
 | ro (a T:Addr) (os:List Nat) (D:Addr) (ts as:List Addr) (ha:H a=some (.tup [.str "",.ref T])) (hT:H T=some (.lst (ofs lo os))) (hD:H D=some (.lst (ts.map V.ref))) (ht:F2 (fun t b=>H t=some (.tup [.str "",.ref b])) ts as) (hl:Wl H lo as (stm os)) (hn:∀ a∈as,H0 a=none):Rs H0 H lo .ro (.ref a) D
theorem Rs.same {H0 H H':Hp} {lo:Int} {s:Sk} {v:V} {D:Addr} (h:Rs H0 H lo s v D) (k:Yf H H'):Rs H0 H' lo s v D:=by
 cases h with
 | wh o D hD=>exact .wh o D (k _ _ hD)
 | tx v D hD=>exact .tx v D (k _ _ hD)
 | my T os D as hT hD hl hn=>exact .my T os D as (k _ _ hT) (k _ _ hD) (hl.same k) hn
 | us T os D as hT hD hl hn=>exact .us T os D as (k _ _ hT) (k _ _ hD) (hl.same k) hn
 | ro a T os D ts as ha hT hD ht hl hn=>exact .ro a T os D ts as (k _ _ ha) (k _ _ hT) (k _ _ hD) (ht.imp fun _ _ e=>k _ _ e) (hl.same k) hn
theorem Rs.old {H0 H1 H:Hp} {lo:Int} {s:Sk} {v:V} {D:Addr} (h:Rs H0 H lo s v D) (k:∀ a,H0 a=none->H1 a=none):Rs H1 H lo s v D:=by
 cases h with
 | wh o D hD=>exact .wh o D hD
 | tx v D hD=>exact .tx v D hD
 | my T os D as hT hD hl hn=>exact .my T os D as hT hD hl fun a h=>k a (hn a h)
 | us T os D as hT hD hl hn=>exact .us T os D as hT hD hl fun a h=>k a (hn a h)
 | ro a T os D ts as ha hT hD ht hl hn=>exact .ro a T os D ts as ha hT hD ht hl fun a h=>k a (hn a h)
theorem Wl.own {H0 H:Hp} {lo:Int} {as:List Addr} {L:List (List Nat)} {I:Addr} {zs:List V} (h:Wl H lo as L) (hn:∀ a∈as,H0 a=none) (h0:H0 I≠none):Wl (upd H I (.lst zs)) lo as L:=F2.mono h fun a ha b _ e=>by rw [Yg fun z=>h0 (by rw [<- z];exact hn a ha)];exact e
theorem Rs.own {H0 H:Hp} {lo:Int} {s:Sk} {v:V} {D I:Addr} {zs:List V} (h:Rs H0 H lo s v D) (hv:∀ T,v = .ref T->T≠I) (hs:s ≠ .ro) (nD:D≠I) (h0:H0 I≠none):Rs H0 (upd H I (.lst zs)) lo s v D:=by
 cases h with
 | wh o D hD=>exact .wh o D (by rw [Yg nD];exact hD)
 | tx v D hD=>exact .tx v D (by rw [Yg nD];exact hD)
 | my T os D as hT hD hl hn=>exact .my T os D as (by rw [Yg (hv T rfl)];exact hT) (by rw [Yg nD];exact hD) (hl.own hn h0) hn
 | us T os D as hT hD hl hn=>exact .us T os D as (by rw [Yg (hv T rfl)];exact hT) (by rw [Yg nD];exact hD) (hl.own hn h0) hn
 | ro=>exact absurd rfl hs
def zV (H0 H:Hp) (lo:Int) (is_:List Addr) (L:List (Sk×V)):Prop:=F2 (fun a w=>Rs H0 H lo w.1 w.2 a) is_ L
theorem Jh:∀ f o,(hal f o).length<=f
 | 0,_=>Nat.le_refl _
 | f+1,o=>by
  rw [hal]
  split
  ·exact Nat.zero_le _
  ·rw [List.length_cons];have:=Jh f (o / 2);omega
theorem Ji (o:Nat):(cB o).length<=20:=by rw [cB,List.length_reverse];exact Jh 20 o
theorem Jj {α:Type} (us:List α):(wo us).length=us.length:=by unfold wo;rw [List.length_map,List.length_range]
theorem CV (os:List Nat):∀ s∈os.map cB,s.length<=100:=fun s hs=>by
 obtain ⟨x,_,rfl⟩:=List.mem_map.mp hs;have:=Ji x;omega
theorem UZ (os:List Nat) (h:os.length<=100):(stm os).length<=10100:=by
 rw [stm,List.length_append,Jj];have:=Q8 (us:=os) (ss:=os.map cB) (CV os) (os.map cB).length (Nat.le_refl _);have e:(wi os (os.map cB)).length<=100*(os.map cB).length:=this;rw [List.length_map] at e
 omega
theorem Jk {H0 H:Hp} {lo:Int}:∀ {is_:List Addr} {os:List Nat},zV H0 H lo is_ ((ofs lo os).map fun v=>(.wh,v))->Je H is_ (os.map fun o=>ofs lo (cB o))
 | _,[],.nil=>⟨rfl,fun i a s h=>by cases h⟩
 | a::is_,o::os,.cons h t=>by
  obtain ⟨l,k⟩:=Jk (os:=os) t;refine ⟨by rw [List.length_cons,l];rfl,fun i b s e1 e2=>?_⟩
  match i,e1,e2 with
  | 0,e1,e2 =>
   cases Option.some.inj e1
   cases Option.some.inj e2
   have h:Rs H0 H lo .wh (V.int (lo+(o:Nat))) a:=h;generalize hv:V.int (lo+(o:Nat))=v at h
   cases h with
   | wh o' _ hD=>have:=V.int.inj hv;rw [show o=o' by omega];exact hD
  | i+1,e1,e2=>exact k i b s e1 e2
inductive iB (K:W.Frag) (m:Nat) (vs:List V) (H:Hp) (Q:VK) (E_:XK):Prop
 | mk (B u:Addr) (lo:Int) (a:Addr) (s:Sk) (v:V) (h0:vs=[.ref B,.ref u,.ref a,v]) (h1:bR H lo B) (h2:Xd H lo u .us) (h3:Xd H lo a s) (h4:Vk H lo s v) (h5:dM s<=m) (h6:s ≠ .ro) (h7:∀ D H',Yf H H'->H D=none->H' D=some (.lst [])->Q (.ref D) H')
theorem YgY {K:W.Frag} {vs:List V} {H:Hp} {Q:VK} {E:XK} (h:iB K 0 vs H Q E):False:=by
 obtain ⟨B,u,lo,a,s,v,_,_,_,_,_,h,_⟩:=h
 cases s<;>simp [dM] at h
def iC (lo:Int):Sk->PyData
 | .wh => .tuple [.str "whole",.int lo,.int (lo+1023)]
 | .tx => .tuple [.str "text",.str "ab"]
 | .my => .tuple [.str "many",.tuple [.str "whole",.int lo,.int (lo+1023)]]
 | .us => .tuple [.str "use",.str "row"]
 | .ro => .tuple [.str "row",.tuple [.tuple [.str "text",.str "ab"],.tuple [.str "many",.tuple [.str "whole",.int lo,.int (lo+1023)]]]]
theorem Xd.den {K:W.Frag} {H:Hp} {lo:Int} {a:Addr} {s:Sk} (h:Xd H lo a s) (hs:s ≠ .ro):Den K H (.ref a) (iC lo s):=by
 have dw:∀ {w:Addr},H w=some (.tup (uJ lo))->Den K H (.ref w) (iC lo .wh):=fun {w} hw => .tup (aK.of hw) (.cons (.str _ (by decide +kernel)) (.cons (.int _) (.cons (.int _) .nil)))
 cases s with
 | wh=>exact dw h
 | tx=>exact .tup (aK.of h) (.cons (.str _ (by decide +kernel)) (.cons (.str _ (by decide +kernel)) .nil))
 | my=>obtain ⟨w,h1,h2⟩:=h;exact .tup (aK.of h1) (.cons (.str _ (by decide +kernel)) (.cons (dw h2) .nil))
 | us=>exact .tup (aK.of h) (.cons (.str _ (by decide +kernel)) (.cons (.str _ (by decide +kernel)) .nil))
 | ro=>exact absurd rfl hs
theorem CW (lo:Int) {s:Sk} (h:s ≠ .us):(iC lo s).eqv (iC lo .us)=false:=by
 have n1:((Str.ofString "whole")==(Str.ofString "use"))=false:=by decide +kernel
 have n2:((Str.ofString "text")==(Str.ofString "use"))=false:=by decide +kernel
 have n3:((Str.ofString "many")==(Str.ofString "use"))=false:=by decide +kernel
 have n4:((Str.ofString "row")==(Str.ofString "use"))=false:=by decide +kernel
 cases s with
 | us=>exact absurd rfl h
 | wh=>simp [iC,PyData.eqv,PyData.eqvAll]
 | tx=>simp [iC,PyData.eqv,PyData.eqvAll];decide +kernel
 | my=>simp [iC,PyData.eqv,PyData.eqvAll]
 | ro=>simp [iC,PyData.eqv,PyData.eqvAll]
theorem zW {k:Nat} {Z0 Z3 Z1 Z4 Z2:Addr} {ao aj:Addr} {au aq:Addr} {aB aA:Addr} {aF aD:Addr} (R:g.Raw "things_at_use" "things_at_use" yI ["book","use","shape","value"]) (Zw:g.Fn k "things_within" ["book","shape","value"] (uN g.K)) (zX:g.Fn k "things_at_use" ["book","use","shape","value"] (iB g.K m)):g.Fn (k+1) "things_at_use" ["book","use","shape","value"] (iB g.K (m+1)):=by
 refine R.fn ZF (fun vs H Q E h=>by obtain ⟨B,u,lo,a,s,v,rfl,hB,hu,hS,hv,hm,hro,q⟩:=h;rfl) fun f_ cdv A outer s H vs Q E hr h=>?_
 obtain ⟨B,u,lo,a,s,v,rfl,hB,hu,hS,hv,hm,hro,q⟩:=h;refine ⟨_,(@Yd _ _ _ _ _ (@YD _ _ (4) _ _ _ _ ZF.nd rfl (.inl rfl) (@YY _ _ _ _ Yc) (by rfl) (by first | exact .inl rfl | exact .inr rfl | assumption)) (@Yd _ _ _ _ _ (@XR _ _ _ _ _ _ _ _ PassesOwn.never rfl (@Y1 _ _ _ _ (@Yv _ _ _ _ _ _ _ _ _ _ _ _ Zw hr (@Ya _ _ _ _ _ (pv 0) (@Ya _ _ _ _ _ (pv 2) (@Ya _ _ _ _ _ (pv 3) Yc (by rfl)) (by rfl)) (by rfl)) (by omega) (by rfl) (by rfl) (by decide) (by rfl) (by rfl))) (@VD _ _ _ _ _ (2) rfl (@Xo _ _ _ _ _ (@YK _ _ (5) _ ZF.nd rfl (.inl rfl) (by first | exact .inl rfl | exact .inr rfl | assumption)) (@Xo _ _ _ _ _ (@YK _ _ (6) _ ZF.nd rfl (.inl rfl) (by first | exact .inl rfl | exact .inr rfl | assumption)) Va (by rfl)) (by rfl)) (by rfl) (by rfl)) (@Yd _ _ _ _ _ (@Yq _ _ _ _ _ _ _ _ (@Yo _ _ _ _ _ _ _ _ (X8 hr.units) (pv 5) (pv 1) (Yk _)) (@Ye _ _ _ (@Xk _ _ _ _ (@WC _ _ _ _ _ _ _ _ _ _ _ _ F.plainAttrs_list F.slot_list_append F.type_list_append XH (pv 4) (@Ya _ _ _ _ _ (pv 6) Yc (by rfl)) (by rfl) (by rfl) (by rfl) (by rfl) (by rfl)) (by rfl))) Yl) (@Ye _ _ _ (@Xk _ _ _ _ (@WC _ _ _ _ _ _ _ _ _ _ _ _ F.plainAttrs_list F.slot_list_extend F.type_list_extend QE (pv 4) (@Ya _ _ _ _ _ (@Yv _ _ _ _ _ _ _ _ _ _ _ _ zX hr (@Ya _ _ _ _ _ (pv 0) (@Ya _ _ _ _ _ (pv 1) (@Ya _ _ _ _ _ (pv 5) (@Ya _ _ _ _ _ (pv 6) Yc (by rfl)) (by rfl)) (by rfl)) (by rfl)) (by omega) (by rfl) (by rfl) (by decide) (by rfl) (by rfl)) Yc (by rfl)) (by rfl) (by rfl) (by rfl) (by rfl) (by rfl)) (by rfl)))) (by intro _;rfl)) (@Ye _ _ _ (@Yj _ _ _ _ (pv 4))))),?_⟩;refine Yn fun R rr=>?_
 walk_at "rd";refine ⟨few (by decide),fun X gX=>rr _ _ (Yn fun R rr=>?_)⟩;have sX:=Yf.aG gX (.lst []);refine Wb (fun l xs H2=>∃ (ts:List Addr) (L:List (Sk×V)),xs=ts.map V.ref/\Yf (upd H X (.lst [])) H2/\H2 l=some (.lst (ts.map V.ref))/\l≠X/\uM H2 lo ts L/\Wi (upd H X (.lst [])) lo s v L) (fun R r=>?_) ?_
 ·walk_at "rd"
  exact ⟨B,lo,a,s,v,rfl,hB.kt (YA sX),hS.tp (Xe (YA sX)),hv.kt (YA sX),fun D ts L H' s' gD hD hl pr wi=>r D _ H' (aJ.of hD) ⟨ts,L,rfl,s',hD,(fun e=>by rw [e,Yb] at gD;cases gD),pr,wi⟩⟩
 ·rintro l xs H2 _ ⟨ts,L,rfl,s2,hl,hlX,pr,wi⟩
  have ou:=pr.1;have uV:=sX.trans s2;have hX2:=s2 _ _ Yb;refine ⟨fun i σ H'=>(∃ o5 o6,σ=[some (.ref B),some (.ref u),some (.ref a),some v,some (.ref X),o5,o6])/\Yf H2 H',⟨⟨none,none,rfl⟩,.refl _⟩,fun i σ H' _ ⟨_,s⟩=>aJ.of (s _ _ hl),?_,?_⟩
  ·rintro i x σ H' hx ⟨⟨o5,o6,rfl⟩,s4⟩
   rw [List.getElem?_map] at hx
   obtain ⟨t,ht,rfl⟩:=Option.map_eq_some_iff.mp hx;have hi:=(List.getElem?_eq_some_iff.mp ht).1;have hwi:L[i]?=some (L[i]'(by omega)):=List.getElem?_eq_getElem _;generalize L[i]'(by omega)=w at hwi;have iy:=List.mem_of_getElem? hwi;obtain ⟨b,e1,e2,e3⟩:=pr.2 i t w ht hwi;have lv:=wi.lv w iy;have nus:w.1 ≠ .us:=fun z=>by rw [z] at lv;cases s<;>simp [dM] at lv
   have pX:w.1 ≠ .ro:=fun z=>by rw [z] at lv;cases s<;>simp [dM] at lv
   refine ⟨t,_,rfl,aK.of (s4 _ _ e1),rfl,_,_,rfl,_,_,rfl,rfl,Yn fun R rr=>?_⟩;have k4:=Xe (YA s4);have zY:=uV.trans s4;walk_at "rd";refine ⟨_,(e2.tp k4).den pX,_,(hu.tp (Xe (YA zY))).den (by decide),?_,Yu (by rw [CW lo nus];decide) (rr _ _ ?_)⟩
   ·cases w.1<;>simp [iC,PyData.depth,PyData.depthAll]
   walk_at "rd";refine ⟨.inl ⟨rfl,_,aJ.of (s4 _ _ hX2)⟩,B,u,lo,b,w.1,w.2,rfl,hB.kt (YA zY),hu.tp (Xe (YA zY)),e2.tp k4,e3.kt (YA s4),by omega,pX,fun D H5 s5 gD hD=>?_⟩;have Jl:=s5 _ _ (s4 _ _ hX2);refine ⟨X,D,_,_,rfl,rfl,Jl,hD,few (by decide),?_⟩;have e:upd H5 X (.lst ([]++[]))=H5:=by
    funext b
    by_cases c:b=X
    ·rw [c,Yb,Jl];rfl
    ·rw [Yg c]
   rw [e];exact s4.trans s5
  ·rintro σ H' ⟨⟨o5,o6,rfl⟩,s4⟩
   refine rr _ _ ?_;walk_at "rd";exact q X H' (uV.trans s4) gX (s4 _ _ hX2)
theorem YgZ {fs:List (Str×V)} (h:fs.length<=3):fs.length<1000:=by omega
theorem n1 {a b:Str} (h:(a==b)=false):¬ a=b:=fun z=>by rw [z] at h;simp at h
theorem Ly {a b m:Str} {x y:V} (h:(m==a)=false) (h2:(m==b)=false):List.lookup m [(a,x),(b,y)]=none:=by rw [List.lookup_cons,h,List.lookup_cons,h2];rfl
theorem Vx {H:Hp} {a b:Addr} {o:HO} (h:upd H a o b=none):H b=none:=by
 by_cases e:b=a
 ·subst e;rw [Yb] at h;cases h
 ·rw [Yg e] at h;exact h
theorem QP {H H':Hp} {x dx:Addr} {o u:HO} (hx:H x=none) (hdx:H dx=none) (sb:SameBut x (upd (upd H dx o) x u) H'):Yf H H':=fun y z h=>by
 have n1:y≠x:=Ym h hx;have n2:y≠dx:=Ym h hdx;exact sb _ _ n1 (by rw [Yg n1,Yg n2];exact h)
def lf (b:V) (d:Addr):List (Str×V):=[("book",b),("makers",.ref d)]
theorem nbm:¬ (("book":Str)="makers"):=by decide +kernel
theorem Yg0 (b:V) (d:Addr):Xb "makers" (.ref d) (Xb "book" b [])=lf b d:=by
 simp only [Xb,if_neg nbm];rfl
inductive Jm (P:Program) (w:World) (C:Addr) (vs:List V) (H:Hp) (Q:VK) (E_:XK):Prop
 | mk (p dx:Addr) (b:V) (h0:vs=[.ref p,b]) (h1:H p=some (.ins C dx [])) (h2:∀ d H',H d=none->SameBut p H H'->H' p=some (.ins C dx (lf b d))->H' d=some (uh P w d [])->Q .non H')
theorem Z28 {Z0 Z3 Z1 Z4 Z2:Addr} {ao aj:Addr} {au aq:Addr} {aB aA:Addr} {aF aD:Addr} (R:g.gw "Lister" Z4 "Lister.__init__" zy ["self","book"]) (mU:Cls g.K Z4) (ZK:YZ g.K Z4 "book") (Zx:YZ g.K Z4 "makers"):g.Ma (1) "Lister" Z4 ["self","book"] (Jm g.P g.w Z4):=by
 refine R.ma Z20 (fun vs H Q E h=>by obtain ⟨p,dx,b,rfl,hp,q⟩:=h;rfl) fun f_ cdv A outer s H vs Q E hr h=>?_
 obtain ⟨p,dx,b,rfl,hp,q⟩:=h;refine ⟨_,(@Yd _ _ _ _ _ (@UF _ _ _ _ _ _ _ _ (pv 0) (pv 1) rfl) (@Ye _ _ _ (@UF _ _ _ _ _ _ _ _ (pv 0) Tz rfl))),?_⟩;walk_at "rd";refine ⟨Z4,dx,[],hp,mU,ZK,by decide,fun d hd=>?_⟩;have hne:p≠d:=Ym Yb hd;rw [Yg (Ne.symm hne)] at hd
 refine ⟨Z4,dx,_,by rw [Yg hne];exact Yb,mU,Zx,by simp [Xb],q d _ hd (fun x o hx h=>?_) ?_ ?_⟩
 ·rw [Yg hx,Yg (Ym h hd),Yg hx];exact h
 ·rw [Yb,Yg0]
 ·rw [Yg (Ne.symm hne),Yb]
  rfl
def fS (b:V) (ls:Addr):List (Str×V):=[("book",b),("lister",.ref ls)]
theorem Jo (b:V) (ls:Addr):(fS b ls).lookup ("book":Str)=some b:=rfl
theorem zZ {m:Str} (b:V) (ls:Addr) (h:(m==("book":Str))=false) (h2:(m==("lister":Str))=false):(fS b ls).lookup m=none:=Ly h h2
inductive Jp (CS:Addr) (vs:List V) (H:Hp) (Q:VK) (E_:XK):Prop
 | mk (st ds:Addr) (b:V) (h0:vs=[.ref st,b]) (h1:H st=some (.ins CS ds [])) (h2:∀ ls H',SameBut st H H'->H' st=some (.ins CS ds (fS b ls))->Q .non H')
theorem Z1O {k:Nat} {Z0 Z3 Z1 Z4 Z2:Addr} {ao aj:Addr} {au aq:Addr} {aB aA:Addr} {aF aD:Addr} (R:g.gw "Stepper" Z2 "Stepper.__init__" ZT ["self","book"]) {dh:Nat} (Z2j:g.Ma dh "Lister" Z4 ["self","book"] (Jm g.P g.w Z4)) (qD:dh+1<=k) (Za:Cls g.K Z2) (Z8:YZ g.K Z2 "book") (Z9:YZ g.K Z2 "lister"):g.Ma (k+1) "Stepper" Z2 ["self","book"] (Jp Z2):=by
 refine R.ma Z1M (fun vs H Q E h=>by obtain ⟨st,ds,b,rfl,hst,q⟩:=h;rfl) fun f_ cdv A outer s H vs Q E hr h=>?_
 obtain ⟨st,ds,b,rfl,hst,q⟩:=h;refine ⟨_,(@Yd _ _ _ _ _ (@UF _ _ _ _ _ _ _ _ (pv 0) (pv 1) rfl) (@Ye _ _ _ (@UF _ _ _ _ _ _ _ _ (pv 0) (@Fz _ _ _ _ _ _ _ _ _ _ _ _ _ Z2j hr (@Ya _ _ _ _ _ (pv 1) Yc (by rfl)) (by omega) (by rfl) (by rfl) (by decide) (by rfl) (by rfl)) rfl))),?_⟩;walk_at "rd";refine ⟨Z2,ds,_,hst,Za,Z8,by decide,fun ls dl gl Jq hne=>?_⟩;obtain ⟨H1,hH1⟩:∃ H1,H1=upd H st (.ins Z2 ds (Xb "book" b [])):=⟨_,rfl⟩;rw [<- hH1] at gl Jq ⊢
 have h1:H1 st=some (.ins Z2 ds (Xb "book" b [])):=by rw [hH1,Yb]
 refine ⟨ls,dl,b,rfl,Yb,fun d H2 gd sb hl hd=>⟨rfl,?_⟩⟩;have s2:=QP gl Jq sb;have h2:=s2 _ _ h1;refine ⟨Z2,ds,_,h2,Za,Z9,YgZ (show 1<=3 by decide),?_⟩;have fr:∀ {x:Addr} {o:HO},x≠st->H x=some o->H1 x=some o:=fun n e=>by rw [hH1,Yg n];exact e
 refine q ls _ (fun x o nx e=>by rw [Yg nx];exact s2 _ _ (fr nx e)) ?_;rw [Yb];refine congrArg some (congrArg (HO.ins _ _) ?_)
 show Xb "lister" (.ref ls) [(("book":Str),b)]=fS b ls
 simp only [Xb,if_neg (n1 (a:=("book":Str)) (b:=("lister":Str)) (by decide +kernel))];rfl
inductive pY (K:W.Frag) (CS:Addr) (vs:List V) (H:Hp) (Q:VK) (E_:XK):Prop
 | mk (st ds ls B:Addr) (lo:Int) (a:Addr) (s:Sk) (v:V) (I:Addr) (is_:List Addr) (L:List (Sk×V)) (h0:vs=[.ref st,.ref a,v,.ref I]) (h1:H st=some (.ins CS ds (fS (.ref B) ls))) (h2:bR H lo B) (h3:Xd H lo a s) (h4:Vk H lo s v) (h5:Wi H lo s v L) (h6:H I=some (.lst (is_.map V.ref))) (H0:_) (h7:(∀ a,H a=none->H0 a=none)) (h8:zV H0 H lo is_ L) (h9:∀ D H',Yf H H'->H D=none->Rs H0 H' lo s v D->Q (.ref D) H')
theorem CZ (d:V) (as:List V):wi [.str "",d] [[],as]=as.map fun s=>[.str "",s]:=by
 show (([0,1]:List Nat).map fun i=>(([[],as]:List (List V)).getD i []).map fun s=>([.str "",d]:List V).take i++[s]++([.str "",d]:List V).drop (i+1)).flatten=_
 simp
theorem Vn {lo:Int}:∀ {os os':List Nat},ofs lo os=ofs lo os'->os=os'
 | [],[],_=>rfl
 | [],_::_,h=>by cases h
 | _::_,[],h=>by cases h
 | o::os,o'::os',h=>by
  have h1:=V.int.inj (List.cons.inj h).1;rw [Vn (List.cons.inj h).2,show o=o' by omega]
theorem Jr {H:Hp} {lo:Int} {T:Addr} {os os':List Nat} {as:List Addr} (k:bw os) (h:H T=some (.lst (ofs lo os))) (h':H T=some (.lst (ofs lo os'))) (hl:Wl H lo as (stm os')):(([]:List V)++as.map V.ref).length<=20000:=by
 rw [h] at h'
 have e:=Vn (HO.lst.inj (Option.some.inj h'));have h1:=UZ os k.1;have h2:=F2.len hl;rw [List.nil_append,List.length_map,h2,<- e];omega
theorem Lz {H:Hp} {lo:Int} {T:Addr} {os os':List Nat} {as:List Addr} (k:bw os) (h:H T=some (.lst (ofs lo os))) (h':H T=some (.lst (ofs lo os'))) (hl:Wl H lo as (stm os')):as.length<=10200:=by
 rw [h] at h'
 have e:=Vn (HO.lst.inj (Option.some.inj h'));have h1:=UZ os k.1;have h2:=F2.len hl;rw [h2,<- e];omega
theorem Js {H:Hp}:∀ {ys:List V} {as:List Addr},ys.length=as.length->(∀ (j:Nat) y,ys[j]?=some y->∃ t d,y = .ref t/\as[j]?=some d/\H t=some (.tup [.str "",.ref d]))->∃ ts:List Addr,ys=ts.map V.ref/\F2 (fun t b=>H t=some (.tup [.str "",.ref b])) ts as
 | [],[],_,_=>⟨[],rfl,.nil⟩
 | y::ys,a::as,h,k=>by
  obtain ⟨ts,rfl,f⟩:=Js (ys:=ys) (as:=as) (Nat.succ.inj h) fun j y e=>k (j+1) y e
  obtain ⟨t,d,rfl,e,ht⟩:=k 0 y rfl
  cases Option.some.inj e
  exact ⟨t::ts,rfl,.cons ht f⟩
 | [],_::_,h,_=>by cases h
 | _::_,[],h,_=>by cases h
theorem Z1P {k:Nat} {Z0 Z3 Z1 Z4 Z2:Addr} {ao aj:Addr} {au aq:Addr} {aB aA:Addr} {aF aD:Addr} (R:g.eN Z2 "steps_by" "Stepper.steps_by" ZU ["self","shape","value","inner"]) (jr:g.Fn k "whole_steps" ["low","value"] (uR g.K)) (Jt:g.Fn k "without_each" ["things"] (uT g.K)) (Ju:g.Fn k "with_each_step" ["things","inner"] (pU g.K)) (zX:g.Fn k "things_at_use" ["book","use","shape","value"] (iB g.K 3)) (aP:g.mg "list"=none) (Z6:g.mg "tuple"=none) (Za:Cls g.K Z2) (Z8:YZ g.K Z2 "book") (Z9:YZ g.K Z2 "lister"):g.Me (k+1) Z2 "steps_by" ["self","shape","value","inner"] (pY g.K Z2):=by
 refine R.me ZP (fun vs H Q E h=>by obtain ⟨st,ds,ls,B,lo,a,s,v,I,is_,L,rfl,hst,hB,hS,hv,wi,hI,H0,z7,inn,q⟩:=h;rfl) fun f_ cdv A outer s H vs Q E hr h=>?_
 obtain ⟨st,ds,ls,B,lo,a,s,v,I,is_,L,rfl,hst,hB,hS,hv,wi,hI,H0,z7,inn,q⟩:=h;refine ⟨_,(@Yd _ _ _ _ _ (@YD _ _ (4) _ _ _ _ ZP.nd rfl (.inr rfl) (@Yy _ _ _ _ _ _ _ YM (pv 1) Yi (fun _ _=>rfl)) (by rfl) (by first | exact .inl rfl | exact .inr rfl | assumption)) (@Yd _ _ _ _ _ (@Yq _ _ _ _ _ _ _ _ (@Yo _ _ _ _ _ _ _ _ Yz (pv 4) Yp (Yk _)) (@Ye _ _ _ (@Yj _ _ _ _ (@Yv _ _ _ _ _ _ _ _ _ _ _ _ jr hr (@Ya _ _ _ _ _ (@Yy _ _ _ _ _ _ _ YM (pv 1) Yi (fun _ _=>rfl)) (@Ya _ _ _ _ _ (pv 2) Yc (by rfl)) (by rfl)) (by omega) (by rfl) (by rfl) (by decide) (by rfl) (by rfl)))) Yl) (@Yd _ _ _ _ _ (@Yq _ _ _ _ _ _ _ _ (@Yo _ _ _ _ _ _ _ _ Yz (pv 4) Yp (Yk _)) (@Ye _ _ _ (@Yj _ _ _ _ (@Yv _ _ _ _ _ _ _ _ _ _ _ _ Jt hr (@Ya _ _ _ _ _ (pv 2) Yc (by rfl)) (by omega) (by rfl) (by rfl) (by decide) (by rfl) (by rfl)))) Yl) (@Yd _ _ _ _ _ (@Yq _ _ _ _ _ _ _ _ (@Yo _ _ _ _ _ _ _ _ Yz (pv 4) Yp (Yk _)) (@Ye _ _ _ (@Yj _ _ _ _ (@XF _ _ _ _ _ _ _ ([none]) ((["things"]:List Str)) _ (YJ 0) _ _ (.own .nil) rfl (@Y1 _ _ _ _ (@Yv _ _ _ _ _ _ _ _ _ _ _ _ Ju hr (@Ya _ _ _ _ _ (@Vp _ _ _ _ _ _ _ _ _ _ aP VH (@Ya _ _ _ _ _ (pv 2) Yc (by rfl)) (by decide +kernel) (by rfl) (by rfl) (by decide) (by decide) (by rfl) (by rfl)) (@Ya _ _ _ _ _ (pv 3) Yc (by rfl)) (by rfl)) (by omega) (by rfl) (by rfl) (by decide) (by rfl) (by rfl))) (fun cl C s₀ H₀ fp pn=>(@YK _ _ (0) _ (show List.Nodup (["things"]:List Str) by decide +kernel) rfl (.inl rfl) (.inr rfl))) (fun cl C s₀ H₀ fp pn=>Xs) (fun cl C s₀ H₀ fp pn=>(@Vp _ _ _ _ _ _ _ _ _ _ Z6 (Qh (K:=g.K)) (@Ya _ _ _ _ _ (pv 0) Yc (by rfl)) (by decide +kernel) (by rfl) (by rfl) (by decide) (by decide) (by rfl) (by rfl))) (by intro x hx;simp at hx) (by rfl) (by decide) (by decide +kernel) (by intro _;rfl)))) Yl) (@Yd _ _ _ _ _ (@Yq _ _ _ _ _ _ _ _ (@Yo _ _ _ _ _ _ _ _ Yz (pv 4) Yp (Yk _)) (@Ye _ _ _ YU) Yl) (@Yd _ _ _ _ _ (@Yq _ _ _ _ _ _ _ _ (@Yo _ _ _ _ _ _ _ _ Yz (pv 4) Yp (Yk _)) (@Ye _ _ _ YU) Yl) (@Yd _ _ _ _ _ (@Yq _ _ _ _ _ _ _ _ (@Yo _ _ _ _ _ _ _ _ Yz (pv 4) Yp (Yk _)) (@Ye _ _ _ (@Yj _ _ _ _ (@Yx _ _ _ _ _ _ _ _ XB (@Yv _ _ _ _ _ _ _ _ _ _ _ _ zX hr (@Ya _ _ _ _ _ (@En _ _ _ _ _ (pv 0) rfl) (@Ya _ _ _ _ _ (pv 1) (@Ya _ _ _ _ _ (pv 1) (@Ya _ _ _ _ _ (pv 2) Yc (by rfl)) (by rfl)) (by rfl)) (by rfl)) (by omega) (by rfl) (by rfl) (by decide) (by rfl) (by rfl)) (@Yy _ _ _ _ _ _ _ Y8 (pv 3) Yi (fun _ _=>rfl))))) Yl) (@Yd _ _ _ _ _ (@YD _ _ (5) _ _ _ _ ZP.nd rfl (.inl rfl) (@Yx _ _ _ _ _ _ _ _ XB (@Yv _ _ _ _ _ _ _ _ _ _ _ _ Jt hr (@Ya _ _ _ _ _ (pv 2) Yc (by rfl)) (by omega) (by rfl) (by rfl) (by decide) (by rfl) (by rfl)) (@Yv _ _ _ _ _ _ _ _ _ _ _ _ Ju hr (@Ya _ _ _ _ _ (pv 2) (@Ya _ _ _ _ _ (pv 3) Yc (by rfl)) (by rfl)) (by omega) (by rfl) (by rfl) (by decide) (by rfl) (by rfl))) (by rfl) (by first | exact .inl rfl | exact .inr rfl | assumption)) (@Ye _ _ _ (@Yj _ _ _ _ (@XF _ _ _ _ _ _ _ ([none,some 4,some 1,some 0]) ((["step","kind","shape","self"]:List Str)) _ (YJ 0) _ _ (.own (.cap (i:=4) rfl rfl (by first | exact .inl rfl | exact .inr rfl) (.cap (i:=1) rfl rfl (by first | exact .inl rfl | exact .inr rfl) (.cap (i:=0) rfl rfl (by first | exact .inl rfl | exact .inr rfl) .nil)))) rfl (@Y1 _ _ _ _ (pv 5)) (fun cl C s₀ H₀ fp pn=>(@YK _ _ (0) _ (show List.Nodup (["step","kind","shape","self"]:List Str) by decide +kernel) rfl (.inl rfl) (.inr rfl))) (fun cl C s₀ H₀ fp pn=>(@Qa _ _ _ (@Wz _ _ _ _ _ _ _ (@Yo _ _ _ _ _ _ _ _ Yz (pv 1) Yp (Yk _)) (@WK _ _ _ _ Ss)).pt)) (fun cl C s₀ H₀ fp pn=>(pv 0)) (by intro x hx;simp at hx;first | (subst hx;exact .inl rfl) | (rcases hx with rfl | rfl<;>exact .inl rfl) | (rcases hx with rfl | rfl | rfl<;>exact .inl rfl) | (rcases hx with rfl | rfl | rfl | rfl<;>exact .inl rfl) | (rcases hx with rfl | rfl | rfl | rfl | rfl<;>exact .inl rfl)) (by rfl) (by decide) (by decide +kernel) (by intro _;rfl)))))))))))),?_⟩
 cases wi with
 | wh o ho =>
  have hS:H a=some (.tup [.str "whole",.int lo,.int (lo+1023)]):=hS;refine Yn fun R rr=>?_
  walk_at "rd";refine ⟨_,aK.of hS,_,Ys (j:=0) rfl,rr _ _ (dU rfl rfl ?_)⟩;walk_at "rd";exact ⟨_,aK.of hS,_,Ys (j:=1) rfl,lo,o,rfl,ho,fun D H' sm gD hD=>q D H' sm gD (.wh o D hD)⟩
 | tx =>
  have hS:H a=some (.tup [.str "text",.str "ab"]):=hS;refine Yn fun R rr=>?_
  walk_at "rd";refine ⟨_,aK.of hS,_,Ys (j:=0) rfl,rr _ _ (aU rfl (by decide +kernel) (dU rfl rfl ?_))⟩;walk_at "rd";refine ⟨.str "",[],rfl,.inl ⟨rfl,rfl⟩,by decide,fun D as H' sm gD hD nl=>?_⟩;have:as=[]:=List.length_eq_zero_iff.mp nl.len;subst this;exact q D H' sm gD (.tx _ D hD)
 | my T os hT hk =>
  obtain ⟨e,h0,h1⟩:=id hS;have hl:=hk.1;have ol:(ofs lo os).length=os.length:=List.length_map _;refine Yn fun R rr=>?_
  walk_at "rd";refine ⟨_,aK.of h0,_,Ys (j:=0) rfl,rr _ _ (aU rfl (by decide +kernel) (aU rfl (by decide +kernel) (aU rfl (by decide +kernel) (aU rfl (by decide +kernel) (aU rfl (by decide +kernel) (aU rfl (by decide +kernel) (Yn fun R rr=>?_)))))))⟩;walk_at "rd";have hss:=Jk inn;have il:=inn.len;rw [List.length_map,ol] at il
  have hsl:∀ s∈os.map (fun o=>ofs lo (cB o)),s.length<=100:=fun s hs=>by
   obtain ⟨o,_,rfl⟩:=List.mem_map.mp hs;have:=Ji o;rw [ofs,List.length_map];omega
  have hlen:∀ (as1 as2:List Addr),as1.length=(wo (ofs lo os)).length->as2.length=(KW.wi (ofs lo os) (os.map fun o=>ofs lo (cB o))).length->as1.length+as2.length<=10200:=fun as1 as2 h5 h4=>by
   have h3:=Q8 (us:=ofs lo os) hsl _ (Nat.le_refl _);rw [Jj] at h5
   unfold KW.wi at h4;rw [List.length_map] at h3 h4
   omega
  refine ⟨.ref T,ofs lo os,rfl,.inr ⟨T,rfl,hT⟩,by omega,fun D1 as1 H1 s1 gD1 hD1 eY=>⟨T,I,ofs lo os,is_,_,rfl,s1 _ _ hT,by omega,s1 _ _ hI,by omega,⟨hss.1,fun i c z e1 e2=>s1 _ _ (hss.2 i c z e1 e2)⟩,⟨100,hsl,by omega⟩,fun D2 as2 H2 s2 gD2 hD2 _ dN=>⟨D1,rfl,D2,rfl,_,s2 _ _ hD1,_,hD2,few ?_,fun p gp=>rr _ _ ?_⟩⟩⟩
  ·have:=hlen as1 as2 eY.len dN.len
   rw [List.length_map,List.length_map];omega
  have sp:=Yf.aG gp (.lst (as1.map V.ref++as2.map V.ref));have s3:=(s1.trans s2).trans sp;have uW:=hlen as1 as2 eY.len dN.len;walk_at "rd";refine Uq (K:=g.K) (xs:=as1.map V.ref++as2.map V.ref) (fun _=>true) (fun v=>v) (fun R r=>by walk_at "rd";exact r p _ (.refl _) (aJ.of Yb)) (by rw [List.length_append,List.length_map,List.length_map];omega) ?_ ?_ ?_
  ·intro x H' hx sm R r
   walk_at "rd";exact r H' (.refl _)
  ·intro x H' hx _ sm R r
   walk_at "rd";exact r H' (.refl _)
  ·intro D H' gD sm hD
   have s4:=s3.trans sm;rw [List.filter_eq_self.mpr (fun _ _=>rfl),List.map_id',<- List.map_append] at hD
   refine q D H' s4 (s3.free gD) (.my T os D (as1++as2) (s4 _ _ hT) hD ?_ fun a ha=>?_)
   rotate_left
   ·rcases List.mem_append.mp ha with ha | ha
    ·exact z7 a (eY.nw a ha)
    ·exact z7 a (s1.free (dN.nw a ha))
   have k1:Nl H H' as1 (wo (ofs lo os)):=⟨eY.len,eY.nw,eY.nd,fun i c z e1 e2=>sm _ _ (sp _ _ (s2 _ _ (eY.at_ i c z e1 e2)))⟩;have k2:Nl H1 H' as2 (KW.wi (ofs lo os) (os.map fun o=>ofs lo (cB o))):=⟨dN.len,dN.nw,dN.nd,fun i c z e1 e2=>sm _ _ (sp _ _ (dN.at_ i c z e1 e2))⟩;have f1:=zT lo os;have f2:F2 (F2 (Io lo)) (os.map fun o=>ofs lo (cB o)) (os.map cB):=F2.rng fun o _=>zT lo (cB o)
   exact F2.app (k1.all f1.wo) (k2.all (f1.wi f2))
 | us T os hT hk =>
  have h0:H a=some (.tup [.str "use",.str "row"]):=hS;refine Yn fun R rr=>?_
  walk_at "rd";refine ⟨_,aK.of h0,_,Ys (j:=0) rfl,rr _ _ (aU rfl (by decide +kernel) (aU rfl (by decide +kernel) (aU rfl (by decide +kernel) (aU rfl (by decide +kernel) (aU rfl (by decide +kernel) (dU rfl rfl ?_))))))⟩;walk_at "rd";refine ⟨_,_,_,hst,Za,Z8,_,Jo _ _,B,a,lo,a,.us,.ref T,rfl,hB,hS,hS,hv,by decide,by decide,fun D H1 s1 gD hD=>?_⟩;obtain ⟨a0,rfl⟩:∃ a0,is_=[a0]:=List.length_eq_one_iff.mp inn.len;have rs:Rs H0 H lo .my (.ref T) a0:=inn.get 0 a0 _ rfl rfl
  cases rs with
  | my _ os' _ as hT' hD' hl' hn' =>
   have uW:=UZ os;refine ⟨_,aJ.of (s1 _ _ hI),_,Ys (j:=0) rfl,D,rfl,a0,rfl,_,hD,_,s1 _ _ hD',few (by have h:=Jr hk hT hT' hl';rw [List.nil_append] at h;rw [List.length_nil];omega),fun p gp=>?_⟩;have sp:=s1.trans (.aG gp (.lst ([]++as.map V.ref)));exact q p _ sp (s1.free gp) (.us T os' p as (sp _ _ hT') Yb (hl'.same sp) hn')
 | ro a' T os ha hT hk =>
  obtain ⟨T',t,m,w,h1,h2,h3,h4,h5⟩:=hS;obtain ⟨i0,i1,rfl⟩:∃ i0 i1,is_=[i0,i1]:=by
   have:=inn.len
   match is_,this with
   | [i0,i1],_=>exact ⟨i0,i1,rfl⟩
  have r0:Rs H0 H lo .tx (.str "") i0:=inn.get 0 i0 _ rfl rfl;have r1:Rs H0 H lo .my (.ref T) i1:=inn.get 1 i1 _ rfl rfl;refine Yn fun R rr=>?_
  walk_at "rd";refine ⟨_,aK.of h1,_,Ys (j:=0) rfl,rr _ _ (aU rfl (by decide +kernel) (aU rfl (by decide +kernel) (dU rfl rfl ?_)))⟩;walk_at "rd"
  cases r0 with
  | tx _ _ hD0 =>
  cases r1 with
  | my _ os' _ as hT' hD1 hl' hn' =>
  have uW:=Jr hk hT hT' hl';rw [List.nil_append,List.length_map] at uW
  have uW:as.length<=10200:=Lz hk hT hT' hl';refine Sw (K:=g.K) (fun b xs H2=>∃ bs:List Addr,xs=bs.map V.ref/\Yf H H2/\H2 b=some (.lst (bs.map V.ref))/\F2 (fun c d=>H2 c=some (.lst [.str "",.ref d])) bs as) (fun R r=>?_) ?_
  ·walk_at "rd"
   refine ⟨_,.inr (aK.of ha),fun l gl=>?_⟩;have sl:=Yf.aG gl (.lst [.str "",.ref T]);refine ⟨l,I,[.str "",.ref T],[i0,i1],[[],as.map V.ref],rfl,Yb,by simp,sl _ _ hI,by simp,⟨rfl,fun i c z e1 e2=>?_⟩,?_,fun D bs H2 s2 gD hD _ nl=>?_⟩
   ·match i,e1,e2 with
    | 0,e1,e2=>cases Option.some.inj e1;cases Option.some.inj e2;exact sl _ _ hD0
    | 1,e1,e2=>cases Option.some.inj e1;cases Option.some.inj e2;exact sl _ _ hD1
   ·refine ⟨10200,fun s hs=>?_,by simp⟩
    simp only [List.mem_cons,List.not_mem_nil,or_false] at hs;rcases hs with rfl | rfl
    ·simp
    ·rw [List.length_map];omega
   ·rw [CZ] at nl
    refine r D _ H2 (aJ.of hD) ⟨bs,rfl,sl.trans s2,hD,?_⟩;refine F2.of (by rw [nl.len,List.length_map,List.length_map]) fun i c d e1 e2=>nl.at_ i c _ e1 (by rw [List.getElem?_map,List.getElem?_map,e2];rfl)
  ·rintro b xs H2 _ ⟨bs,rfl,s2,hb,fb⟩
   have bl:=fb.len;refine ⟨by rw [List.length_map];omega,fun D i y H'=>∃ t d,y = .ref t/\as[i]?=some d/\H' t=some (.tup [.str "",.ref d]),fun D i y Ha Hb ⟨t,d,e1,e2,e3⟩ s=>⟨t,d,e1,e2,s _ _ e3⟩,fun D i y Ha zs zs' ⟨t,d,e1,e2,e3⟩ hD=>⟨t,d,e1,e2,by rw [Yg (Xy e3 hD (by intro z;cases z))];exact e3⟩,?_,?_⟩
   ·intro D i x H' zs hx sm hD R r
    rw [List.getElem?_map] at hx
    obtain ⟨c,hc,rfl⟩:=Option.map_eq_some_iff.mp hx;have hi:=(List.getElem?_eq_some_iff.mp hc).1;have hd:as[i]?=some (as[i]'(by omega)):=List.getElem?_eq_getElem _;walk_at "rd";exact ⟨_,.inl ⟨aJ.of (sm _ _ (fb.get i c _ hc hd)),fun l gl=>r _ _ (.aG gl _) ⟨l,_,rfl,hd,Yb⟩⟩⟩
   ·intro D ys H' gD sm hD hyl hr
    have hyt:∃ ts:List Addr,ys=ts.map V.ref/\F2 (fun t b=>H' t=some (.tup [.str "",.ref b])) ts as:=by
     rw [List.length_map] at hyl
     exact Js (by omega) hr
    obtain ⟨ts,rfl,ht⟩:=hyt;have s3:=s2.trans sm;exact q D H' s3 (s2.free gD) (.ro a' T os' D ts as (s3 _ _ ha) (s3 _ _ hT') hD ht (hl'.same s3) hn')
inductive jX (K:W.Frag) (CS:Addr) (m:Nat) (vs:List V) (H:Hp) (Q:VK) (E_:XK):Prop
 | mk (st ds ls B:Addr) (lo:Int) (a:Addr) (s:Sk) (v:V) (h0:vs=[.ref st,.ref a,v]) (h1:H st=some (.ins CS ds (fS (.ref B) ls))) (h2:bR H lo B) (h3:Xd H lo a s) (h4:Vk H lo s v) (h5:dM s<=m) (h6:∀ D H',Yf H H'->H D=none->Rs H H' lo s v D->Q (.ref D) H')
theorem Dc {K:W.Frag} {CS:Addr} {vs:List V} {H:Hp} {Q:VK} {E:XK} (h:jX K CS 0 vs H Q E):False:=by
 obtain ⟨st,ds,ls,B,lo,a,s,v,_,_,_,_,_,h,_⟩:=h
 cases s<;>simp [dM] at h
theorem Dd {H H0 H':Hp} {lo:Int} {s:Sk} {v:V} {L:List (Sk×V)} (hv:Vk H lo s v) (wi:Wi H0 lo s v L) (k0:Yf H H0) (k:Yf H H'):Wi H' lo s v L:=by
 cases wi with
 | wh o ho=>exact .wh o ho
 | tx=>exact .tx
 | my D os h kk =>
  cases hv with
  | my _ os' h' iw =>
   rw [k0 _ _ h'] at h
   rw [<- Vn (HO.lst.inj (Option.some.inj h))];exact .my D os' (k _ _ h') iw
 | us D os h kk =>
  cases hv with
  | us _ os' h' iw=>exact .us D os' (k _ _ h') iw
 | ro a D os ha h kk =>
  cases hv with
  | ro _ D' os' ha' h' iw =>
   rw [k0 _ _ ha'] at ha
   cases ha
   exact .ro a D os' (k _ _ ha') (k _ _ h') iw
theorem Vk.al {H:Hp} {lo:Int} {s:Sk} {v:V} (h:Vk H lo s v):∀ T,v = .ref T->H T≠none:=by
 cases h with
 | wh o h=>intro T e;cases e
 | tx=>intro T e;cases e
 | my D os h kk=>intro T e;cases e;rw [h];simp
 | us D os h kk=>intro T e;cases e;rw [h];simp
 | ro a D os ha h kk=>intro T e;cases e;rw [ha];simp
inductive SfV (H0 H2:Hp) (lo:Int) (st a:Addr) (v:V) (I:Addr) (L:List (Sk×V)) (i:Nat) (σ:St) (H':Hp):Prop
 | mk (o4 o5:Option V) (is_:List Addr) (e:σ=[some (.ref st),some (.ref a),some v,some (.ref I),o4,o5]) (sb:SameBut I H2 H') (hI:H' I=some (.lst (is_.map V.ref))) (nI:I∉is_) (inn:zV H0 H' lo is_ (L.take i))
theorem ZC {k:Nat} {Z0 Z3 Z1 Z4 Z2:Addr} {ao aj:Addr} {au aq:Addr} {aB aA:Addr} {aF aD:Addr} (R:g.eN Z2 "steps_from" "Stepper.steps_from" ZG ["self","shape","value"]) (Zw:g.Fn k "things_within" ["book","shape","value"] (uN g.K)) (ZI:g.Me k Z2 "steps_from" ["self","shape","value"] (jX g.K Z2 m)) (Z29:g.Me k Z2 "steps_by" ["self","shape","value","inner"] (pY g.K Z2)) (Za:Cls g.K Z2) (Z8:YZ g.K Z2 "book") (Z9:YZ g.K Z2 "lister"):g.Me (k+1) Z2 "steps_from" ["self","shape","value"] (jX g.K Z2 (m+1)):=by
 refine R.me Zl (fun vs H Q E h=>by obtain ⟨st,ds,ls,B,lo,a,s,v,rfl,hst,hB,hS,hv,hm,q⟩:=h;rfl) fun f_ cdv A outer s H vs Q E hr h=>?_
 obtain ⟨st,ds,ls,B,lo,a,s,v,rfl,hst,hB,hS,hv,hm,q⟩:=h;refine ⟨_,(@Yd _ _ _ _ _ (@YD _ _ (3) _ _ _ _ Zl.nd rfl (.inl rfl) (@YY _ _ _ _ Yc) (by rfl) (by first | exact .inl rfl | exact .inr rfl | assumption)) (@Yd _ _ _ _ _ (@XR _ _ _ _ _ _ _ _ PassesOwn.never rfl (@Y1 _ _ _ _ (@Yv _ _ _ _ _ _ _ _ _ _ _ _ Zw hr (@Ya _ _ _ _ _ (@En _ _ _ _ _ (pv 0) rfl) (@Ya _ _ _ _ _ (pv 1) (@Ya _ _ _ _ _ (pv 2) Yc (by rfl)) (by rfl)) (by rfl)) (by omega) (by rfl) (by rfl) (by decide) (by rfl) (by rfl))) (@VD _ _ _ _ _ (2) rfl (@Xo _ _ _ _ _ (@YK _ _ (4) _ Zl.nd rfl (.inl rfl) (by first | exact .inl rfl | exact .inr rfl | assumption)) (@Xo _ _ _ _ _ (@YK _ _ (5) _ Zl.nd rfl (.inl rfl) (by first | exact .inl rfl | exact .inr rfl | assumption)) Va (by rfl)) (by rfl)) (by rfl) (by rfl)) (@Ye _ _ _ (@Xk _ _ _ _ (@WC _ _ _ _ _ _ _ _ _ _ _ _ F.plainAttrs_list F.slot_list_append F.type_list_append XH (pv 3) (@Ya _ _ _ _ _ (@wU _ _ _ _ _ _ _ _ _ _ _ _ _ _ _ _ ZI Za hr (pv 0) (@Ya _ _ _ _ _ (pv 4) (@Ya _ _ _ _ _ (pv 5) Yc (by rfl)) (by rfl)) (by omega) (by rfl) (by rfl) (by rfl) (by rfl)) Yc (by rfl)) (by rfl) (by rfl) (by rfl) (by rfl) (by rfl)) (by rfl))) (by intro _;rfl)) (@Ye _ _ _ (@Yj _ _ _ _ (@wU _ _ _ _ _ _ _ _ _ _ _ _ _ _ _ _ Z29 Za hr (pv 0) (@Ya _ _ _ _ _ (pv 1) (@Ya _ _ _ _ _ (pv 2) (@Ya _ _ _ _ _ (pv 3) Yc (by rfl)) (by rfl)) (by rfl)) (by omega) (by rfl) (by rfl) (by rfl) (by rfl)))))),?_⟩;refine Yn fun R rr=>?_
 walk_at "rd";refine ⟨few (by decide),fun I gI=>rr _ _ (Yn fun R rr=>?_)⟩;have sI:=Yf.aG gI (.lst []);have kI:=YA sI;refine Wb (fun l xs H2=>∃ (ts:List Addr) (L:List (Sk×V)),xs=ts.map V.ref/\Yf (upd H I (.lst [])) H2/\H2 l=some (.lst (ts.map V.ref))/\l≠I/\ts.length<=100/\uM H2 lo ts L/\Wi (upd H I (.lst [])) lo s v L) (fun R r=>?_) ?_
 ·walk_at "rd"
  exact ⟨_,_,_,sI _ _ hst,Za,Z8,_,Jo _ _,B,lo,a,s,v,rfl,hB.kt kI,hS.tp (Xe kI),hv.kt kI,fun D ts L H' s' gD hD hl pr wi=>r D _ H' (aJ.of hD) ⟨ts,L,rfl,s',hD,(fun e=>by rw [e,Yb] at gD;cases gD),hl,pr,wi⟩⟩
 ·rintro l xs0 H2 _ ⟨ts,L,rfl,s2,hl,hlI,CT,pr,wi⟩
  have ou:=pr.1;have uV:=sI.trans s2;have Jv:upd H I (.lst []) I≠none:=by rw [Yb];simp
  have oldS:∀ {H':Hp},SameBut I H2 H'->Yf H H':=fun sb b o e=>sb b o (Ym e gI) (uV _ _ e)
  have fr:∀ {H':Hp},SameBut I H2 H'->H' I≠none->∀ x,H' x=none->upd H I (.lst []) x=none:=fun {H'} sb hI' x e=>by
   cases h:upd H I (.lst []) x with
   | none=>rfl
   | some o =>
    by_cases c:x=I
    ·rw [c] at e;exact absurd e hI'
    ·rw [sb x o c (s2 _ _ h)] at e;cases e
  refine ⟨SfV (upd H I (.lst [])) H2 lo st a v I L,⟨none,none,[],rfl,fun _ _ _ e=>e,s2 _ _ Yb,by simp,.nil⟩,fun i σ H' _ ⟨_,_,_,_,sb,_,_,_⟩=>aJ.of (sb _ _ hlI hl),?_,?_⟩
  ·rintro i x σ H' hx ⟨o4,o5,is_,rfl,sb,hI,nI,inn⟩
   rw [List.getElem?_map] at hx
   obtain ⟨t,ht,rfl⟩:=Option.map_eq_some_iff.mp hx;have hi:=(List.getElem?_eq_some_iff.mp ht).1;have hwi:L[i]?=some (L[i]'(by omega)):=List.getElem?_eq_getElem _;generalize L[i]'(by omega)=w at hwi;have iy:=List.mem_of_getElem? hwi;obtain ⟨c,e1,e2,e3⟩:=pr.2 i t w ht hwi;have lv:=wi.lv w iy;have pX:∀ w∈L,w.1 ≠ .ro:=fun w hw z=>by have lv:=wi.lv w hw;rw [z] at lv;cases s<;>simp [dM] at lv
   have Jw:Tp H2 H':=fun b ys e=>sb b _ (fun z=>by rw [z,s2 _ _ Yb] at e;cases e) e
   have k5:=oldS sb;have il:=inn.len;rw [List.length_take] at il
   have vk:∀ w∈L,Vk H lo w.1 w.2:=IV hv wi sI (.refl _);refine ⟨t,_,rfl,aK.of (Jw _ _ e1),rfl,_,_,rfl,_,_,rfl,rfl,?_⟩;walk_at "rd";refine ⟨.inl ⟨rfl,_,aJ.of hI⟩,_,_,k5 _ _ hst,zZ _ _ (by decide +kernel) (by decide +kernel),st,ds,ls,B,lo,c,w.1,w.2,rfl,k5 _ _ hst,hB.kt (YA k5),e2.tp Jw,(vk w iy).kt (YA k5),by omega,fun D H5 s5 gD rs=>?_⟩;have hI5:=s5 _ _ hI;have DI:D≠I:=fun z=>by rw [z,hI] at gD;cases gD
   have nv:∀ w∈L,∀ T,w.2 = .ref T->T≠I:=fun w hw T e z=>by
    have:=(vk w hw).al T e;rw [z,gI] at this
    exact this rfl
   refine ⟨_,hI5,few (by rw [List.length_map];omega),_,_,is_++[D],rfl,fun b o nb e=>by rw [Yg nb];exact s5 _ _ (sb b o nb e),by rw [Yb,List.map_append];rfl,fun h=>?_,?_⟩
   ·rcases List.mem_append.mp h with h | h
    ·exact nI h
    ·exact DI (List.mem_singleton.mp h).symm
   ·rw [Xw hwi]
    refine F2.app (F2.mono inn fun a ha w' hw' h=>?_) (.cons ((rs.old (fr sb (by rw [hI];simp))).own (nv w iy) (pX w iy) DI Jv) .nil);have hw2:=List.mem_of_mem_take hw';exact (h.same s5).own (nv w' hw2) (pX w' hw2) (fun z=>nI (by rw [<- z];exact ha)) Jv
  ·rintro σ H' ⟨o4,o5,is_,rfl,sb,hI,nI,inn⟩
   refine rr _ _ ?_;rw [List.length_map,ou,List.take_length] at inn
   have k5:=oldS sb;have wi':Wi H' lo s v L:=Dd hv wi sI k5;walk_at "rd";refine ⟨_,_,k5 _ _ hst,zZ _ _ (by decide +kernel) (by decide +kernel),st,ds,ls,B,lo,a,s,v,I,is_,L,rfl,k5 _ _ hst,hB.kt (YA k5),hS.tp (Xe (YA k5)),hv.kt (YA k5),wi',hI,_,fr sb (by rw [hI];simp),inn,fun D H3 s3 gD rs=>q D H3 (k5.trans s3) (k5.free gD) (rs.old fun x e=>Vx e)⟩
inductive Cq
 | cI (i:Int)
 | st (s:Str)
 | os (os:List Nat)
 | ro (os:List Nat)
 | dl (L:List (List Nat))
 | dr (L:List (List Nat))
def dep:Cq->Nat
 | .cI _=>1
 | .st _=>1
 | .os _=>2
 | .ro _=>3
 | .dl _=>3
 | .dr _=>4
def cty:Cq->Nat
 | .cI _=>0
 | .st _=>0
 | .os _=>2
 | .ro _=>1
 | .dl _=>2
 | .dr _=>2
def bU (lo:Int):Cq->List Cq
 | .os os=>os.map fun (o:Nat) => .cI (lo+(o:Nat))
 | .ro os=>[.st "",.os os]
 | .dl L=>L.map .os
 | .dr L=>L.map .ro
 | _=>[]
def jg:Cq->Prop
 | .os os=>os.length<=100
 | .ro os=>os.length<=100
 | .dl L=>L.length<=20000/\∀ xs∈L,xs.length<=100
 | .dr L=>L.length<=20000/\∀ xs∈L,xs.length<=100
 | _=>True
theorem jg.sub {lo:Int} {c e:Cq} (h:jg c) (he:e∈bU lo c):jg e/\dep e<dep c:=by
 cases c with
 | cI i=>cases he
 | st s=>cases he
 | os os=>obtain ⟨x,_,rfl⟩:=List.mem_map.mp he;exact ⟨trivial,by simp [dep]⟩
 | ro os =>
  simp only [bU,List.mem_cons,List.not_mem_nil,or_false] at he;rcases he with rfl | rfl
  ·exact ⟨trivial,by simp [dep]⟩
  ·exact ⟨h,by simp [dep]⟩
 | dl L=>obtain ⟨x,hx,rfl⟩:=List.mem_map.mp he;exact ⟨h.2 x hx,by simp [dep]⟩
 | dr L=>obtain ⟨x,hx,rfl⟩:=List.mem_map.mp he;exact ⟨h.2 x hx,by simp [dep]⟩
theorem jg.len {lo:Int} {c:Cq} (h:jg c):(bU lo c).length<=20000:=by
 cases c with
 | cI i=>exact Nat.zero_le _
 | st s=>exact Nat.zero_le _
 | os os=>rw [bU,List.length_map];have h:os.length<=100:=h;omega
 | ro os=>simp [bU]
 | dl L=>rw [bU,List.length_map];exact h.1
 | dr L=>rw [bU,List.length_map];exact h.1
inductive aL (U:Addr->Prop) (H:Hp) (lo:Int):V->Cq->Prop
 | cI (i:Int):aL U H lo (.int i) (.cI i)
 | st (s:Str):aL U H lo (.str s) (.st s)
 | tup (a:Addr) (us:List V) (c:Cq) (hc:cty c=1) (h:H a=some (.tup us)) (hl:us.length=(bU lo c).length) (k:∀ (i:Nat) u e,us[i]?=some u->(bU lo c)[i]?=some e->aL U H lo u e):aL U H lo (.ref a) c
 | lst (a:Addr) (us:List V) (c:Cq) (hc:cty c=2) (hu:U a) (h:H a=some (.lst us)) (hl:us.length=(bU lo c).length) (k:∀ (i:Nat) u e,us[i]?=some u->(bU lo c)[i]?=some e->aL U H lo u e):aL U H lo (.ref a) c
theorem aL.go {U U':Addr->Prop} {H H':Hp} {lo:Int} {v:V} {c:Cq} (h:aL U H lo v c) (t:Tp H H') (l:∀ a us,U a->H a=some (.lst us)->H' a=some (.lst us)) (u:∀ a,U a->U' a):aL U' H' lo v c:=by
 induction h with
 | cI i=>exact .cI i
 | st z=>exact .st z
 | tup a us c hc h hl k ih=>exact .tup a us c hc (t _ _ h) hl ih
 | lst a us c hc hu h hl k ih=>exact .lst a us c hc (u a hu) (l _ _ hu h) hl ih
theorem aL.kt {U:Addr->Prop} {H H':Hp} {lo:Int} {v:V} {c:Cq} (h:aL U H lo v c) (s:Kt H H'):aL U H' lo v c:=h.go (Xe s) (fun _ _ _ e=>s.lst e) fun _ z=>z
theorem aL.same {U:Addr->Prop} {H H':Hp} {lo:Int} {v:V} {c:Cq} (h:aL U H lo v c) (s:Yf H H'):aL U H' lo v c:=h.kt (YA s)
theorem aL.imp {U U':Addr->Prop} {H:Hp} {lo:Int} {v:V} {c:Cq} (h:aL U H lo v c) (u:∀ a,U a->U' a):aL U' H lo v c:=h.go (fun _ _ e=>e) (fun _ _ _ e=>e) u
theorem aL.own {U:Addr->Prop} {H:Hp} {lo:Int} {v:V} {c:Cq} {D:Addr} {zs zs':List V} (h:aL U H lo v c) (hD:H D=some (.lst zs)) (hu:¬ U D):aL U (upd H D (.lst zs')) lo v c:=h.go (Iv hD) (fun a us ua e=>by rw [Yg fun z=>hu (by rw [<- z];exact ua)];exact e) fun _ z=>z
inductive fU (m:Nat) (vs:List V) (H:Hp) (Q:VK) (E_:XK):Prop
 | mk (v:V) (lo:Int) (c:Cq) (h0:vs=[v]) (h1:aL (fun _=>True) H lo v c) (h2:jg c) (h3:dep c<=m) (h4:dep c<=4) (h5:∀ v' H',Yf H H'->aL (fun a=>H a=none) H' lo v' c->Q v' H')
theorem Yd4 {vs:List V} {H:Hp} {Q:VK} {E:XK} (h:fU 0 vs H Q E):False:=by
 obtain ⟨v,lo,c,_,_,_,h,_⟩:=h
 cases c<;>simp [dep] at h
theorem uX {k:Nat} {Z0 Z3 Z1 Z4 Z2:Addr} {ao aj:Addr} {au aq:Addr} {aB aA:Addr} {aF aD:Addr} (R:g.Raw "copied" "copied" Ux ["thing"]) (ZV:g.Fn k "copied" ["thing"] (fU m)) (cV:g.mg "dict"=none) (Z5:g.mg "isinstance"=none) (aP:g.mg "list"=none) (Z6:g.mg "tuple"=none):g.Fn (k+1) "copied" ["thing"] (fU (m+1)):=by
 refine R.fn YdR (fun vs H Q E h=>by obtain ⟨v,lo,c,rfl,hv,ok,hm,h4,q⟩:=h;rfl) fun f_ cdv A outer s H vs Q E hr h=>?_
 obtain ⟨v,lo,c,rfl,hv,ok,hm,h4,q⟩:=h;refine ⟨_,(@Yd _ _ _ _ _ (@Yq _ _ _ _ _ _ _ _ (@Y0 _ _ _ (@YQ _ _ _ _ _ _ _ _ _ _ Z5 YO (@Ya _ _ _ _ _ (pv 0) (@Ya _ _ _ _ _ (@Y4 _ _ _ _ ("list") aP (by decide +kernel) (by rfl) (by rfl) (by decide) (by decide)) Yc (by rfl)) (by rfl)) (by decide +kernel) (by rfl) (by rfl) (by decide) (by decide) (by rfl) (by rfl)) (by intro _;rfl)) (@Ye _ _ _ (@Yj _ _ _ _ (@XF _ _ _ _ _ _ _ ([none]) ((["each"]:List Str)) _ (YJ 0) _ _ (.own .nil) rfl (@Y1 _ _ _ _ (pv 0)) (fun cl C s₀ H₀ fp pn=>(@YK _ _ (0) _ (show List.Nodup (["each"]:List Str) by decide +kernel) rfl (.inl rfl) (.inr rfl))) (fun cl C s₀ H₀ fp pn=>Xs) (fun cl C s₀ H₀ fp pn=>(@Yv _ _ _ _ _ _ _ _ _ _ _ _ ZV hr (@Ya _ _ _ _ _ (pv 0) Yc (by rfl)) (by omega) (by rfl) (by rfl) (by decide) (by rfl) (by rfl))) (by intro x hx;simp at hx) (by rfl) (by decide) (by decide +kernel) (by intro _;rfl)))) Yl) (@Yd _ _ _ _ _ (@Yq _ _ _ _ _ _ _ _ (@Y0 _ _ _ (@YQ _ _ _ _ _ _ _ _ _ _ Z5 YO (@Ya _ _ _ _ _ (pv 0) (@Ya _ _ _ _ _ (@Y4 _ _ _ _ ("tuple") Z6 (by decide +kernel) (by rfl) (by rfl) (by decide) (by decide)) Yc (by rfl)) (by rfl)) (by decide +kernel) (by rfl) (by rfl) (by decide) (by decide) (by rfl) (by rfl)) (by intro _;rfl)) (@Ye _ _ _ (@Yj _ _ _ _ (@Vp _ _ _ _ _ _ _ _ _ _ Z6 XA (@Ya _ _ _ _ _ (@XF _ _ _ _ _ _ _ ([none]) ((["each"]:List Str)) _ (YJ 0) _ _ (.own .nil) rfl (@DW _ _ _ _ (pv 0)) (fun cl C s₀ H₀ fp pn=>(@YK _ _ (0) _ (show List.Nodup (["each"]:List Str) by decide +kernel) rfl (.inl rfl) (.inr rfl))) (fun cl C s₀ H₀ fp pn=>Xs) (fun cl C s₀ H₀ fp pn=>(@Yv _ _ _ _ _ _ _ _ _ _ _ _ ZV hr (@Ya _ _ _ _ _ (pv 0) Yc (by rfl)) (by omega) (by rfl) (by rfl) (by decide) (by rfl) (by rfl))) (by intro x hx;simp at hx) (by rfl) (by decide) (by decide +kernel) (by intro _;rfl)) Yc (by rfl)) (by decide +kernel) (by rfl) (by rfl) (by decide) (by decide) (by rfl) (by rfl)))) Yl) (@Yd _ _ _ _ _ (@Yq _ _ _ _ _ _ _ _ (@Y0 _ _ _ (@YQ _ _ _ _ _ _ _ _ _ _ Z5 YO (@Ya _ _ _ _ _ (pv 0) (@Ya _ _ _ _ _ (@Y4 _ _ _ _ ("dict") cV (by decide +kernel) (by rfl) (by rfl) (by decide) (by decide)) Yc (by rfl)) (by rfl)) (by decide +kernel) (by rfl) (by rfl) (by decide) (by decide) (by rfl) (by rfl)) (by intro _;rfl)) (@Ye _ _ _ YU) Yl) (@Ye _ _ _ (@Yj _ _ _ _ (pv 0)))))),?_⟩
 cases hv with
 | cI i =>
  walk_at "rd";exact ⟨_,rfl,_,.int i,false,rfl,Yu (by decide) ⟨_,rfl,_,.int i,false,rfl,Yu (by decide) ⟨_,rfl,_,.int i,false,rfl,Yu (by decide) (q _ H (.refl _) (.cI i))⟩⟩⟩
 | st z =>
  walk_at "rd";exact ⟨_,rfl,_,.str z,false,rfl,Yu (by decide) ⟨_,rfl,_,.str z,false,rfl,Yu (by decide) ⟨_,rfl,_,.str z,false,rfl,Yu (by decide) (q _ H (.refl _) (.st z))⟩⟩⟩
 | tup a us c hc ha hl k =>
  have ol:=ok.len (lo:=lo);walk_at "rd";refine ⟨_,rfl,_,.tup ha,false,rfl,Yu (by decide) ⟨_,rfl,_,.tup ha,true,rfl,YT rfl ?_⟩⟩;refine R9 (K:=g.K) (b:=a) (xs:=us) (fun D i y Hx=>∀ e,(bU lo c)[i]?=some e->aL (fun a=>H a=none/\a≠D) Hx lo y e) (fun D i y Ha Hb h s e he=>(h e he).same s) (fun D i y Hx zs zs' h hD e he=>(h e he).own hD fun z=>z.2 rfl) (fun R r=>by walk_at "rd";exact r) (aK.of ha) (by omega) ?_ ?_
  ·intro D i x H' zs hx sm hd R r
   have hi:=(List.getElem?_eq_some_iff.mp hx).1;have he:(bU lo c)[i]?=some ((bU lo c)[i]'(by omega)):=List.getElem?_eq_getElem _;generalize (bU lo c)[i]'(by omega)=e at he;have sb:=ok.sub (List.mem_of_getElem? he);walk_at "rd";refine ⟨x,lo,e,rfl,(k i x e hx he).same sm,sb.1,by omega,by omega,fun v' aO s'' hv'=>r v' aO s'' fun e' he'=>?_⟩;rw [he] at he'
   cases Option.some.inj he'
   exact hv'.imp fun b hb=>⟨sm.free hb,fun z=>by rw [z,hd] at hb;cases hb⟩
  ·intro D ys H' hD sm hd hly hr
   refine ⟨D,rfl,_,.inl ⟨aJ.of hd,fun l gl=>?_⟩⟩;have s2:=Yf.aG gl (.tup ys);exact q (.ref l) _ (sm.trans s2) (.tup l ys c hc Yb (by omega) fun i u e e1 e2=>((hr i u e1 e e2).same s2).imp fun _ z=>z.1)
 | lst a us c hc _ ha hl k =>
  have ol:=ok.len (lo:=lo);walk_at "rd";refine ⟨_,rfl,_,.lst ha,true,rfl,YT rfl ?_⟩;refine R8 (K:=g.K) (b:=a) (xs:=us) (fun D i y Hx=>∀ e,(bU lo c)[i]?=some e->aL (fun a=>H a=none/\a≠D) Hx lo y e) (fun D i y Ha Hb h s e he=>(h e he).same s) (fun D i y Hx zs zs' h hD e he=>(h e he).own hD fun z=>z.2 rfl) (fun R r=>by walk_at "rd";exact r) (aJ.of ha) (by omega) ?_ ?_
  ·intro D i x H' zs hx sm hd R r
   have hi:=(List.getElem?_eq_some_iff.mp hx).1;have he:(bU lo c)[i]?=some ((bU lo c)[i]'(by omega)):=List.getElem?_eq_getElem _;generalize (bU lo c)[i]'(by omega)=e at he;have sb:=ok.sub (List.mem_of_getElem? he);walk_at "rd";refine ⟨x,lo,e,rfl,(k i x e hx he).same sm,sb.1,by omega,by omega,fun v' aO s'' hv'=>r v' aO s'' fun e' he'=>?_⟩;rw [he] at he'
   cases Option.some.inj he'
   exact hv'.imp fun b hb=>⟨sm.free hb,fun z=>by rw [z,hd] at hb;cases hb⟩
  ·intro D ys H' hD sm hd hly hr
   exact q (.ref D) _ sm (.lst D ys c hc hD hd (by omega) fun i u e e1 e2=>(hr i u e1 e e2).imp fun _ z=>z.1)
section
 variable {U:Addr->Prop} {H:Hp} {lo:Int}
theorem z8 {v:V} {c:Cq} (h:aL U H lo v c) (hc:cty c=2):∃ a us,v = .ref a/\U a/\H a=some (.lst us)/\F2 (aL U H lo) us (bU lo c):=by
 cases h with
 | cI i=>cases hc
 | st z=>cases hc
 | tup a us c h1=>rw [hc] at h1;cases h1
 | lst a us c h1 hu ha hl k=>exact ⟨a,us,rfl,hu,ha,.of hl k⟩
theorem Df {v:V} {s:Str} (h:aL U H lo v (.st s)):v = .str s:=by
 generalize hc:Cq.st s=c at h
 cases h with
 | cI i=>cases hc
 | st z=>cases hc;rfl
 | tup a us c h1=>subst hc;cases h1
 | lst a us c h1=>subst hc;cases h1
theorem Dg {v:V} {s:Int} (h:aL U H lo v (.cI s)):v = .int s:=by
 generalize hc:Cq.cI s=c at h
 cases h with
 | cI i=>cases hc;rfl
 | st z=>cases hc
 | tup a us c h1=>subst hc;cases h1
 | lst a us c h1=>subst hc;cases h1
theorem Wn {v:V} {os:List Nat} (h:aL U H lo v (.os os)):∃ D,v = .ref D/\U D/\H D=some (.lst (ofs lo os)):=by
 obtain ⟨a,us,rfl,hu,ha,f⟩:=z8 h rfl;refine ⟨a,rfl,hu,?_⟩;rw [ha,zU (lo:=lo) (os:=os) ((F2.unmap f).imp fun v o z=>Dg z)]
theorem Vy {D:Addr} {os:List Nat} (hu:U D) (h:H D=some (.lst (ofs lo os))):aL U H lo (.ref D) (.os os):=by
 refine .lst D _ _ rfl hu h (by rw [bU,ofs,List.length_map,List.length_map]) fun i u e e1 e2=>?_
 rw [bU,List.getElem?_map] at e2
 obtain ⟨o,ho,rfl⟩:=Option.map_eq_some_iff.mp e2;rw [ofs,List.getElem?_map,ho] at e1
 cases Option.some.inj e1
 exact .cI _
theorem Ua {v:V} {os:List Nat} (h:aL U H lo v (.ro os)):∃ a D,v = .ref a/\H a=some (.tup [.str "",.ref D])/\U D/\H D=some (.lst (ofs lo os)):=by
 generalize hc:Cq.ro os=c at h
 cases h with
 | cI i=>cases hc
 | st z=>cases hc
 | lst a us c h1=>subst hc;cases h1
 | tup a us c h1 ha hl k =>
  subst hc
  match us,hl with
  | [u0,u1],_ =>
   cases Df (k 0 _ _ rfl rfl)
   obtain ⟨D,rfl,hu,hD⟩:=Wn (k 1 _ _ rfl rfl);exact ⟨a,D,rfl,ha,hu,hD⟩
theorem Jx {a D:Addr} {os:List Nat} (ha:H a=some (.tup [.str "",.ref D])) (hu:U D) (h:H D=some (.lst (ofs lo os))):aL U H lo (.ref a) (.ro os):=by
 refine .tup a _ _ rfl ha rfl fun i u e e1 e2=>?_
 match i,e1,e2 with
 | 0,e1,e2=>cases Option.some.inj e1;cases Option.some.inj e2;exact .st _
 | 1,e1,e2=>cases Option.some.inj e1;cases Option.some.inj e2;exact Vy hu h
end
def vc:Bool->List Nat->Cq
 | false => .os
 | true => .ro
def vcs:Bool->List (List Nat)->Cq
 | false => .dl
 | true => .dr
def kdS (s:Sk):Bool:=s = .ro
theorem z9 {U:Addr->Prop} {H:Hp} {lo:Int} {v:V} {os:List Nat} {s:Sk} (hs:s = .my\/s = .us\/s = .ro) (h:aL U H lo v (vc (kdS s) os)) (k:bw os):Vk H lo s v:=by
 rcases hs with rfl | rfl | rfl
 ·obtain ⟨D,rfl,_,hD⟩:=Wn (show aL U H lo v (.os os) from h);exact .my D os hD k
 ·obtain ⟨D,rfl,_,hD⟩:=Wn (show aL U H lo v (.os os) from h);exact .us D os hD k
 ·obtain ⟨a,D,rfl,ha,_,hD⟩:=Ua (show aL U H lo v (.ro os) from h);exact .ro a D os ha hD k
theorem Jy {lo:Int} {b:Bool} {L:List (List Nat)}:bU lo (vcs b L)=L.map (vc b):=by cases b<;>rfl
theorem Jz (b:Bool) (L:List (List Nat)):cty (vcs b L)=2:=by cases b<;>rfl
theorem Yg1 {b:Bool} {L:List (List Nat)} (h1:L.length<=20000) (h2:∀ xs∈L,xs.length<=100):jg (vcs b L):=by cases b<;>exact ⟨h1,h2⟩
theorem JB {b:Bool} {os:List Nat} (h:os.length<=100):jg (vc b os):=by cases b<;>exact h
theorem JC (b:Bool) (os:List Nat):dep (vc b os)<=3:=by cases b<;>simp [dep,vc]
theorem JD (b:Bool) (L:List (List Nat)):dep (vcs b L)<=4:=by cases b<;>simp [dep,vcs]
theorem Yg2 (os:List Nat) (h:os.length<=100):∀ xs∈stm os,xs.length<=100:=by
 intro z hz;rcases List.mem_append.mp hz with hz | hz
 ·obtain ⟨i,_,rfl⟩:=List.mem_map.mp hz
  rw [List.length_append,List.length_take,List.length_drop];omega
 ·obtain ⟨l,hl,hz⟩:=List.mem_flatten.mp hz
  obtain ⟨i,hi,rfl⟩:=List.mem_map.mp hl;obtain ⟨s,_,rfl⟩:=List.mem_map.mp hz;rw [List.mem_range,List.length_map] at hi
  rw [List.length_append,List.length_append,List.length_take,List.length_drop,List.length_singleton];omega
theorem Dh {H0 H:Hp} {lo:Int} {s:Sk} {v:V} {D:Addr} {os:List Nat} (rs:Rs H0 H lo s v D) (hs:s = .my\/s = .us\/s = .ro) (hv:aL (fun _=>True) H lo v (vc (kdS s) os)):aL (fun _=>True) H lo (.ref D) (vcs (kdS s) (stm os)):=by
 have key:∀ {T:Addr} {os':List Nat},H T=some (.lst (ofs lo os'))->H T=some (.lst (ofs lo os))->os'=os:=fun h1 h2=>by
  rw [h1] at h2
  exact Vn (HO.lst.inj (Option.some.inj h2))
 have two:∀ {as:List Addr},H D=some (.lst (as.map V.ref))->Wl H lo as (stm os)->aL (fun _=>True) H lo (.ref D) (.dl (stm os)):=fun {as} hD hl=>by
  refine .lst D _ _ rfl trivial hD (by rw [bU,List.length_map,List.length_map,F2.len hl]) fun i u e e1 e2=>?_
  rw [bU,List.getElem?_map] at e2
  obtain ⟨o,ho,rfl⟩:=Option.map_eq_some_iff.mp e2;rw [List.getElem?_map] at e1
  obtain ⟨b,hb,rfl⟩:=Option.map_eq_some_iff.mp e1;exact Vy trivial (F2.get hl i b o hb ho)
 cases rs with
 | wh=>rcases hs with h | h | h<;>cases h
 | tx=>rcases hs with h | h | h<;>cases h
 | my T os' _ as hT hD hl hn =>
  obtain ⟨D',e,_,hD'⟩:=Wn (show aL _ H lo (.ref T) (.os os) from hv)
  cases e
  cases key hT hD'
  exact two hD hl
 | us T os' _ as hT hD hl hn =>
  obtain ⟨D',e,_,hD'⟩:=Wn (show aL _ H lo (.ref T) (.os os) from hv)
  cases e
  cases key hT hD'
  exact two hD hl
 | ro a T os' _ ts as ha hT hD ht hl hn =>
  obtain ⟨a',T',e,ha',_,hD'⟩:=Ua (show aL _ H lo (.ref a) (.ro os) from hv)
  cases e
  rw [ha] at ha'
  cases ha'
  cases key hT hD'
  refine .lst D _ _ rfl trivial hD ?_ fun i u e e1 e2=>?_
  ·show (ts.map V.ref).length=((stm os).map Cq.ro).length
   rw [List.length_map,List.length_map,ht.len,F2.len hl]
  ·have e2:((stm os).map Cq.ro)[i]?=some e:=e2
   rw [List.getElem?_map] at e2
   obtain ⟨o,ho,rfl⟩:=Option.map_eq_some_iff.mp e2;rw [List.getElem?_map] at e1
   obtain ⟨b,hb,rfl⟩:=Option.map_eq_some_iff.mp e1;have hi:=(List.getElem?_eq_some_iff.mp hb).1;have hc:as[i]?=some (as[i]'(by have:=ht.len;omega)):=List.getElem?_eq_getElem _;exact Jx (ht.get i b _ hb hc) trivial (F2.get hl i _ o hc ho)
inductive iD (K:W.Frag) (vs:List V) (H:Hp) (Q:VK) (E_:XK):Prop
 | mk (B:Addr) (lo:Int) (a:Addr) (s:Sk) (v:V) (os:List Nat) (h0:vs=[.ref B,.ref a,v]) (h1:bR H lo B) (h2:Xd H lo a s) (h3:(s = .my\/s = .us\/s = .ro)) (h4:aL (fun _=>True) H lo v (vc (kdS s) os)) (h5:bw os) (h6:∀ v' H',Yf H H'->aL (fun a=>H a=none) H' lo v' (vcs (kdS s) (stm os))->Q v' H')
theorem Ybi {k:Nat} {Z0 Z3 Z1 Z4 Z2:Addr} {ao aj:Addr} {au aq:Addr} {aB aA:Addr} {aF aD:Addr} (R:g.Raw "steps_of" "steps_of" yJ ["book","shape","value"]) (ZV:g.Fn k "copied" ["thing"] (fU 4)) (Zp:g.Fn k "refuse_no_value" ["book","shape","value"] (iz g.K)) {cW:Nat} (Z2a:g.Ma cW "Stepper" Z2 ["self","book"] (Jp Z2)) (pZ:cW+1<=k) (ZI:g.Me k Z2 "steps_from" ["self","shape","value"] (jX g.K Z2 3)) (Za:Cls g.K Z2) (Z8:YZ g.K Z2 "book") (Z9:YZ g.K Z2 "lister"):g.Fn (k+1) "steps_of" ["book","shape","value"] (iD g.K):=by
 refine R.fn Ya8 (fun vs H Q E h=>by obtain ⟨B,lo,a,s,v,os,rfl,hB,hS,hs,hv,hk,q⟩:=h;rfl) fun f_ cdv A outer s H vs Q E hr h=>?_
 obtain ⟨B,lo,a,s,v,os,rfl,hB,hS,hs,hv,hk,q⟩:=h;refine ⟨_,(@Yd _ _ _ _ _ (@Xk _ _ _ _ (@Yv _ _ _ _ _ _ _ _ _ _ _ _ Zp hr (@Ya _ _ _ _ _ (pv 0) (@Ya _ _ _ _ _ (pv 1) (@Ya _ _ _ _ _ (pv 2) Yc (by rfl)) (by rfl)) (by rfl)) (by omega) (by rfl) (by rfl) (by decide) (by rfl) (by rfl)) (by rfl)) (@Ye _ _ _ (@Yj _ _ _ _ (@Yv _ _ _ _ _ _ _ _ _ _ _ _ ZV hr (@Ya _ _ _ _ _ (@wU _ _ _ _ _ _ _ _ _ _ _ _ _ _ _ _ ZI Za hr (@Fz _ _ _ _ _ _ _ _ _ _ _ _ _ Z2a hr (@Ya _ _ _ _ _ (pv 0) Yc (by rfl)) (by omega) (by rfl) (by rfl) (by decide) (by rfl) (by rfl)) (@Ya _ _ _ _ _ (pv 1) (@Ya _ _ _ _ _ (pv 2) Yc (by rfl)) (by rfl)) (by omega) (by rfl) (by rfl) (by rfl) (by rfl)) Yc (by rfl)) (by omega) (by rfl) (by rfl) (by decide) (by rfl) (by rfl))))),?_⟩;have vk:=z9 hs hv hk;refine Yn fun R rr=>?_
 walk_at "rd";refine ⟨B,lo,a,s,v,rfl,hB,hS,vk,fun H1 s1=>rr _ _ ?_⟩;walk_at "rd";intro st ds g1 g2 hne;refine ⟨st,ds,.ref B,rfl,Yb,fun ls H2 sb hst=>?_⟩;have s2:Yf H H2:=s1.trans (QP g1 g2 sb);refine ⟨rfl,_,_,hst,zZ _ _ (by decide +kernel) (by decide +kernel),st,ds,ls,B,lo,a,s,v,rfl,hst,hB.kt (YA s2),hS.tp (Xe (YA s2)),vk.kt (YA s2),Jb s,fun D H3 s3 gD rs=>?_⟩;have Aa:=s2.trans s3;have fin:aL (fun _=>True) H3 lo (.ref D) (vcs (kdS s) (stm os)):=Dh rs hs (hv.same Aa);have hl:=UZ os hk.1;exact ⟨.ref D,lo,_,rfl,fin,Yg1 (by omega) (Yg2 os hk.1),JD _ _,JD _ _,fun v' H4 s4 hc=>q v' H4 (Aa.trans s4) (hc.imp fun _ e=>Aa.free e)⟩
def mV (o:Nat):Nat:=Builtin.Int.intBits (o:Int)
def bT (os:List Nat):Nat:=os.length+(os.map mV).sum
theorem X3 (a b:List Nat):bT (a++b)=bT a+bT b:=by
 simp only [bT,List.length_append,List.map_append,List.sum_append];omega
theorem Ub (o:Nat):bT [o]=1+mV o:=by simp [bT]
theorem YeZ:∀ o≤1023,∀ s∈cB o,mV s<mV o/\s<=1023:=by decide +kernel
structure JF (xs l:List Nat):Prop where
 sz:bT l<bT xs
 ok:bw l
theorem Qt {xs l:List Nat} (k:bw xs) (h:l∈stm xs):JF xs l:=by
 rcases List.mem_append.mp h with h | h
 ·obtain ⟨i,hi,rfl⟩:=List.mem_map.mp h
  rw [List.mem_range] at hi
  have e:xs=xs.take i++([xs[i]]++xs.drop (i+1)):=by
   rw [List.singleton_append,List.getElem_cons_drop,List.take_append_drop]
  refine ⟨?_,?_,fun x hx=>?_⟩
  ·have h3:=congrArg bT e
   rw [X3,X3,Ub] at h3
   rw [X3];omega
  ·have:=k.1
   rw [List.length_append,List.length_take,List.length_drop];omega
  ·rcases List.mem_append.mp hx with hx | hx
   ·exact k.2 x (List.mem_of_mem_take hx)
   ·exact k.2 x (List.mem_of_mem_drop hx)
 ·obtain ⟨m,hm,h⟩:=List.mem_flatten.mp h
  obtain ⟨i,hi,rfl⟩:=List.mem_map.mp hm;obtain ⟨s,hs,rfl⟩:=List.mem_map.mp h;rw [List.mem_range,List.length_map] at hi
  have hx:xs[i]?=some xs[i]:=List.getElem?_eq_getElem hi;rw [List.getD_eq_getElem?_getD,List.getElem?_map,hx] at hs
  have d:=YeZ _ (k.2 _ (List.mem_of_getElem? hx)) s hs;have e:xs=xs.take i++([xs[i]]++xs.drop (i+1)):=by
   rw [List.singleton_append,List.getElem_cons_drop,List.take_append_drop]
  refine ⟨?_,?_,fun x hx=>?_⟩
  ·have h3:=congrArg bT e
   rw [X3,X3,Ub] at h3
   rw [X3,X3,Ub];omega
  ·have:=k.1
   rw [List.length_append,List.length_append,List.length_take,List.length_drop,List.length_singleton];omega
  ·rcases List.mem_append.mp hx with hx | hx
   ·rcases List.mem_append.mp hx with hx | hx
    ·exact k.2 x (List.mem_of_mem_take hx)
    ·rw [List.mem_singleton.mp hx];exact d.2
   ·exact k.2 x (List.mem_of_mem_drop hx)
def nx (p:List Nat->Bool) (L:List (List Nat)):Option (List Nat):=L.find? fun l => !p l
theorem Ygp {p:List Nat->Bool} {Ls:List (List Nat)} {i:Nat} {l:List Nat} (h:Ls[i]?=some l):nx p (Ls.drop i)=if p l=false then some l else nx p (Ls.drop (i+1)):=by
 obtain ⟨hi,rfl⟩:=List.getElem?_eq_some_iff.mp h;rw [List.drop_eq_getElem_cons hi,nx,List.find?_cons]
 cases p Ls[i]<;>rfl
theorem Uc {p:List Nat->Bool} {L:List (List Nat)} {l:List Nat} (h:nx p L=some l):l∈L/\p l=false:=⟨List.mem_of_find?_eq_some h,by
 have:=List.find?_some h;simpa using this⟩
theorem JG {p:List Nat->Bool} {L:List (List Nat)} (h:nx p L=none):∀ l∈L,p l=true:=fun l hl=>by
 have:=List.find?_eq_none.mp h l hl;simpa using this
inductive Way (p:List Nat->Bool):List Nat->List (List Nat)->Prop
 | rest (xs:List Nat) (h:nx p (stm xs)=none):Way p xs [xs]
 | step (xs l:List Nat) (w:List (List Nat)) (h:nx p (stm xs)=some l) (t:Way p l w):Way p xs (xs::w)
theorem Way.head {p:List Nat->Bool} {xs:List Nat} {w:List (List Nat)} (h:Way p xs w):∃ r,w=xs::r:=by cases h<;>exact ⟨_,rfl⟩
theorem Way.last {p:List Nat->Bool} {xs:List Nat} {w:List (List Nat)} (h:Way p xs w):p xs=false->bw xs->∃ l,w.getLast?=some l/\p l=false/\bw l/\nx p (stm l)=none/\w.length<=bT xs+1:=by
 induction h with
 | rest xs h =>
  intro h1 h2;exact ⟨xs,rfl,h1,h2,h,by simp⟩
 | step xs l w h t ih =>
  intro h1 h2;have n:=Uc h;have e:=Qt h2 n.1;obtain ⟨z,a,b,c,d,f⟩:=ih n.2 e.ok;obtain ⟨r,rfl⟩:=t.head;refine ⟨z,?_,b,c,d,?_⟩
  ·rw [List.getLast?_cons_cons];exact a
  ·have:=e.sz
   rw [List.length_cons];omega
theorem Kq.free {P:Addr} {H H':Hp} (k:Kq P H H') (b:Tb P H') {x:Addr} (h:H' x=none):H x=none:=by
 cases e:H x with
 | none=>rfl
 | some o =>
  by_cases c:x=P
  ·obtain ⟨ps,hp⟩:=b.aV
   rw [c,hp] at h;cases h
  ·rw [k.ob x o c e] at h;cases h
theorem Yg3 {P B:Addr} {H:Hp} {ys zs:List V} (b:Tb P H) (hB:H B=some (.lst ys)):Tb P (upd H B (.lst zs)):=by
 rcases b with h | ⟨c,h,h1⟩
 ·exact .inl (by rw [Yg (Xy h hB (by intro z;cases z))];exact h)
 ·exact .inr ⟨c,by rw [Yg (Xy h hB (by intro z;cases z))];exact h,by rw [Yg (Xy h1 hB (by intro z;cases z))];exact h1⟩
def eZ (g:Gx) (P:Addr) (H:Hp) (f:Addr) (kd:Bool) (p:List Nat->Bool) (lo:Int):Prop:=∃ fd ps sp,aW g.P g.w g.K g.mg g.base bL 45 f fd ps sp/\(∀ us:List Value,us.length=ps.length->bindArgs fd ⟨us,[]⟩=pure (ps.zip us))/\H f=some (bG f fd) /\
 ∀ (U:Addr->Prop) (H1:Hp) (v:V) (os:List Nat) (Q:VK),Kt H H1->Tb P H1->aL U H1 lo v (vc kd os)->bw os->(∀ H',Kq P H1 H'->Tb P H'->Q (.bl (p os)) H')->H1 f=some (bG f fd)/\sp [v] H1 Q E0
theorem eZ.kt {g:Gx} {P:Addr} {H H':Hp} {f:Addr} {kd:Bool} {p:List Nat->Bool} {lo:Int} (h:eZ g P H f kd p lo) (n:Kt H H'):eZ g P H' f kd p lo:=by
 obtain ⟨fd,ps,sp,h1,h2,h3,h4⟩:=h;exact ⟨fd,ps,sp,h1,h2,n _ _ (fun ps z=>by cases z) h3,fun U H1 v os Q n1=>h4 U H1 v os Q (n.trans n1)⟩
inductive gJ (g:Gx) (P:Addr) (vs:List V) (H:Hp) (Q:VK) (E_:XK):Prop
 | mk (f:Addr) (v:V) (kd:Bool) (p:List Nat->Bool) (lo:Int) (os:List Nat) (U:Addr->Prop) (h0:vs=[.ref f,v]) (h1:eZ g P H f kd p lo) (h2:Tb P H) (h3:aL U H lo v (vc kd os)) (h4:bw os) (h5:∀ H',Kq P H H'->Tb P H'->Q (.bl (p os)) H')
theorem Ye0 {k:Nat} {Z0 Z3 Z1 Z4 Z2:Addr} {ao aj:Addr} {au aq:Addr} {aB aA:Addr} {aF aD:Addr} (R:g.Raw "holds" "holds" Qq ["judge","value"]) (ZV:g.Fn k "copied" ["thing"] (fU 4)) (hkc:45<=k):g.Fn (k+1) "holds" ["judge","value"] (gJ g aj):=by
 refine R.fn YeT (fun vs H Q E h=>by obtain ⟨f,v,kd,p,lo,os,U,rfl,⟨fd,ps,s1,ok,ob,hf,hj⟩,tb,hv,hk,q⟩:=h;rfl) fun f_ cdv A outer s H vs Q E hr h=>?_
 obtain ⟨f,v,kd,p,lo,os,U,rfl,⟨fd,ps,s1,ok,ob,hf,hj⟩,tb,hv,hk,q⟩:=h;refine ⟨_,(@Ye _ _ _ (@Yj _ _ _ _ (@YV _ _ _ _ _ _ _ _ PX (@Vt _ (g) _ (45) _ _ _ _ _ _ 0 hr (@Ya _ _ _ _ _ (@Yv _ _ _ _ _ _ _ _ _ _ _ _ ZV hr (@Ya _ _ _ _ _ (pv 1) Yc (by rfl)) (by omega) (by rfl) (by rfl) (by decide) (by rfl) (by rfl)) Yc (by rfl)) (by omega) (by rfl) (by rfl) (by first | exact .inl rfl | exact .inr (.inl rfl) | exact .inr (.inr rfl)) (by decide) (by decide) (by rfl) (by rfl)) Xq (Yk _)))),?_⟩;have hd:=JC kd os;walk_at "rd";refine ⟨f,fd,ps,s1,rfl,ok,ob,hf,?_⟩;walk_at "rd";refine ⟨v,lo,vc kd os,rfl,hv.imp fun _ _=>trivial,JB hk.1,by omega,by omega,fun v' H' sm hv'=>?_⟩;refine hj _ H' v' os _ (YA sm) (tb.keep sm) hv' hk fun H2 k2 b2=>⟨_,rfl,?_⟩
 rw [show (p os==true)=p os by cases p os<;>rfl];exact q H2 ((Xz sm).trans k2) b2
inductive oA (g:Gx) (P:Addr) (vs:List V) (H:Hp) (Q:VK) (E_:XK):Prop
 | mk (f L:Addr) (kd:Bool) (p:List Nat->Bool) (lo:Int) (ys:List V) (Ls:List (List Nat)) (U:Addr->Prop) (h0:vs=[.ref f,.ref L]) (h1:eZ g P H f kd p lo) (h2:Tb P H) (h3:H L=some (.lst ys)) (h4:F2 (aL U H lo) ys (Ls.map (vc kd))) (h5:(∀ l∈Ls,bw l)) (h6:(∀ H',Kq P H H'->Tb P H'->nx p Ls=none->Q .non H')) (h7:∀ y l H',Kq P H H'->Tb P H'->nx p Ls=some l->aL U H' lo y (vc kd l)->Q y H')
theorem Z2J {k:Nat} {Z0 Z3 Z1 Z4 Z2:Addr} {ao aj:Addr} {au aq:Addr} {aB aA:Addr} {aF aD:Addr} (R:g.Raw "first_breach" "first_breach" yK ["judge","values"]) (iM:g.Fn k "holds" ["judge","value"] (gJ g aj)):g.Fn (k+1) "first_breach" ["judge","values"] (oA g aj):=by
 refine R.fn Hw (fun vs H Q E h=>by obtain ⟨f,L,kd,p,lo,ys,Ls,U,rfl,hj,tb,hL,f2,ok,q0,q1⟩:=h;rfl) fun f_ cdv A outer s H vs Q E hr h=>?_
 obtain ⟨f,L,kd,p,lo,ys,Ls,U,rfl,hj,tb,hL,f2,ok,q0,q1⟩:=h;refine ⟨_,(@Yd _ _ _ _ _ (@XR _ _ _ _ _ _ _ _ PassesOwn.never rfl (@Y1 _ _ _ _ (pv 1)) (@YK _ _ (2) _ Hw.nd rfl (.inl rfl) (by first | exact .inl rfl | exact .inr rfl | assumption)) (@Ye _ _ _ (@Yq _ _ _ _ _ _ _ _ (@XG _ _ _ _ (@Y0 _ _ _ (@Yv _ _ _ _ _ _ _ _ _ _ _ _ iM hr (@Ya _ _ _ _ _ (pv 0) (@Ya _ _ _ _ _ (pv 2) Yc (by rfl)) (by rfl)) (by omega) (by rfl) (by rfl) (by decide) (by rfl) (by rfl)) (by intro _;rfl))) (@Ye _ _ _ (@Yj _ _ _ _ (pv 2))) Yl)) (by intro _;rfl)) (@Ye _ _ _ (@Yj _ _ _ _ Wo))),?_⟩;have hlen:=f2.len;rw [List.length_map] at hlen
 refine Yn fun R rr=>?_
 refine UN (K:=g.K) (xs:=ys) (fun c i σ H'=>c=L/\(∃ o,σ=[some (.ref f),some (.ref L),o])/\Kq aj H H'/\Tb aj H'/\nx p Ls=nx p (Ls.drop i)) (fun R r=>by walk_at "rd";exact r L _ ⟨rfl,⟨_,rfl⟩,.refl _ _,tb,rfl⟩) (fun c i σ H' _ ⟨e,_,s,_⟩=>by subst e;exact aJ.of (s.lst hL)) ?_ ?_
 ·rintro c i x σ H' hx ⟨rfl,⟨o,rfl⟩,sm,tb',hn⟩
  have hi:=(List.getElem?_eq_some_iff.mp hx).1;have hm:Ls[i]?=some (Ls[i]'(by omega)):=List.getElem?_eq_getElem _;generalize Ls[i]'(by omega)=l at hm;have cx:=(f2.get i x (vc kd l) hx (by rw [List.getElem?_map,hm];rfl)).kt sm.kt;rw [Ygp hm] at hn
  walk_at "rd";refine ⟨f,x,kd,p,lo,l,U,rfl,hj.kt sm.kt,tb',cx,ok l (List.mem_of_getElem? hm),fun H1 s1 b1=>?_⟩
  cases h:p l with
  | true =>
   rw [h,if_neg (by decide)] at hn
   exact ⟨_,rfl,Yu (by decide) ⟨sm.trans s1,b1,hn⟩⟩
  | false =>
   rw [h,if_pos rfl] at hn
   exact ⟨_,rfl,YT rfl (q1 x l H1 (sm.trans s1) b1 hn (cx.kt s1.kt))⟩
 ·rintro c σ H' ⟨rfl,⟨o,rfl⟩,sm,tb',hn⟩
  refine rr _ _ ?_;walk_at "rd";rw [List.drop_eq_nil_of_le (by omega)] at hn
  exact q0 H' sm tb' hn
def JH (g:Gx) (H:Hp) (f:Addr) (kd:Bool) (lo:Int):Prop:=∃ fd ps sp,aW g.P g.w g.K g.mg g.base bL 60 f fd ps sp/\(∀ us:List Value,us.length=ps.length->bindArgs fd ⟨us,[]⟩=pure (ps.zip us))/\H f=some (bG f fd) /\
 ∀ (U:Addr->Prop) (H1:Hp) (v:V) (os:List Nat) (Q:VK),Kt H H1->aL U H1 lo v (vc kd os)->bw os->(∀ v' H',Yf H1 H'->aL (fun a=>H1 a=none) H' lo v' (vcs kd (stm os))->Q v' H')->H1 f=some (bG f fd)/\sp [v] H1 Q E0
inductive lu (g:Gx) (P C:Addr) (vs:List V) (H:Hp) (Q:VK) (E:XK):Prop
 | mk (f fn:Addr) (v:V) (kd:Bool) (p:List Nat->Bool) (lo:Int) (xs:List Nat) (U:Addr->Prop) (h0:vs=[.ref f,v,.ref fn]) (h1:eZ g P H f kd p lo) (h2:JH g H fn kd lo) (h3:Tb P H) (h4:aL U H lo v (vc kd xs)) (h5:bw xs) (h6:bT xs<=1000) (h7:(∀ H',Kq P H H'->Tb P H'->p xs=true->E (.ref C) none H')) (h8:∀ B ys w H',Kq P H H'->Tb P H'->H B=none->H' B=some (.lst ys)->p xs=false->Way p xs w->F2 (aL (fun a=>H a=none) H' lo) ys (w.map (vc kd))->Q (.ref B) H')
inductive Ab (p:List Nat->Bool) (lo:Int) (kd:Bool) (HB:Hp) (xs:List Nat) (H':Hp) (v:V):Option (List Nat)->List (List Nat)->Prop
 | no (bs:List (List Nat)) (e:v = .non) (w:Way p xs bs):Ab p lo kd HB xs H' v none bs
 | at_ (l:List Nat) (bs:List (List Nat)) (c:aL (fun a=>HB a=none) H' lo v (vc kd l)) (ok:bw l) (sz:bT l+bs.length<=bT xs) (w:∀ w,Way p l w->Way p xs (bs++w)):Ab p lo kd HB xs H' v (some l) bs
inductive SbV (P:Addr) (p:List Nat->Bool) (lo:Int) (kd:Bool) (H HB:Hp) (xs:List Nat) (f:Addr) (u:V) (fn B:Addr) (a:Option (List Nat)×List (List Nat)) (σ:St) (H':Hp):Prop
 | mk (ys:List V) (v:V) (e:σ=[some (.ref f),some u,some (.ref fn),some (.ref B),some v]) (sm:Kq P H H') (tb:Tb P H') (hB:H' B=some (.lst ys)) (al:∀ x,HB x≠none->H' x≠none) (f2:F2 (aL (fun a=>HB a=none) H' lo) ys (a.2.map (vc kd))) (cur:Ab p lo kd HB xs H' v a.1 a.2)
theorem JK {U:Addr->Prop} {H:Hp} {lo:Int} {v:V} {kd:Bool} {os:List Nat} (h:aL U H lo v (vc kd os)):∃ D,v = .ref D:=by
 cases kd with
 | false=>obtain ⟨D,e,_⟩:=Wn (show aL U H lo v (.os os) from h);exact ⟨D,e⟩
 | true=>obtain ⟨a,D,e,_⟩:=Ua (show aL U H lo v (.ro os) from h);exact ⟨a,e⟩
theorem YaV {k:Nat} {Z0 Z3 Z1 Z4 Z2:Addr} {ao aj:Addr} {au aq:Addr} {aB aA:Addr} {aF aD:Addr} (R:g.Raw "shrunk_by" "shrunk_by" yL ["judge","value","values_next"]) (ZV:g.Fn k "copied" ["thing"] (fU 4)) (uY:g.Fn k "first_breach" ["judge","values"] (oA g aj)) (hkc:60<=k) (bK:g.mg "NoBreach"=some (.ref Z1)) (cL:W.excIn g.K Z1 WP "ValueError.__new__"=true):g.bD (k+1) "shrunk_by" ["judge","value","values_next"] (lu g aj Z1):=by
 refine R.fnX ux (fun vs H Q E h=>by obtain ⟨f,fn,u,kd,p,lo,xs,U,rfl,hj,hn,tb,hu,ok,hz,q0,q1⟩:=h;rfl) fun f_ cdv A outer s H vs Q E hr h=>?_
 obtain ⟨f,fn,u,kd,p,lo,xs,U,rfl,hj,hn,tb,hu,ok,hz,q0,q1⟩:=h;refine ⟨_,(@Yd _ _ _ _ _ (PS.bA (@YD _ _ (3) _ _ _ _ ux.nd rfl (.inl rfl) (@YY _ _ _ _ Yc) (by rfl) (by first | exact .inl rfl | exact .inr rfl | assumption))) (@Yd _ _ _ _ _ (PS.bA (@YD _ _ (4) _ _ _ _ ux.nd rfl (.inl rfl) (@Yv _ _ _ _ _ _ _ _ _ _ _ _ uY hr (@Ya _ _ _ _ _ (pv 0) (@Ya _ _ _ _ _ (@YY _ _ _ _ (@Ya _ _ _ _ _ (@Yv _ _ _ _ _ _ _ _ _ _ _ _ ZV hr (@Ya _ _ _ _ _ (pv 1) Yc (by rfl)) (by omega) (by rfl) (by rfl) (by decide) (by rfl) (by rfl)) Yc (by rfl))) Yc (R5 _ _ _ _)) (by rfl)) (by omega) (by rfl) (by rfl) (by decide) (by rfl) (by rfl)) (by rfl) (by first | exact .inl rfl | exact .inr rfl | assumption))) (@Yd _ _ _ _ _ (@Yq _ _ _ _ _ _ _ _ (@Yo _ _ _ _ _ _ _ _ VG (pv 4) Wo (Yk _)) (@Ye _ _ _ (@RP _ _ _ _ _ _ _ _ _ _ _ ⟨bK,cL⟩ RM (@Ya _ _ _ _ _ Yp Yc (by rfl)) (by rfl) (by rfl) (by rfl) (by decide) (by rfl) (by rfl))) Yl) (@Yd _ _ _ _ _ (PS.bA (@DR _ _ _ _ _ _ PassesOwn.never (@Yo _ _ _ _ _ _ _ _ Ei (pv 4) Wo (Yk _)) (@Yd _ _ _ _ _ (@Xk _ _ _ _ (@WC _ _ _ _ _ _ _ _ _ _ _ _ F.plainAttrs_list F.slot_list_append F.type_list_append XH (pv 3) (@Ya _ _ _ _ _ (pv 4) Yc (by rfl)) (by rfl) (by rfl) (by rfl) (by rfl) (by rfl)) (by rfl)) (@Ye _ _ _ (@YD _ _ (4) _ _ _ _ ux.nd rfl (.inl rfl) (@Yv _ _ _ _ _ _ _ _ _ _ _ _ uY hr (@Ya _ _ _ _ _ (pv 0) (@Ya _ _ _ _ _ (@Vt _ (g) _ (60) _ _ _ _ _ _ 2 hr (@Ya _ _ _ _ _ (pv 4) Yc (by rfl)) (by omega) (by rfl) (by rfl) (by first | exact .inl rfl | exact .inr (.inl rfl) | exact .inr (.inr rfl)) (by decide) (by decide) (by rfl) (by rfl)) Yc (by rfl)) (by rfl)) (by omega) (by rfl) (by rfl) (by decide) (by rfl) (by rfl)) (by rfl) (by first | exact .inl rfl | exact .inr rfl | assumption)))))) (@Ye _ _ _ (PS.bA (@Yj _ _ _ _ (pv 3)))))))),?_⟩;have hd:=JC kd xs;refine Yn fun R rr=>?_
 walk_at "rd";refine ⟨few (by decide),fun B gB=>rr _ _ (Yn fun R rr=>?_)⟩;have sB:=Yf.aG gB (.lst []);have Ac:upd H B (.lst []) B=some (.lst []):=Yb;generalize upd H B (.lst [])=HB at sB Ac;walk_at "rd";refine ⟨u,lo,vc kd xs,rfl,(hu.same sB).imp fun _ _=>trivial,JB ok.1,by omega,by omega,fun v1 H1 s1 hv1=>⟨few (by decide),fun L gL=>?_⟩⟩;have s2:=Yf.aG gL (.lst [v1]);have sA:=(sB.trans s1).trans s2;refine ⟨f,L,kd,p,lo,[v1],[xs],_,rfl,hj.kt (YA sA),tb.keep sA,Yb,.cons (hv1.same s2) .nil,(fun l hl=>by rw [List.mem_singleton.mp hl];exact ok),fun H2 s3 b3 e=>rr _ _ ?_,fun y l H2 s3 b3 e cy=>rr _ _ ?_⟩
 ·walk_at "rd"
  exact ⟨few (by decide),q0 H2 ((Xz sA).trans s3) b3 (JG e xs (List.mem_cons_self ..))⟩
 ·have hl:=List.mem_singleton.mp (Uc e).1
  subst hl;have hap:=(Uc e).2;obtain ⟨D1,rfl⟩:=JK cy;refine Yn fun R rr=>?_
  walk_at "rd";refine rr _ _ (Yn fun R rr=>?_);have kA:=(Xz (P:=aj) sA).trans s3;have kB:Kq aj HB H2:=(Xz (s1.trans s2)).trans s3;have alB:∀ {H':Hp},Kq aj HB H'->Tb aj H'->∀ x,HB x≠none->H' x≠none:=fun k b x hx z=>hx (k.free b z)
  refine Ge (α:=Option (List Nat)×List (List Nat)) (SbV aj p lo kd H HB l f u fn B) (fun a=>a.1.isSome) (fun a=>match a.1 with | none=>0 | some l=>bT l+1) (some l,[]) ⟨[],.ref D1,rfl,kA,b3,kB.lst Ac,alB kB b3,.nil,.at_ l [] cy ok (by simp) fun w h=>h⟩ ?_ ?_ ?_
  ·rintro ⟨o,bs⟩ σ H' ⟨ys,v,rfl,sm,tb',hB,al,f2,cur⟩ R r
   walk_at "rd";have:=r H' ⟨ys,v,rfl,sm,tb',hB,al,f2,cur⟩
   cases cur with
   | no _ e w=>subst e;exact this
   | at_ l _ c=>obtain ⟨D2,rfl⟩:=JK c;exact this
  ·rintro ⟨o,bs⟩ σ H' ⟨ys,v,rfl,sm,tb',hB,al,f2,cur⟩ ho
   cases cur with
   | no=>cases ho
   | at_ l' _ c Ad sz way =>
    dsimp only at f2 way sz ⊢;obtain ⟨fd,ps,sp,okf,obf,hfn,hnx⟩:=hn;have hyl:=f2.len;rw [List.length_map] at hyl
    have nu:¬ HB B=none:=by rw [Ac];simp
    refine Yn fun R rr=>?_
    walk_at "rd";refine ⟨.inl ⟨rfl,_,aJ.of hB⟩,_,hB,few (by omega),rr _ _ ?_⟩;have uZ:Kq aj H (upd H' B (.lst (ys++[v]))):=⟨fun b o n e=>by rw [Yg (Ym e gB)];exact sm.kt b o n e,fun b o n e=>by rw [Yg (Ym e gB)];exact sm.ob b o n e⟩;have tb2:Tb aj (upd H' B (.lst (ys++[v]))):=Yg3 tb' hB;have c2:=c.own hB nu (zs':=ys++[v]);have Ae:F2 (aL (fun a=>HB a=none) (upd H' B (.lst (ys++[v]))) lo) (ys++[v]) ((bs++[l']).map (vc kd)):=by
     rw [List.map_append];exact F2.app (f2.imp fun _ _ h=>h.own hB nu) (.cons c2 .nil)
    have u5:∀ x,HB x≠none->upd H' B (.lst (ys++[v])) x≠none:=fun x hx=>by
     by_cases z:x=B
     ·rw [z,Yb];simp
     ·rw [Yg z];exact al x hx
    have hB2:upd H' B (.lst (ys++[v])) B=some (.lst (ys++[v])):=Yb;generalize upd H' B (.lst (ys++[v]))=H3 at uZ tb2 c2 Ae u5 hB2;walk_at "rd";refine ⟨fn,fd,ps,sp,rfl,okf,obf,uZ.kt _ _ (fun ps z=>by cases z) hfn,?_⟩;walk_at "rd";refine hnx _ H3 v l' _ uZ.kt c2 Ad fun v4 H4 s4 c4=>?_
    obtain ⟨L4,zs,rfl,_,hL4,g4⟩:=z8 c4 (Jz _ _);rw [Jy] at g4
    have k4:=uZ.trans (Xz s4);have JL:∀ l2∈stm l',JF l' l2:=fun l2 h=>Qt Ad h
    have g4':F2 (aL (fun a=>HB a=none) H4 lo) zs ((stm l').map (vc kd)):=g4.imp fun _ _ h=>h.imp fun a ha=>Classical.byContradiction fun z=>u5 a z ha
    refine ⟨f,L4,kd,p,lo,zs,stm l',_,rfl,hj.kt k4.kt,tb2.keep s4,hL4,g4',(fun l2 h=>(JL l2 h).ok),fun H5 s5 b5 e5=>?_,fun y l2 H5 s5 b5 e5 c5=>?_⟩
    ·exact ⟨(none,bs++[l']),⟨ys++[v],.non,rfl,k4.trans s5,b5,s5.lst (s4 _ _ hB2),fun x hx z=>u5 x hx (s4.free (s5.free b5 z)),Ae.imp fun _ _ h=>(h.same s4).kt s5.kt,.no _ rfl (way _ (.rest l' e5))⟩,Nat.succ_pos _⟩
    ·have ll:=JL l2 (Uc e5).1
     have sz':=ll.sz;refine ⟨(some l2,bs++[l']),⟨ys++[v],y,rfl,k4.trans s5,b5,s5.lst (s4 _ _ hB2),fun x hx z=>u5 x hx (s4.free (s5.free b5 z)),Ae.imp fun _ _ h=>(h.same s4).kt s5.kt,.at_ l2 _ c5 ll.ok (by rw [List.length_append,List.length_singleton];omega) fun w hw=>?_⟩,(by show bT l2+1<bT l'+1;omega)⟩;rw [List.append_assoc];exact way _ (.step l' l2 w e5 hw)
  ·rintro ⟨o,bs⟩ σ H' ⟨ys,v,rfl,sm,tb',hB,al,f2,cur⟩ ho
   cases cur with
   | at_=>cases ho
   | no _ e w =>
    refine rr _ _ ?_;walk_at "rd";exact q1 B ys bs H' sm tb' gB hB hap w (f2.imp fun _ _ h=>h.imp fun a ha=>sB.free ha)
def Ygq (K:W.Frag) (fv vs:List V) (H:Hp) (Q:VK):Prop:=∃ (B a:Addr) (v:V) (lo:Int) (s:Sk) (os:List Nat),fv=[.ref a,.ref B]/\vs=[v]/\bR H lo B/\Xd H lo a s/\(s = .my\/s = .us\/s = .ro)/\aL (fun _=>True) H lo v (vc (kdS s) os)/\bw os/\∀ v' H',Yf H H'->aL (fun a=>H a=none) H' lo v' (vcs (kdS s) (stm os))->Q v' H'
theorem QY {k:Nat} {Z0 Z3 Z1 Z4 Z2:Addr} {f_ c_:Addr} {pm ctv:Value} {l:Yr} (p7:g.Fn k "steps_of" ["book","shape","value"] (iD g.K)) (hl:l.map (·.1)=(["shape","book"]:List Str)) (hnd:l.as.Nodup):aW g.P g.w g.K g.mg g.base bL (k+1) f_ (ZJ l.cl c_ pm ctv) ["breach"] (fun vs H Q _=>pK H f_ c_ (ZJ l.cl c_ pm ctv) ZB l/\(Ygq g.K) l.vs vs (off H l.as) fun v H'=>(∀ c∈l.as,H' c=none)->Q v (on H' H l.as)):=by
 refine G9 (N:=["breach","shape","book"]) (by rw [hl];exact QW) hnd (fun vs H Q h=>by obtain ⟨B,a,v,lo,s,os,jd,rfl,hB,hS,hs,hv,hk,q⟩:=h;rfl) fun A outer s H vs Q hr h=>?_
 obtain ⟨B,a,v,lo,s,os,jd,rfl,hB,hS,hs,hv,hk,q⟩:=h;refine ⟨_,(@Yv _ _ _ _ _ _ _ _ _ _ _ _ p7 hr (@Ya _ _ _ _ _ (pv 2) (@Ya _ _ _ _ _ (pv 1) (@Ya _ _ _ _ _ (pv 0) Yc (by rfl)) (by rfl)) (by rfl)) (by omega) (by rfl) (by rfl) (by decide) (by rfl) (by rfl)),?_⟩;walk_at "rd";rw [jd];exact ⟨B,lo,a,s,v,os,rfl,hB,hS,hs,hv,hk,q⟩
def XQ (H:Hp) (P:Addr):Prop:=H P=some (.aV #[])\/∃ c,H P=some (.aV #[rawInt 556,rawInt 35,.ref c])/\H c=some (cH c ZB)
theorem XQ.keep {H H':Hp} {P:Addr} (h:XQ H P) (s:Yf H H'):XQ H' P:=by
 rcases h with h | ⟨c1,h,h1⟩
 ·exact .inl (s _ _ h)
 ·exact .inr ⟨c1,s _ _ h,s _ _ h1⟩
theorem Tb.but {H H':Hp} {P P2:Addr} {ps:Array Value} (h:Tb P H) (hk:∀ a o,a≠P2->H a=some o->H' a=some o) (hP:H P2=some (.aV ps)) (n:P≠P2):Tb P H':=by
 rcases h with h | ⟨c1,h,h1⟩
 ·exact .inl (hk _ _ n h)
 ·exact .inr ⟨c1,hk _ _ n h,hk _ _ (Xy h1 hP (by intro z;cases z)) h1⟩
theorem XX {l:Yr} {H:Hp} (hz:l.Z H) {a:Addr} {o:HO} (e:H a=some o) (n:∀ x u,o ≠ .bC x u):off H l.as a=some o:=by rw [YE (V7 hz e n)];exact e
theorem p8 {l:Yr} {H:Hp} (hz:l.Z H):Tp H (off H l.as):=fun b xs e=>XX hz e (by intro _ _ z;cases z)
theorem rD {U:Addr->Prop} {l:Yr} {H:Hp} (hz:l.Z H) {lo:Int} {v:V} {c:Cq} (h:aL U H lo v c):aL U (off H l.as) lo v c:=h.go (p8 hz) (fun b us _ e=>XX hz e (by intro _ _ z;cases z)) fun _ z=>z
theorem LK {l:Yr} {H:Hp} (hz:l.Z H) {lo:Int} {B:Addr} (h:bR H lo B):bR (off H l.as) lo B:=by
 obtain ⟨p,m,h1,h2,h3⟩:=h.ex;exact ⟨p,m,XX hz h1 (by intro _ _ z;cases z),p8 hz _ _ h2,h3.tp (p8 hz)⟩
theorem Af {P:Addr} {l:Yr} {H:Hp} (hz:l.Z H) (h:XQ H P):XQ (off H l.as) P:=by
 rcases h with h | ⟨c,h,h1⟩
 ·exact .inl (XX hz h (by intro _ _ z;cases z))
 ·exact .inr ⟨c,XX hz h (by intro _ _ z;cases z),XX hz h1 (by intro _ _ z;cases z)⟩
theorem qb {l:Yr} {H H':Hp} (h:l.Z H) (s:Kt H H'):l.Z H':=fun p hp=>by
 obtain ⟨o,z⟩:=h p hp;exact ⟨o,s _ _ (fun ps q=>by cases q) z⟩
theorem Ye1 {l:Yr} {H H':Hp} (hc:∀ c∈l.as,H' c=none):Yf H' (on H' H l.as):=fun a o e=>by
 rw [Y5 fun hm=>by rw [hc a hm] at e;cases e];exact e
theorem nf {l:Yr} {H H':Hp} {lo:Int} {v:V} {c:Cq} (h:aL (fun a=>off H l.as a=none) H' lo v c) (hc:∀ c∈l.as,H' c=none):aL (fun a=>H a=none) H' lo v c:=by
 induction h with
 | cI i=>exact .cI i
 | st z=>exact .st z
 | tup a us c hc' h hl k ih=>exact .tup a us c hc' h hl ih
 | lst a us c hc' hu h hl k ih =>
  refine .lst a us c hc' ?_ h hl ih;have na:a∉l.as:=fun hm=>by rw [hc a hm] at h;cases h
  have hu:off H l.as a=none:=hu;rw [YE na] at hu
  exact hu
theorem Ag {P PS:Addr} {H H':Hp} (h:XQ H PS) (k:Kq P H H') (n:PS≠P):XQ H' PS:=by
 rcases h with h | ⟨c1,h,h1⟩
 ·exact .inl (k.ob _ _ n h)
 ·exact .inr ⟨c1,k.ob _ _ n h,k.kt _ _ (fun ps z=>by cases z) h1⟩
abbrev iG (x1 x2 a B:Addr):Yr:=[("shape",x2,.ref a),("book",x1,.ref B)]
theorem Ye2 {g:Gx} {Hz:Hp} {f c x1 x2 a B:Addr} {lo:Int} {s:Sk} {pm ctv:Value} (F1:g.Fn 59 "steps_of" ["book","shape","value"] (iD g.K)) (nd:(iG x1 x2 a B).as.Nodup)
  (hf:Hz f=some (bG f (ZJ (iG x1 x2 a B).cl c pm ctv))) (hc:Hz c=some (cH c ZB)) (hz:(iG x1 x2 a B).Z Hz) (hB:bR Hz lo B) (hS:Xd Hz lo a s) (hs:s = .my\/s = .us\/s = .ro):JH g Hz f (kdS s) lo:=by
 have F:=QY (g:=g) (k:=59) (Z0:=0) (Z3:=0) (Z1:=0) (Z4:=0) (Z2:=0) (f_:=f) (c_:=c) (pm:=pm) (ctv:=ctv) (l:=iG x1 x2 a B) F1 rfl nd;refine ⟨_,_,_,F,fun us hl=>?_,hf,fun U H1 v os Q s1 hv ok hk=>?_⟩
 ·match us,hl with
  | [_],_=>rfl
 ·have z1:=qb hz s1
  have hf1:=s1 _ _ (fun ps z=>by cases z) hf;refine ⟨hf1,⟨hf1,s1 _ _ (fun ps z=>by cases z) hc,z1⟩,B,a,v,lo,s,os,rfl,rfl,LK z1 (hB.kt s1),(hS.tp (Xe s1)).tp (p8 z1),hs,rD z1 (hv.imp fun _ _=>trivial),ok,fun v' H' s' hv' hcc=>?_⟩;refine hk v' _ (HY s') ?_;have out:∀ {a:Addr} {o:HO},H' a=some o->a∉(iG x1 x2 a B).as:=fun e hm=>by rw [hcc _ hm] at e;cases e
  refine (nf hv' hcc).same (Ye1 hcc)
inductive lA (g:Gx) (P PS C:Addr) (vs:List V) (H:Hp) (Q:VK) (E:XK):Prop
 | mk (B a f:Addr) (v:V) (lo:Int) (s:Sk) (p:List Nat->Bool) (xs:List Nat) (U:Addr->Prop) (h0:vs=[.ref B,.ref a,.ref f,v]) (h1:bR H lo B) (h2:Xd H lo a s) (h3:(s = .my\/s = .us\/s = .ro)) (h4:eZ g P H f (kdS s) p lo) (h5:aL U H lo v (vc (kdS s) xs)) (h6:bw xs) (h7:bT xs<=1000) (h8:Tb P H) (h9:XQ H PS) (h10:P≠PS) (h11:(∀ H',Kt H H'->Tb P H'->XQ H' PS->p xs=true->E (.ref C) none H')) (h12:∀ R ys w H',Kt H H'->Tb P H'->XQ H' PS->H R=none->H' R=some (.lst ys)->p xs=false->Way p xs w->F2 (aL (fun a=>H a=none) H' lo) ys (w.map (vc (kdS s)))->Q (.ref R) H')
theorem Yd9 {k:Nat} {Z0 Z3 Z1 Z4 Z2:Addr} {ao aj:Addr} {au aq:Addr} {aB aA:Addr} {aF aD:Addr} (R:g.dH "shrunk" "shrunk" pN ["book","shape","judge","value"] aB) (bm:Bm g.mg g.base) (qd:W.CodeHd g.base aB aA) (Zp:g.Fn k "refuse_no_value" ["book","shape","value"] (iz g.K)) (p7:g.Fn 59 "steps_of" ["book","shape","value"] (iD g.K)) (lU:g.bD k "shrunk_by" ["judge","value","values_next"] (lu g aj Z1)):g.bD (k+1) "shrunk" ["book","shape","judge","value"] (lA g aj aA Z1):=by
 refine R.fnX YdS (fun vs H Q E h=>by obtain ⟨B,a,f,v,lo,sk,p,xs,U,rfl,hB,hS,hs,hj,hv,ok,hz,tb,ts,np,q0,q1⟩:=h;rfl) fun f_ A outer s H vs Q E hr h=>?_
 obtain ⟨B,a,f,v,lo,sk,p,xs,U,rfl,hB,hS,hs,hj,hv,ok,hz,tb,ts,np,q0,q1⟩:=h;refine ⟨_,(@Yd _ _ _ _ _ (PS.bA (@Xk _ _ _ _ (@Yv _ _ _ _ _ _ _ _ _ _ _ _ Zp hr (@Ya _ _ _ _ _ (pv 0) (@Ya _ _ _ _ _ (pv 1) (@Ya _ _ _ _ _ (pv 3) Yc (by rfl)) (by rfl)) (by rfl)) (by omega) (by rfl) (by rfl) (by decide) (by rfl) (by rfl)) (by rfl))) (@Ye _ _ _ (@Yj _ _ _ _ (@Uv _ _ _ _ _ _ _ _ _ _ _ _ _ _ _ _ _ _ _ _ _ lU hr (@Ya _ _ _ _ _ (pv 2) (@Ya _ _ _ _ _ (pv 3) (@Ya _ _ _ _ _ (@UR _ _ _ _ _ _ _ _ _ bm qd rfl rfl (Eq.trans rfl QX) rfl) Yc (by rfl)) (by rfl)) (by rfl)) (by omega) (by rfl) (by decide) (by rfl) (by rfl))))),?_⟩;refine Yn fun R rr=>?_
 walk_at "rd";refine ⟨B,lo,a,sk,v,rfl,hB,hS,z9 hs hv ok,fun H1 s1=>rr _ _ ?_⟩;have ts1:=ts.keep s1;have JM:∀ n:Nat,(iG (n+1) (n+1+1) a B).as.Nodup:=fun n=>by
  show List.Nodup [n+1+1,n+1]
  simp
 have fin:∀ (fn c:Addr) (pm ctv:Value) (H3:Hp),Kt H1 H3->(∀ b,H3 b=none->H1 b=none)->Tb aj H3->XQ H3 aA->H3 fn=some (bG fn (ZJ (iG (s.heap.objs.size+1) (s.heap.objs.size+1+1) a B).cl c pm ctv))->H3 c=some (cH c ZB)->∃ l,
   Xu (g.bZ [Str.ofString "book",Str.ofString "shape",Str.ofString "judge",Str.ofString "value"] (Str.ofString "shrunk") pN f_ (Value.ref aB) A outer s H E) [some (V.ref B),some (V.ref a),some (V.ref f),some v] l /\
    ((∀ (c:Addr),c∈l.as->H3 c=none)->∀ (Hz:Hp),WE H3 Hz l->lu g aj Z1 [.ref f,v,.ref fn] Hz (fun v H'=>Q v (off H' l.as)) fun c d H'=>E c d (off H' l.as)):=by
  intro fn c pm ctv H3 k3 oZ tb3 JN hfn hc;refine ⟨iG (s.heap.objs.size+1) (s.heap.objs.size+1+1) a B,⟨JM _,fun z hz=>?_⟩,fun _ Hz hL=>?_⟩
  ·simp only [List.mem_cons,List.not_mem_nil,or_false] at hz
   rcases hz with rfl | rfl
   ·exact ⟨1,rfl,rfl,rfl,rfl⟩
   ·exact ⟨0,rfl,rfl,rfl,rfl⟩
  ·have sz:=Wu hL
   have zz:=hL.z;have kz:Kt H Hz:=((YA s1).trans k3).trans (YA sz);refine ⟨f,fn,v,kdS sk,p,lo,xs,U,rfl,hj.kt kz,Ye2 p7 (JM _) (sz _ _ hfn) (sz _ _ hc) zz (hB.kt kz) (hS.tp (Xe kz)) hs,tb3.keep sz,hv.kt kz,ok,hz,fun H' s' b' e=>?_,fun Bx ys w H' s' b' gB hBx hap way f2=>?_⟩
   ·have z':=qb zz s'.kt
    have ko:=VR hL s';refine q0 _ (((YA s1).trans k3).trans ko.kt) (Vl z' b') ?_ e;exact Af z' (Ag (JN.keep sz) s' (Ne.symm np))
   ·have z':=qb zz s'.kt
    have ko:=VR hL s';refine q1 Bx ys w _ (((YA s1).trans k3).trans ko.kt) (Vl z' b') (Af z' (Ag (JN.keep sz) s' (Ne.symm np))) (s1.free (oZ _ (sz.free gB))) (XX z' hBx (by intro _ _ z;cases z)) hap way (f2.imp fun _ _ h=>(rD z' h).imp fun a ha=>s1.free (oZ _ (sz.free ha)))
 walk_at "rd";unfold V4;walk_at "rd";rcases ts1 with ht | ⟨c,ht,hc⟩
 ·refine ⟨_,ht,trivial,.inl ⟨rfl,fun fn c fd g1 g2 g3 ⟨pm,ctv,e⟩=>?_⟩⟩
  subst e;have n1:=Ym ht g1;have n2:=Ym ht g2;have kk:∀ (o1 o2 o3:HO) a o,a≠aA->H1 a=some o->upd (upd (upd H1 aA o1) c o2) fn o3 a=some o:=fun o1 o2 o3 a o h1 h2=>by rw [Yg (Ym h2 g1),Yg (Ym h2 g2),Yg h1];exact h2
  exact fin fn c pm ctv _ (zJ (kk _ _ _) ht) (fun b e=>Vx (Vx (Vx e))) ((tb.keep s1).but (kk _ _ _) ht np) (.inr ⟨c,by rw [Yg n1,Yg n2,Yb];rfl,by rw [Yg (Ne.symm g3),Yb]⟩) Yb (by rw [Yg (Ne.symm g3),Yb])
 ·refine ⟨_,ht,trivial,.inr ⟨c,rfl,fun fn fd g1 ⟨pm,ctv,e⟩=>?_⟩⟩
  subst e;have su:=Yf.aG g1 (bG fn (ZJ (iG (s.heap.objs.size+1) (s.heap.objs.size+1+1) a B).cl c pm ctv));exact fin fn c pm ctv _ (YA su) (fun b e=>su.free e) ((tb.keep s1).keep su) (XQ.keep (.inr ⟨c,ht,hc⟩) su) Yb (su _ _ hc)
inductive mW (g:Gx) (P:Addr) (vs:List V) (H:Hp) (Q:VK) (E_:XK):Prop
 | mk (B a f:Addr) (v:V) (lo:Int) (s:Sk) (p:List Nat->Bool) (xs:List Nat) (U:Addr->Prop) (h0:vs=[.ref B,.ref a,.ref f,v]) (h1:bR H lo B) (h2:Xd H lo a s) (h3:(s = .my\/s = .us\/s = .ro)) (h4:eZ g P H f (kdS s) p lo) (h5:aL U H lo v (vc (kdS s) xs)) (h6:bw xs) (h7:Tb P H) (h8:p xs=false) (h9:nx p (stm xs)=none) (h10:∀ H',Kq P H H'->Tb P H'->Q (.bl true) H')
theorem Yc2 {k:Nat} {Z0 Z3 Z1 Z4 Z2:Addr} {ao aj:Addr} {au aq:Addr} {aB aA:Addr} {aF aD:Addr} (R:g.Raw "at_rest" "at_rest" yM ["book","shape","judge","value"]) (Zp:g.Fn k "refuse_no_value" ["book","shape","value"] (iz g.K)) (iM:g.Fn k "holds" ["judge","value"] (gJ g aj)) (p7:g.Fn k "steps_of" ["book","shape","value"] (iD g.K)) (uY:g.Fn k "first_breach" ["judge","values"] (oA g aj)):g.Fn (k+1) "at_rest" ["book","shape","judge","value"] (mW g aj):=by
 refine R.fn YcQ (fun vs H Q E h=>by obtain ⟨B,a,f,v,lo,s,p,xs,U,rfl,hB,hS,hs,hj,hv,ok,tb,hp,hn,q⟩:=h;rfl) fun f_ cdv A outer s H vs Q E hr h=>?_
 obtain ⟨B,a,f,v,lo,s,p,xs,U,rfl,hB,hS,hs,hj,hv,ok,tb,hp,hn,q⟩:=h;refine ⟨_,(@Yd _ _ _ _ _ (@Xk _ _ _ _ (@Yv _ _ _ _ _ _ _ _ _ _ _ _ Zp hr (@Ya _ _ _ _ _ (pv 0) (@Ya _ _ _ _ _ (pv 1) (@Ya _ _ _ _ _ (pv 3) Yc (by rfl)) (by rfl)) (by rfl)) (by omega) (by rfl) (by rfl) (by decide) (by rfl) (by rfl)) (by rfl)) (@Ye _ _ _ (@Yj _ _ _ _ (@Xf _ _ _ _ _ _ _ (@vP _ _ _ _ (@Yv _ _ _ _ _ _ _ _ _ _ _ _ iM hr (@Ya _ _ _ _ _ (pv 2) (@Ya _ _ _ _ _ (pv 3) Yc (by rfl)) (by rfl)) (by omega) (by rfl) (by rfl) (by decide) (by rfl) (by rfl))) (@Xa _ _ _ _ _ (@YV _ _ _ _ _ _ _ _ VG (@Yv _ _ _ _ _ _ _ _ _ _ _ _ uY hr (@Ya _ _ _ _ _ (pv 2) (@Ya _ _ _ _ _ (@Yv _ _ _ _ _ _ _ _ _ _ _ _ p7 hr (@Ya _ _ _ _ _ (pv 0) (@Ya _ _ _ _ _ (pv 1) (@Ya _ _ _ _ _ (pv 3) Yc (by rfl)) (by rfl)) (by rfl)) (by omega) (by rfl) (by rfl) (by decide) (by rfl) (by rfl)) Yc (by rfl)) (by rfl)) (by omega) (by rfl) (by rfl) (by decide) (by rfl) (by rfl)) Wo (Yk _))))))),?_⟩;refine Yn fun R rr=>?_
 walk_at "rd";refine ⟨B,lo,a,s,v,rfl,hB,hS,z9 hs hv ok,fun H1 s1=>rr _ _ ?_⟩;walk_at "rd";refine ⟨f,v,kdS s,p,lo,xs,U,rfl,hj.kt (YA s1),tb.keep s1,hv.same s1,ok,fun H2 k2 b2=>?_⟩;have k12:=(Xz s1).trans k2;rw [hp];refine ⟨_,rfl,YT rfl ⟨B,lo,a,s,v,xs,rfl,hB.kt k12.kt,hS.tp (Xe k12.kt),hs,(hv.kt k12.kt).imp fun _ _=>trivial,ok,fun v' H3 s3 c3=>?_⟩⟩;obtain ⟨L,zs,rfl,_,hL,g3⟩:=z8 c3 (Jz _ _);rw [Jy] at g3
 have k13:=k12.trans (Xz s3);exact ⟨f,L,kdS s,p,lo,zs,stm xs,_,rfl,hj.kt k13.kt,b2.keep s3,hL,g3,(fun l h=>(Qt ok h).ok),fun H4 k4 b4 _=>q H4 (k13.trans k4) b4,fun y l H4 _ _ e=>by rw [hn] at e;cases e⟩
inductive mX (g:Gx) (P PS:Addr) (vs:List V) (H:Hp) (Q:VK) (E_:XK):Prop
 | mk (B a f:Addr) (v:V) (lo:Int) (s:Sk) (p:List Nat->Bool) (xs:List Nat) (U:Addr->Prop) (h0:vs=[.ref B,.ref a,.ref f,v]) (h1:bR H lo B) (h2:Xd H lo a s) (h3:(s = .my\/s = .us\/s = .ro)) (h4:eZ g P H f (kdS s) p lo) (h5:aL U H lo v (vc (kdS s) xs)) (h6:bw xs) (h7:bT xs<=1000) (h8:Tb P H) (h9:XQ H PS) (h10:P≠PS) (h11:p xs=true) (h12:∀ H',Kt H H'->Tb P H'->XQ H' PS->Q (.bl true) H')
theorem Z2R {k:Nat} {Z0 Z3 Z1 Z4 Z2:Addr} {ao aj:Addr} {au aq:Addr} {aB aA:Addr} {aF aD:Addr} (R:g.Raw "_law_refused" "_law_refused" zx ["_law_book","_law_shape","_law_holds","_law_value"]) (u6:g.bD k "shrunk" ["book","shape","judge","value"] (lA g aj aA Z1)) (bK:g.mg "NoBreach"=some (.ref Z1)) (aZ:W.exmOne g.K (.ref Z1) (.ref Z1)=some true):g.Fn (k+1) "_law_refused" ["_law_book","_law_shape","_law_holds","_law_value"] (mX g aj aA):=by
 refine R.fn Z2O (fun vs H Q E h=>by obtain ⟨B,a,f,v,lo,s,p,xs,U,rfl,hB,hS,hs,hj,hv,ok,hz,tb,ts,np,hp,q⟩:=h;rfl) fun f_ cdv A outer s H vs Q E hr h=>?_
 obtain ⟨B,a,f,v,lo,s,p,xs,U,rfl,hB,hS,hs,hj,hv,ok,hz,tb,ts,np,hp,q⟩:=h;refine ⟨_,(@Yd _ _ _ _ _ (@YeP _ _ _ _ _ _ _ _ _ _ _ _ _ _ _ _ _ _ _ _ _ u6 hr (@Ya _ _ _ _ _ (pv 0) (@Ya _ _ _ _ _ (pv 1) (@Ya _ _ _ _ _ (pv 2) (@Ya _ _ _ _ _ (pv 3) Yc (by rfl)) (by rfl)) (by rfl)) (by rfl)) bK (fun _=>(@Ye _ _ _ (@Yj _ _ _ _ Xq))) (by omega) (by rfl) (by rfl) (by rfl) (by rfl) (by rfl) (by decide) (by decide) (by rfl) (by rfl) (by rfl)) (@Ye _ _ _ (@Yj _ _ _ _ Xq))),?_⟩;refine Yn fun R rr=>?_
 unfold Hr;walk_at "rd";exact ⟨B,a,f,v,lo,s,p,xs,U,rfl,hB,hS,hs,hj,hv,ok,hz,tb,ts,np,fun H' k' b' t' _=>⟨aZ,q H' k' b' t'⟩,fun R ys w H' _ _ _ _ _ h=>by rw [hp] at h;cases h⟩
def cC (way n:Nat) (os:List Nat):Bool:=match way with
 | 0=>os.all fun o=>decide (o<n)
 | 1=>decide (os.length<n)
 | 2 => !decide (os=os.reverse)
 | _=>match os[n]? with
  | none=>false
  | some o=>decide (o<n)
def dj (way n:Nat) (lo:Int):Tm:=match way with
 | 0 => .each .here (.less .here (.num (lo+(n:Nat))))
 | 1 => .less (.count .here) (.num (n:Nat))
 | 2 => .not (.same .here (.turned .here))
 | _ => .less (.part .here (n:Nat)) (.num (lo+(n:Nat)))
def bf (lo:Int) (os:List Nat):PyData := .list (os.map fun (o:Nat) => .int (lo+(o:Nat)))
inductive mY (K:W.Frag) (vs:List V) (H:Hp) (Q:VK) (E_:XK):Prop
 | mk (lo:Int) (D:Addr) (os:List Nat) (h0:vs=[.int lo,.ref D]) (h1:H D=some (.lst (ofs lo os))) (h2:os.length<=100) (h3:∀ H',Yf H H'->Q (.int (bT os:Nat)) H')
theorem Ygr (os:List Nat):(os.map fun (o:Nat)=>(1:Int)+(mV o:Nat)).sum=((bT os:Nat):Int):=by
 induction os with
 | nil=>rfl
 | cons o os ih =>
  rw [List.map_cons,List.sum_cons,ih,show o::os=[o]++os from rfl,X3,Ub];omega
theorem Ybj {Z0 Z3 Z1 Z4 Z2:Addr} {ao aj:Addr} {au aq:Addr} {aB aA:Addr} {aF aD:Addr} (R:g.Raw "_law_size" "_law_size" zm ["_law_low","_law_things"]) (dW:g.mg "sum"=none):g.Fn (1) "_law_size" ["_law_low","_law_things"] (mY g.K):=by
 refine R.fn Ybb (fun vs H Q E h=>by obtain ⟨lo,D,os,rfl,hD,hl,q⟩:=h;rfl) fun f_ cdv A outer s H vs Q E hr h=>?_
 obtain ⟨lo,D,os,rfl,hD,hl,q⟩:=h;refine ⟨_,(@Ye _ _ _ (@Yj _ _ _ _ (@YQ _ _ _ _ _ _ _ _ _ _ dW Vz (@Ya _ _ _ _ _ (@XF _ _ _ _ _ _ _ ([none,some 0]) ((["_law_thing","_law_low"]:List Str)) _ (YJ 0) _ _ (.own (.cap (i:=0) rfl rfl (by first | exact .inl rfl | exact .inr rfl) .nil)) rfl (@Y1 _ _ _ _ (pv 1)) (fun cl C s₀ H₀ fp pn=>(@YK _ _ (0) _ (show List.Nodup (["_law_thing","_law_low"]:List Str) by decide +kernel) rfl (.inl rfl) (.inr rfl))) (fun cl C s₀ H₀ fp pn=>Xs) (fun cl C s₀ H₀ fp pn=>(@Yx _ _ _ _ _ _ _ _ Xm Yi (@Ygb _ (g.K) _ _ _ _ _ _ _ _ F.plainAttrs_int F.slot_int_bit_length F.type_int_bit_length Gf (@Yx _ _ _ _ _ _ _ _ VF (pv 0) (pv 1)) (by rfl) (by rfl) (by rfl)))) (by intro x hx;simp at hx;first | (subst hx;exact .inl rfl) | (rcases hx with rfl | rfl<;>exact .inl rfl) | (rcases hx with rfl | rfl | rfl<;>exact .inl rfl) | (rcases hx with rfl | rfl | rfl | rfl<;>exact .inl rfl) | (rcases hx with rfl | rfl | rfl | rfl | rfl<;>exact .inl rfl)) (by rfl) (by decide) (by decide +kernel) (by intro _;rfl)) Yc (by rfl)) (by decide +kernel) (by rfl) (by rfl) (by decide) (by decide) (by rfl) (by rfl)))),?_⟩;walk_at "rd";refine QI (K:=g.K) (xs:=ofs lo os) ((os.map fun (o:Nat)=>(1:Int)+(mV o:Nat)).map V.int) (fun R r=>by walk_at "rd";exact r D H (.refl _) (aJ.of hD)) (by simp [ofs]) (by simp [ofs];omega) ?_ ?_
 ·intro i x y H' hx hy sm R r
  rw [ofs,List.getElem?_map] at hx
  obtain ⟨o,ho,rfl⟩:=Option.map_eq_some_iff.mp hx;rw [List.getElem?_map,List.getElem?_map,ho] at hy
  cases Option.some.inj hy
  walk_at "rd";rw [show lo+(o:Int) - lo=(o:Int) by omega];exact ⟨rfl,r H' (.refl _)⟩
 ·intro D' H' gD sm hd
  refine ⟨D',rfl,_,aJ.of hd,?_⟩;rw [Ygr];exact q H' sm
inductive mZ (vs:List V) (H:Hp) (Q:VK) (E_:XK):Prop
 | mk (way n:Nat) (lo:Int) (h0:vs=[.int (way:Nat),.int lo,.int (n:Nat)]) (h1:∀ u H',Yf H H'->YB H' (dj way n lo) u->Q u H')
theorem Ybk {Z0 Z3 Z1 Z4 Z2:Addr} {ao aj:Addr} {au aq:Addr} {aB aA:Addr} {aF aD:Addr} (R:g.Raw "_law_term" "_law_term" zp ["_law_way","_law_low","_law_n"]):g.Fn (1) "_law_term" ["_law_way","_law_low","_law_n"] (mZ):=by
 refine R.fn HJ (fun vs H Q E h=>by obtain ⟨way,n,lo,rfl,q⟩:=h;rfl) fun f_ cdv A outer s H vs Q E hr h=>?_
 obtain ⟨way,n,lo,rfl,q⟩:=h;refine ⟨_,(@Yd _ _ _ _ _ (@YD _ _ (3) _ _ _ _ HJ.nd rfl (.inl rfl) (@YF _ _ _ _ _ (@Ya _ _ _ _ _ Yp (@Ya _ _ _ _ _ (@YF _ _ _ _ _ Yc) Yc (YG _ _ _ _ _)) (by rfl))) (by rfl) (by first | exact .inl rfl | exact .inr rfl | assumption)) (@Yd _ _ _ _ _ (@Yq _ _ _ _ _ _ _ _ (@Yo _ _ _ _ _ _ _ _ Yz (pv 0) Yi (Yk _)) (@Ye _ _ _ (@Yj _ _ _ _ (@YF _ _ _ _ _ (@Ya _ _ _ _ _ Yp (@Ya _ _ _ _ _ (@YF _ _ _ _ _ (@Ya _ _ _ _ _ (pv 3) (@Ya _ _ _ _ _ (@YF _ _ _ _ _ (@Ya _ _ _ _ _ Yp (@Ya _ _ _ _ _ (@YF _ _ _ _ _ (@Ya _ _ _ _ _ (pv 3) (@Ya _ _ _ _ _ (@YF _ _ _ _ _ (@Ya _ _ _ _ _ Yp (@Ya _ _ _ _ _ (@Yx _ _ _ _ _ _ _ _ Xm (pv 1) (pv 2)) Yc (by rfl)) (by rfl))) Yc (YG _ _ _ _ _)) (by rfl))) Yc (YG _ _ _ _ _)) (by rfl))) Yc (YG _ _ _ _ _)) (by rfl))) Yc (YG _ _ _ _ _)) (by rfl))))) Yl) (@Yd _ _ _ _ _ (@Yq _ _ _ _ _ _ _ _ (@Yo _ _ _ _ _ _ _ _ Yz (pv 0) Yi (Yk _)) (@Ye _ _ _ (@Yj _ _ _ _ (@YF _ _ _ _ _ (@Ya _ _ _ _ _ Yp (@Ya _ _ _ _ _ (@YF _ _ _ _ _ (@Ya _ _ _ _ _ (@YF _ _ _ _ _ (@Ya _ _ _ _ _ Yp (@Ya _ _ _ _ _ (pv 3) Yc (by rfl)) (by rfl))) (@Ya _ _ _ _ _ (@YF _ _ _ _ _ (@Ya _ _ _ _ _ Yp (@Ya _ _ _ _ _ (pv 2) Yc (by rfl)) (by rfl))) Yc (YG _ _ _ _ _)) (YG _ _ _ _ _))) Yc (YG _ _ _ _ _)) (by rfl))))) Yl) (@Yd _ _ _ _ _ (@Yq _ _ _ _ _ _ _ _ (@Yo _ _ _ _ _ _ _ _ Yz (pv 0) Yi (Yk _)) (@Ye _ _ _ (@Yj _ _ _ _ (@YF _ _ _ _ _ (@Ya _ _ _ _ _ Yp (@Ya _ _ _ _ _ (@YF _ _ _ _ _ (@Ya _ _ _ _ _ Yp (@Ya _ _ _ _ _ (@YF _ _ _ _ _ (@Ya _ _ _ _ _ (pv 3) (@Ya _ _ _ _ _ (@YF _ _ _ _ _ (@Ya _ _ _ _ _ Yp (@Ya _ _ _ _ _ (pv 3) Yc (by rfl)) (by rfl))) Yc (YG _ _ _ _ _)) (by rfl))) Yc (YG _ _ _ _ _)) (by rfl))) Yc (YG _ _ _ _ _)) (by rfl))))) Yl) (@Ye _ _ _ (@Yj _ _ _ _ (@YF _ _ _ _ _ (@Ya _ _ _ _ _ Yp (@Ya _ _ _ _ _ (@YF _ _ _ _ _ (@Ya _ _ _ _ _ (@YF _ _ _ _ _ (@Ya _ _ _ _ _ Yp (@Ya _ _ _ _ _ (@YF _ _ _ _ _ (@Ya _ _ _ _ _ (pv 3) (@Ya _ _ _ _ _ (pv 2) Yc (by rfl)) (by rfl))) Yc (YG _ _ _ _ _)) (by rfl))) (@Ya _ _ _ _ _ (@YF _ _ _ _ _ (@Ya _ _ _ _ _ Yp (@Ya _ _ _ _ _ (@Yx _ _ _ _ _ _ _ _ Xm (pv 1) (pv 2)) Yc (by rfl)) (by rfl))) Yc (YG _ _ _ _ _)) (YG _ _ _ _ _))) Yc (YG _ _ _ _ _)) (by rfl))))))))),?_⟩;refine Yn fun R rr=>?_
 walk_at "rd";refine ⟨few (by decide),fun p0 g0=>?_⟩;have w0:=Yf.aG g0 (.tup []);have e0:upd H p0 (.tup []) p0=some (.tup []):=Yb;generalize upd H p0 (.tup [])=K0 at w0 e0 ⊢;refine ⟨few (by decide),fun p1 g1=>?_⟩;have w1:=Yf.aG g1 (.tup [.str "here",.ref p0]);have e1:upd K0 p1 (.tup [.str "here",.ref p0]) p1=some (.tup [.str "here",.ref p0]):=Yb;generalize upd K0 p1 (.tup [.str "here",.ref p0])=K1 at w1 e1 ⊢;refine rr _ _ ?_;have s1:=w0.trans w1;have th:∀ {H':Hp},Yf K1 H'->YB H' .here (.ref p1):=fun s=>⟨p1,_,rfl,s _ _ e1⟩
 match way,q with
 | 0,q =>
  refine Yn fun R rr=>?_
  walk_at "rd";refine YT rfl ?_;refine ⟨few (by decide),fun p2 g2=>?_⟩;have w2:=Yf.aG g2 (.tup [.str "num",.int (lo+(n:Nat))]);have e2:upd K1 p2 (.tup [.str "num",.int (lo+(n:Nat))]) p2=some (.tup [.str "num",.int (lo+(n:Nat))]):=Yb;generalize upd K1 p2 (.tup [.str "num",.int (lo+(n:Nat))])=K2 at w2 e2 ⊢;refine ⟨few (by decide),fun p3 g3=>?_⟩;have w3:=Yf.aG g3 (.tup [.ref p1,.ref p2]);have e3:upd K2 p3 (.tup [.ref p1,.ref p2]) p3=some (.tup [.ref p1,.ref p2]):=Yb;generalize upd K2 p3 (.tup [.ref p1,.ref p2])=K3 at w3 e3 ⊢;refine ⟨few (by decide),fun p4 g4=>?_⟩;have w4:=Yf.aG g4 (.tup [.str "less",.ref p3]);have e4:upd K3 p4 (.tup [.str "less",.ref p3]) p4=some (.tup [.str "less",.ref p3]):=Yb;generalize upd K3 p4 (.tup [.str "less",.ref p3])=K4 at w4 e4 ⊢;refine ⟨few (by decide),fun p5 g5=>?_⟩;have w5:=Yf.aG g5 (.tup [.ref p1,.ref p4]);have e5:upd K4 p5 (.tup [.ref p1,.ref p4]) p5=some (.tup [.ref p1,.ref p4]):=Yb;generalize upd K4 p5 (.tup [.ref p1,.ref p4])=K5 at w5 e5 ⊢;refine ⟨few (by decide),fun p6 g6=>?_⟩;have w6:=Yf.aG g6 (.tup [.str "each",.ref p5]);have e6:upd K5 p6 (.tup [.str "each",.ref p5]) p6=some (.tup [.str "each",.ref p5]):=Yb;generalize upd K5 p6 (.tup [.str "each",.ref p5])=K6 at w6 e6 ⊢;exact q (.ref p6) _ (s1.trans ((((w2.trans w3).trans w4).trans w5).trans w6)) (show YB _ (dj 0 n lo) _ from ⟨p6,p5,_,_,rfl,e6,w6 _ _ e5,th ((((w2.trans w3).trans w4).trans w5).trans w6),⟨p4,p3,_,_,rfl,(w5.trans w6) _ _ e4,((w4.trans w5).trans w6) _ _ e3,th ((((w2.trans w3).trans w4).trans w5).trans w6),⟨p2,rfl,(((w3.trans w4).trans w5).trans w6) _ _ e2⟩⟩⟩)
 | 1,q =>
  refine Yn fun R rr=>?_
  walk_at "rd";refine Yu (by omega) (rr _ _ ?_);refine Yn fun R rr=>?_
  walk_at "rd";refine YT rfl ?_;refine ⟨few (by decide),fun p2 g2=>?_⟩;have w2:=Yf.aG g2 (.tup [.str "count",.ref p1]);have e2:upd K1 p2 (.tup [.str "count",.ref p1]) p2=some (.tup [.str "count",.ref p1]):=Yb;generalize upd K1 p2 (.tup [.str "count",.ref p1])=K2 at w2 e2 ⊢;refine ⟨few (by decide),fun p3 g3=>?_⟩;have w3:=Yf.aG g3 (.tup [.str "num",.int (n:Nat)]);have e3:upd K2 p3 (.tup [.str "num",.int (n:Nat)]) p3=some (.tup [.str "num",.int (n:Nat)]):=Yb;generalize upd K2 p3 (.tup [.str "num",.int (n:Nat)])=K3 at w3 e3 ⊢;refine ⟨few (by decide),fun p4 g4=>?_⟩;have w4:=Yf.aG g4 (.tup [.ref p2,.ref p3]);have e4:upd K3 p4 (.tup [.ref p2,.ref p3]) p4=some (.tup [.ref p2,.ref p3]):=Yb;generalize upd K3 p4 (.tup [.ref p2,.ref p3])=K4 at w4 e4 ⊢;refine ⟨few (by decide),fun p5 g5=>?_⟩;have w5:=Yf.aG g5 (.tup [.str "less",.ref p4]);have e5:upd K4 p5 (.tup [.str "less",.ref p4]) p5=some (.tup [.str "less",.ref p4]):=Yb;generalize upd K4 p5 (.tup [.str "less",.ref p4])=K5 at w5 e5 ⊢;exact q (.ref p5) _ (s1.trans (((w2.trans w3).trans w4).trans w5)) (show YB _ (dj 1 n lo) _ from ⟨p5,p4,_,_,rfl,e5,w5 _ _ e4,⟨p2,_,rfl,((w3.trans w4).trans w5) _ _ e2,th (((w2.trans w3).trans w4).trans w5)⟩,⟨p3,rfl,(w4.trans w5) _ _ e3⟩⟩)
 | 2,q =>
  refine Yn fun R rr=>?_
  walk_at "rd";refine Yu (by omega) (rr _ _ ?_);refine Yn fun R rr=>?_
  walk_at "rd";refine Yu (by omega) (rr _ _ ?_);refine Yn fun R rr=>?_
  walk_at "rd";refine YT rfl ?_;refine ⟨few (by decide),fun p2 g2=>?_⟩;have w2:=Yf.aG g2 (.tup [.str "turned",.ref p1]);have e2:upd K1 p2 (.tup [.str "turned",.ref p1]) p2=some (.tup [.str "turned",.ref p1]):=Yb;generalize upd K1 p2 (.tup [.str "turned",.ref p1])=K2 at w2 e2 ⊢;refine ⟨few (by decide),fun p3 g3=>?_⟩;have w3:=Yf.aG g3 (.tup [.ref p1,.ref p2]);have e3:upd K2 p3 (.tup [.ref p1,.ref p2]) p3=some (.tup [.ref p1,.ref p2]):=Yb;generalize upd K2 p3 (.tup [.ref p1,.ref p2])=K3 at w3 e3 ⊢;refine ⟨few (by decide),fun p4 g4=>?_⟩;have w4:=Yf.aG g4 (.tup [.str "same",.ref p3]);have e4:upd K3 p4 (.tup [.str "same",.ref p3]) p4=some (.tup [.str "same",.ref p3]):=Yb;generalize upd K3 p4 (.tup [.str "same",.ref p3])=K4 at w4 e4 ⊢;refine ⟨few (by decide),fun p5 g5=>?_⟩;have w5:=Yf.aG g5 (.tup [.str "not",.ref p4]);have e5:upd K4 p5 (.tup [.str "not",.ref p4]) p5=some (.tup [.str "not",.ref p4]):=Yb;generalize upd K4 p5 (.tup [.str "not",.ref p4])=K5 at w5 e5 ⊢;exact q (.ref p5) _ (s1.trans (((w2.trans w3).trans w4).trans w5)) (show YB _ (dj 2 n lo) _ from ⟨p5,_,rfl,e5,⟨p4,p3,_,_,rfl,w5 _ _ e4,(w4.trans w5) _ _ e3,th (((w2.trans w3).trans w4).trans w5),⟨p2,_,rfl,((w3.trans w4).trans w5) _ _ e2,th (((w2.trans w3).trans w4).trans w5)⟩⟩⟩)
 | w+3,q =>
  refine Yn fun R rr=>?_
  walk_at "rd";refine Yu (by omega) (rr _ _ ?_);refine Yn fun R rr=>?_
  walk_at "rd";refine Yu (by omega) (rr _ _ ?_);refine Yn fun R rr=>?_
  walk_at "rd";refine Yu (by omega) (rr _ _ ?_);walk_at "rd";refine ⟨few (by decide),fun p2 g2=>?_⟩;have w2:=Yf.aG g2 (.tup [.ref p1,.int (n:Nat)]);have e2:upd K1 p2 (.tup [.ref p1,.int (n:Nat)]) p2=some (.tup [.ref p1,.int (n:Nat)]):=Yb;generalize upd K1 p2 (.tup [.ref p1,.int (n:Nat)])=K2 at w2 e2 ⊢;refine ⟨few (by decide),fun p3 g3=>?_⟩;have w3:=Yf.aG g3 (.tup [.str "part",.ref p2]);have e3:upd K2 p3 (.tup [.str "part",.ref p2]) p3=some (.tup [.str "part",.ref p2]):=Yb;generalize upd K2 p3 (.tup [.str "part",.ref p2])=K3 at w3 e3 ⊢;refine ⟨few (by decide),fun p4 g4=>?_⟩;have w4:=Yf.aG g4 (.tup [.str "num",.int (lo+(n:Nat))]);have e4:upd K3 p4 (.tup [.str "num",.int (lo+(n:Nat))]) p4=some (.tup [.str "num",.int (lo+(n:Nat))]):=Yb;generalize upd K3 p4 (.tup [.str "num",.int (lo+(n:Nat))])=K4 at w4 e4 ⊢;refine ⟨few (by decide),fun p5 g5=>?_⟩;have w5:=Yf.aG g5 (.tup [.ref p3,.ref p4]);have e5:upd K4 p5 (.tup [.ref p3,.ref p4]) p5=some (.tup [.ref p3,.ref p4]):=Yb;generalize upd K4 p5 (.tup [.ref p3,.ref p4])=K5 at w5 e5 ⊢;refine ⟨few (by decide),fun p6 g6=>?_⟩;have w6:=Yf.aG g6 (.tup [.str "less",.ref p5]);have e6:upd K5 p6 (.tup [.str "less",.ref p5]) p6=some (.tup [.str "less",.ref p5]):=Yb;generalize upd K5 p6 (.tup [.str "less",.ref p5])=K6 at w6 e6 ⊢;exact q (.ref p6) _ (s1.trans ((((w2.trans w3).trans w4).trans w5).trans w6)) (show YB _ (dj (w+3) n lo) _ from ⟨p6,p5,_,_,rfl,e6,w6 _ _ e5,⟨p3,p2,_,rfl,((w4.trans w5).trans w6) _ _ e3,(((w3.trans w4).trans w5).trans w6) _ _ e2,th ((((w2.trans w3).trans w4).trans w5).trans w6)⟩,⟨p4,rfl,(w5.trans w6) _ _ e4⟩⟩)
theorem VT {os:List Nat} {j:Nat} (h:j<os.length):os.take j++os.drop (j+1)∈stm os:=List.mem_append_left _ (List.mem_map.mpr ⟨j,List.mem_range.mpr h,rfl⟩)
theorem JQ {os:List Nat} {j s:Nat} (h:j<os.length) (hs:s∈cB os[j]):os.take j++[s]++os.drop (j+1)∈stm os:=by
 refine List.mem_append_right _ (List.mem_flatten.mpr ⟨_,List.mem_map.mpr ⟨j,List.mem_range.mpr (by rw [List.length_map];exact h),rfl⟩,List.mem_map.mpr ⟨s,?_,rfl⟩⟩);rw [List.getD_eq_getElem?_getD,List.getElem?_map,List.getElem?_eq_getElem h];exact hs
theorem WI {os:List Nat} {j:Nat} (h:j<os.length):(os.take j++os.drop (j+1)).length=os.length - 1:=by
 rw [List.length_append,List.length_take,List.length_drop];omega
theorem VU {os:List Nat} {j i:Nat} (h:j<os.length):(os.take j++os.drop (j+1))[i]?=if i<j then os[i]? else os[i+1]?:=by
 have ht:(os.take j).length=j:=by rw [List.length_take];omega
 by_cases c:i<j
 ·rw [if_pos c,List.getElem?_append_left (by omega),List.getElem?_take,if_pos c]
 ·rw [if_neg c,List.getElem?_append_right (by omega),List.getElem?_drop,ht]
  congr 1;omega
theorem JR {o:Nat} (h:0<o):o / 2∈cB o:=by
 rw [cB,List.mem_reverse,show (20:Nat)=19+1 from rfl,Jc h];exact .head _
def u9 (way n:Nat) (l:List Nat):Prop:=match way with
 | 0=>∃ o,l=[o]/\n<=o/\(o=0\/o / 2<n)
 | 1=>l=List.replicate n 0
 | _=>l=[]
theorem LQ {n:Nat} {l:List Nat} (h:cC 0 n l=false) (r:∀ z∈stm l,cC 0 n z=true):u9 0 n l:=by
 have h:(l.all fun o=>decide (o<n))=false:=h;rw [List.all_eq_false] at h
 obtain ⟨x,hx,hxn⟩:=h;have hxn:n<=x:=by simpa using hxn
 obtain ⟨i,hi⟩:=List.getElem?_of_mem hx;have hil:=(List.getElem?_eq_some_iff.mp hi).1;have key:∀ j,j<l.length->j≠i->False:=fun j hj hji=>by
  have:=r _ (VT hj);have this:((l.take j++l.drop (j+1)).all fun o=>decide (o<n))=true:=this;rw [List.all_eq_true] at this
  have hm:x∈l.take j++l.drop (j+1):=by
   by_cases c:i<j
   ·exact List.mem_of_getElem? (i:=i) (by rw [VU hj,if_pos c];exact hi)
   ·exact List.mem_of_getElem? (i:=i - 1) (by rw [VU hj,if_neg (by omega),show i - 1+1=i by omega];exact hi)
  have:=this x hm;simp at this;omega
 match l,hi,hil,key,r with
 | [o],hi,hil,key,r =>
  have h0:i=0:=by simpa using hil
  subst h0;obtain rfl:o=x:=Option.some.inj hi;refine ⟨o,rfl,hxn,?_⟩;by_cases c:o=0
  ·exact .inl c
  ·have:=r _ (JQ (os:=[o]) (j:=0) (s:=o / 2) (by simp) (JR (o:=o) (by omega)))
   have this:([o / 2].all fun o=>decide (o<n))=true:=this;exact .inr (by simpa using this)
 | a::b::t,hi,hil,key,r =>
  exfalso;by_cases c:i=0
  ·exact key 1 (by simp) (by omega)
  ·exact key 0 (by simp) (by omega)
theorem LR {n:Nat} {l:List Nat} (h:cC 1 n l=false) (r:∀ z∈stm l,cC 1 n z=true):u9 1 n l:=by
 have h:n<=l.length:=by
  have h:decide (l.length<n)=false:=h;simpa using h
 have hz:∀ o∈l,o=0:=fun o ho=>by
  obtain ⟨j,hj⟩:=List.getElem?_of_mem ho;obtain ⟨hjl,e⟩:=List.getElem?_eq_some_iff.mp hj;by_cases c:o=0
  ·exact c
  ·exfalso
   have hm:=JR (o:=o) (by omega);rw [<- e] at hm
   have:=r _ (JQ hjl hm);have this:decide ((l.take j++[l[j] / 2]++l.drop (j+1)).length<n)=true:=this;rw [decide_eq_true_eq,List.length_append,List.length_append,List.length_take,List.length_drop,List.length_singleton] at this
   omega
 have hl:l.length=n:=by
  by_cases c:l.length=n
  ·exact c
  ·have:=r _ (VT (os:=l) (j:=0) (by omega))
   have this:decide ((l.take 0++l.drop (0+1)).length<n)=true:=this;rw [WI (by omega),decide_eq_true_eq] at this
   omega
 exact List.eq_replicate_iff.mpr ⟨hl,hz⟩
theorem JT {l:List Nat} (h:l=l.reverse) {i:Nat} (hi:i<l.length):l[i]?=l[l.length - 1 - i]?:=by
 have:=List.getElem?_reverse (l:=l) hi;rw [<- h] at this
 exact this
theorem Mf {n:Nat} {l:List Nat} (h:cC 2 n l=false) (r:∀ z∈stm l,cC 2 n z=true):l=[]:=by
 have h:l=l.reverse:=by
  have h:(!decide (l=l.reverse))=false:=h;simpa using h
 by_cases c:l=[]
 ·exact c
 ·exfalso
  have hl:0<l.length:=List.length_pos_iff.mpr c;have hj:l.length / 2<l.length:=by omega
  have:=r _ (VT hj);have this:(!decide (l.take (l.length / 2)++l.drop (l.length / 2+1)=(l.take (l.length / 2)++l.drop (l.length / 2+1)).reverse))=true:=this;have ne:l.take (l.length / 2)++l.drop (l.length / 2+1)≠(l.take (l.length / 2)++l.drop (l.length / 2+1)).reverse:=by simpa using this
  apply ne
  refine List.ext_getElem? fun i=>?_
  by_cases hi:i<l.length - 1
  ·rw [List.getElem?_reverse (by rw [WI hj];exact hi),WI hj,VU hj,VU hj]
   by_cases c1:i<l.length / 2
   ·rw [if_pos c1]
    by_cases c2:l.length - 1 - 1 - i<l.length / 2
    ·rw [if_pos c2,show l.length - 1 - 1 - i=i by omega]
    ·rw [if_neg c2,JT h (by omega)]
     congr 1;omega
   ·rw [if_neg c1,if_pos (by omega),JT h (i:=i+1) (by omega)]
    congr 1;omega
  ·rw [List.getElem?_eq_none (by rw [WI hj];omega),List.getElem?_eq_none (by rw [List.length_reverse,WI hj];omega)]
theorem Mg {w n:Nat} {l:List Nat} (h:cC (w+3) n l=false) (r:∀ z∈stm l,cC (w+3) n z=true):l=[]:=by
 by_cases c:l=[]
 ·exact c
 ·exfalso
  have hl:0<l.length:=List.length_pos_iff.mpr c;by_cases c1:l.length<=n+1
  ·have:=r _ (VT (os:=l) (j:=0) hl)
   have this:(match (l.take 0++l.drop (0+1))[n]? with | none=>false | some o=>decide (o<n))=true:=this;rw [List.getElem?_eq_none (by rw [WI hl];omega)] at this
   cases this
  ·have hj:l.length - 1<l.length:=by omega
   have:=r _ (VT hj);have this:(match (l.take (l.length - 1)++l.drop (l.length - 1+1))[n]? with | none=>false | some o=>decide (o<n))=true:=this;rw [VU hj,if_pos (by omega)] at this
   have h:(match l[n]? with | none=>false | some o=>decide (o<n))=false:=h;rw [h] at this
   cases this
theorem JV {way n:Nat} {l:List Nat} (h:cC way n l=false) (r:nx (cC way n) (stm l)=none):u9 way n l:=by
 have r:=JG r
 match way,h,r with
 | 0,h,r=>exact LQ h r
 | 1,h,r=>exact LR h r
 | 2,h,r=>exact Mf h r
 | w+3,h,r=>exact Mg h r
theorem JW {lo:Int} {n:Nat}:∀ os:List Nat,Xh "each" (fun x=>tell (.less .here (.num (lo+(n:Nat)))) x) (os.map fun (o:Nat)=>PyData.int (lo+(o:Nat))) = .ok (.bool (os.all fun o=>decide (o<n)))
 | []=>rfl
 | o::os=>by
  rw [List.map_cons,Xh];have e:tell (.less .here (.num (lo+(n:Nat)))) (.int (lo+(o:Nat))) = .ok (.bool (decide (lo+(o:Nat)<lo+(n:Nat)))):=rfl;rw [e];rw [List.all_cons];by_cases c:o<n
  ·rw [decide_eq_true (show lo+(o:Int)<lo+(n:Int) by omega),decide_eq_true c,Bool.true_and]
   exact JW os
  ·rw [decide_eq_false (show ¬ lo+(o:Int)<lo+(n:Int) by omega),decide_eq_false c,Bool.false_and]
   rfl
theorem Q9 {t:Tm} {d:PyData} {b:Bool} (h:tell t d = .ok (.bool b)):says t d=b:=Il h b (by cases b<;>simp)
theorem JX {lo:Int}:∀ {a b:List Nat},(a.map fun (o:Nat)=>PyData.int (lo+(o:Nat)))=b.map (fun (o:Nat)=>PyData.int (lo+(o:Nat)))->a=b
 | [],[],_=>rfl
 | [],_::_,h=>by cases h
 | _::_,[],h=>by cases h
 | x::a,y::b,h=>by
  have h1:=PyData.int.inj (List.cons.inj h).1;rw [JX (List.cons.inj h).2,show x=y by omega]
theorem Di (way n:Nat) (lo:Int) (os:List Nat):says (dj way n lo) (bf lo os)=cC way n os:=by
 match way with
 | 0=>exact Q9 (JW os)
 | 1 =>
  refine Q9 ?_
  show Except.ok (PyData.bool (decide (((os.map fun (o:Nat)=>PyData.int (lo+(o:Nat))).length:Int)<(n:Int))))=_
  rw [List.length_map];refine congrArg (fun b=>Except.ok (PyData.bool b)) ?_
  show decide ((os.length:Int)<(n:Int))=decide (os.length<n)
  exact decide_eq_decide.mpr (by omega)
 | 2 =>
  refine Q9 ?_
  show Except.ok (PyData.bool (!sm (bf lo os) (.list (os.map fun (o:Nat)=>PyData.int (lo+(o:Nat))).reverse)))=_
  refine congrArg (fun b=>Except.ok (PyData.bool b)) (congrArg not ?_);rw [<- List.map_reverse];refine Hh ?_;rw [decide_eq_true_eq];constructor
  ·intro z
   exact JX (PyData.list.inj z)
  ·intro z
   exact congrArg (fun l=>PyData.list (l.map fun (o:Nat)=>PyData.int (lo+(o:Nat)))) z
 | w+3 =>
  have e1:tell (.part .here (n:Nat)) (bf lo os)=match os[n]? with | none => .error "part" | some o => .ok (.int (lo+(o:Nat))):=by
   show take "part" (.ok (bf lo os)) (fun x=>(Xv x).bind fun xs=>if 0<=((n:Nat):Int) then xs[((n:Nat):Int).toNat]? else none)=_
   have e2:((Xv (bf lo os)).bind fun xs=>if 0<=((n:Nat):Int) then xs[((n:Nat):Int).toNat]? else none)=(os[n]?).map fun (o:Nat)=>PyData.int (lo+(o:Nat)):=by
    show (if 0<=((n:Nat):Int) then (os.map fun (o:Nat)=>PyData.int (lo+(o:Nat)))[((n:Nat):Int).toNat]? else none)=_
    rw [if_pos (by omega),Int.toNat_natCast,List.getElem?_map]
   cases h:os[n]? with
   | none=>rw [h] at e2;exact Wk e2
   | some o=>rw [h] at e2;exact XZ e2
  cases h:os[n]? with
  | none =>
   rw [h] at e1
   have:tell (dj (w+3) n lo) (bf lo os) = .error "part":=by
    show (match take "less" (tell (.part .here (n:Nat)) (bf lo os)) XW with | .error m=>_ | .ok i=>_)=_
    rw [e1];rfl
   rw [Im this]
   show false=(match os[n]? with | none=>false | some o=>decide (o<n))
   rw [h]
  | some o =>
   rw [h] at e1
   have:tell (dj (w+3) n lo) (bf lo os) = .ok (.bool (decide (lo+(o:Int)<lo+(n:Int)))):=by
    show (match take "less" (tell (.part .here (n:Nat)) (bf lo os)) XW with | .error m=>_ | .ok i=>_)=_
    rw [e1];rfl
   rw [Q9 this]
   show _=(match os[n]? with | none=>false | some o=>decide (o<n))
   rw [h];exact decide_eq_decide.mpr (by omega)
structure vd (lo:Int):Prop where
 h:∀ o:Nat,o<=2000->IB 0 (lo+(o:Nat))
theorem JZ {lo:Int} (hl:vd lo):∀ {os:List Nat},(∀ o∈os,o<=1023)->hbs (os.map fun (o:Nat)=>PyData.int (lo+(o:Nat)))
 | [],_=>trivial
 | o::os,h=>⟨hl.h o (by have:=h o (.head _);omega),JZ hl fun x hx=>h x (.tail _ hx)⟩
theorem J0 {H:Hp} {lo:Int}:∀ os:List Nat,bB H (ofs lo os) (os.map fun (o:Nat)=>PyData.int (lo+(o:Nat)))
 | [] => .nil
 | o::os => .cons ⟨[],.int _⟩ (J0 os)
theorem WW {lo:Int}:∀ os:List Nat,PyData.depthAll (os.map fun (o:Nat)=>PyData.int (lo+(o:Nat)))=0
 | []=>by simp [PyData.depthAll]
 | o::os=>by
  have:=WW (lo:=lo) os;simp only [List.map_cons,PyData.depthAll,PyData.depth,this];rfl
theorem J1 (way n:Nat) (lo:Int):(dj way n lo).dep<=3:=by
 match way with
 | 0=>simp [dj,Tm.dep]
 | 1=>simp [dj,Tm.dep]
 | 2=>simp [dj,Tm.dep]
 | w+3=>simp [dj,Tm.dep]
theorem Yg4 {way n:Nat} {lo:Int} (hl:vd lo) (hn:n<=12):(dj way n lo).ok:=by
 have h1:=hl.h n (by omega);have h2:IB 0 (n:Int) := .ofNat (by omega)
 match way with
 | 0=>exact ⟨trivial,trivial,h1⟩
 | 1=>exact ⟨trivial,h2⟩
 | 2=>exact ⟨trivial,trivial⟩
 | w+3=>exact ⟨⟨by omega,trivial⟩,h1⟩
theorem Yg5 (way n:Nat) (lo:Int):t8 (dj way n lo)=true:=by
 match way with
 | 0=>rfl
 | 1=>rfl
 | 2=>rfl
 | w+3=>rfl
def VV (g:Gx) (P:Addr) (H:Hp) (f:Addr) (p:List Nat->Bool) (lo:Int):Prop:=∃ fd ps sp,aW g.P g.w g.K g.mg g.base bL 40 f fd ps sp/\(∀ us:List Value,us.length=ps.length->bindArgs fd ⟨us,[]⟩=pure (ps.zip us))/\H f=some (bG f fd) /\
 ∀ (U:Addr->Prop) (H1:Hp) (v:V) (os:List Nat) (Q:VK),NL H H1->Tb P H1->aL U H1 lo v (.os os)->bw os->(∀ H',Kq P H1 H'->Tb P H'->Q (.bl (p os)) H')->H1 f=some (bG f fd)/\sp [v] H1 Q E0
theorem VV.up {g:Gx} {P:Addr} {H:Hp} {f:Addr} {p:List Nat->Bool} {lo:Int} (h:VV g P H f p lo):eZ g P H f false p lo:=by
 obtain ⟨fd,ps,sp,F,b,hf,k⟩:=h;exact ⟨fd,ps,sp,F.mono (by decide),b,hf,fun U H1 v os Q n1 tb hv ok q=>k U H1 v os Q (Kt.nl n1) tb hv ok q⟩
theorem VV.nl {g:Gx} {P:Addr} {H H':Hp} {f:Addr} {p:List Nat->Bool} {lo:Int} (h:VV g P H f p lo) (n:NL H H'):VV g P H' f p lo:=by
 obtain ⟨fd,ps,sp,F,b,hf,k⟩:=h;exact ⟨fd,ps,sp,F,b,n.2 _ _ hf,fun U H1 v os Q n1=>k U H1 v os Q (n.trans n1)⟩
theorem Yg6 {g:Gx} {P:Addr} {H:Hp} {f:Addr} {way n:Nat} {lo:Int} (h:V9 g P H f (dj way n lo)) (hl:vd lo):VV g P H f (cC way n) lo:=by
 obtain ⟨fd,sp,F,b,hf,k⟩:=h;refine ⟨fd,_,sp,F,b,hf,fun U H1 v os Q n1 tb hv ok q=>?_⟩;obtain ⟨D,rfl,_,hD⟩:=Wn hv;have hk:=ok.1;have hd:=J1 way n lo;refine k H1 (.ref D) (bf lo os) Q n1 tb (.lst hD (by rw [ofs,List.length_map];omega) (J0 os)) ⟨1,⟨by rw [List.length_map];omega,JZ hl ok.2⟩,by omega⟩ (by rw [bf,PyData.depth,WW];decide) fun H' k' b'=>?_
 rw [Di];exact q H' k' b'
def Yg7 (g:Gx) (P:Addr) (fv vs:List V) (H:Hp) (Q:VK):Prop:=∃ (f0 a D:Addr) (lo:Int) (p:List Nat->Bool) (os:List Nat),fv=[.ref f0]/\vs=[.ref a]/\VV g P H f0 p lo/\Tb P H/\H a=some (.tup [.str "",.ref D])/\H D=some (.lst (ofs lo os))/\bw os/\∀ H',Kq P H H'->Tb P H'->Q (.bl (p os)) H'
theorem Z2b {k:Nat} {Z0 Z3 Z1 Z4 Z2:Addr} {f_ c_:Addr} {doc pm ctv:Value} {l:Yr} (hkc:40<=k) (hl:l.map (·.1)=(["_law_holds"]:List Str)) (hnd:l.as.Nodup):aW g.P g.w g.K g.mg g.base bL (k+1) f_ (Zv l.cl c_ doc pm ctv) ["_law_pair"] (fun vs H Q _=>pK H f_ c_ (Zv l.cl c_ doc pm ctv) Zo l/\(Yg7 g aj) l.vs vs (off H l.as) fun v H'=>(∀ c∈l.as,H' c=none)->Q v (on H' H l.as)):=by
 refine YeN (N:=["_law_pair","_law_holds"]) (by rw [hl];exact Z23) hnd (fun vs H Q h=>by obtain ⟨f0,a,D,lo,p,os,jd,rfl,hj,tb,ha,hD,ok,q⟩:=h;rfl) fun A outer s H vs Q hr h=>?_
 obtain ⟨f0,a,D,lo,p,os,jd,rfl,hj,tb,ha,hD,ok,q⟩:=h;refine ⟨_,(@Ye _ _ _ (@Yj _ _ _ _ (@Xf _ _ _ _ _ _ _ (@Vt _ (g) _ (40) _ _ _ _ _ _ 1 hr (@Ya _ _ _ _ _ (@Yy _ _ _ _ _ _ _ YM (pv 0) Yi (fun _ _=>rfl)) Yc (by rfl)) (by omega) (by rfl) (by rfl) (by first | exact .inl rfl | exact .inr (.inl rfl) | exact .inr (.inr rfl)) (by decide) (by decide) (by rfl) (by rfl)) (@Xa _ _ _ _ _ (@YV _ _ _ _ _ _ _ _ Yz (@Yy _ _ _ _ _ _ _ YM (pv 0) Yi (fun _ _=>rfl)) Yp (Yk _)))))),?_⟩;rw [jd]
 show (_:TS) _ [some (.ref a),some (.ref f0)] H
 obtain ⟨fd,ps,sp,F,b,hf,k⟩:=hj;walk_at "rd";refine ⟨f0,fd,ps,sp,rfl,F,b,hf,?_⟩;walk_at "rd";refine ⟨_,aK.of ha,_,Ys (j:=1) rfl,?_⟩;refine k (fun _=>True) H (.ref D) os _ (.refl _) tb (Vy trivial hD) ok fun H' k' b'=>⟨_,rfl,?_⟩
 have:=q H' k' b'
 cases h:p os with
 | true =>
  rw [h] at this
  refine YT rfl ⟨_,aK.of (k'.tup ha),_,Ys (j:=0) rfl,rfl,?_⟩;rw [decide_eq_true rfl];exact this
 | false =>
  rw [h] at this
  exact Yu (by decide) this
theorem Mh {l:Yr} {H:Hp} (hz:l.Z H):NL H (off H l.as):=⟨fun b xs e=>XX hz e (by intro _ _ z;cases z),fun b φ e=>XX hz e (by intro _ _ z;cases z)⟩
abbrev jh (x f0:Addr):Yr:=[("_law_holds",x,.ref f0)]
theorem Ygs {g:Gx} {P:Addr} {Hz:Hp} {f c x f0:Addr} {p:List Nat->Bool} {lo:Int} {doc pm ctv:Value} (hf:Hz f=some (bG f (Zv (jh x f0).cl c doc pm ctv))) (hc:Hz c=some (cH c Zo)) (hz:(jh x f0).Z Hz) (hj:VV g P Hz f0 p lo):eZ g P Hz f true p lo:=by
 have F:=Z2b (g:=g) (k:=44) (Z0:=0) (Z3:=0) (Z1:=0) (Z4:=0) (Z2:=0) (aj:=P) (f_:=f) (c_:=c) (doc:=doc) (pm:=pm) (ctv:=ctv) (l:=jh x f0) (by decide) rfl (by simp [Yr.as]);refine ⟨_,_,_,F,fun us hl=>?_,hf,fun U H1 v os Q n1 tb hv ok q=>?_⟩
 ·match us,hl with
  | [_],_=>rfl
 ·have z1:=qb hz n1
  have hf1:=n1 _ _ (fun ps z=>by cases z) hf;obtain ⟨a,D,rfl,ha,_,hD⟩:=Ua (show aL U H1 lo v (.ro os) from hv);have J2:=Kt.nl n1;refine ⟨hf1,⟨hf1,J2.2 _ _ hc,z1⟩,f0,a,D,lo,p,os,rfl,rfl,(hj.nl J2).nl (Mh z1),Vl z1 tb,p8 z1 _ _ ha,XX z1 hD (by intro _ _ z;cases z),ok,fun H' k' b' hcc=>q _ (Ip k') (Ir b' hcc)⟩
theorem Xj {K:W.Frag} {H:Hp} {lo:Int} {D:Addr} {os:List Nat} (h:H D=some (.lst (ofs lo os))):Den K H (.ref D) (bf lo os):=by
 have:=bY.ints (K:=K) (H:=H) (os.map fun (o:Nat)=>lo+(o:Nat));rw [List.map_map,List.map_map] at this
 exact .lst (aJ.of h) this
theorem Xx (lo:Int) (os:List Nat):(bf lo os).depth<=64:=by rw [bf,PyData.depth,WW];decide
theorem J3 {lo:Int}:∀ (a b:List Nat),PyData.eqvAll (a.map fun (o:Nat)=>PyData.int (lo+(o:Nat))) (b.map fun (o:Nat)=>PyData.int (lo+(o:Nat)))=decide (a=b)
 | [],[]=>by simp [PyData.eqvAll]
 | [],_::_=>by simp [PyData.eqvAll]
 | _::_,[]=>by simp [PyData.eqvAll]
 | x::a,y::b=>by
  simp only [List.map_cons,PyData.eqvAll,PyData.eqv,J3 a b];by_cases h:x=y
  ·subst h;simp
  ·have h2:¬ lo+(x:Int)=lo+(y:Int):=by omega
   simp [h,h2]
theorem Ww (lo:Int) (a b:List Nat):(bf lo a).eqv (bf lo b)=decide (a=b):=by
 rw [bf,bf,PyData.eqv,J3]
theorem J4 {lo:Int} {n:Nat} {p:V->Bool} (h:∀ o:Nat,p (.int (lo+(o:Nat)))=decide (n<=o)):∀ os:List Nat,((ofs lo os).filter p).map (fun v=>v)=ofs lo (os.filter fun o=>decide (n<=o))
 | []=>rfl
 | o::os=>by
  have ih:=J4 h os;rw [show ofs lo (o::os) = .int (lo+(o:Nat))::ofs lo os from rfl,List.filter_cons,List.filter_cons,h]
  cases decide (n<=o) with
  | true=>rw [if_pos rfl,if_pos rfl,List.map_cons,ih];rfl
  | false=>rw [if_neg (by decide),if_neg (by decide),ih]
theorem J5 (n:Nat):∀ os:List Nat,decide (os.filter (fun o=>decide (n<=o))=[])=os.all fun o=>decide (o<n)
 | []=>rfl
 | o::os=>by
  have ih:=J5 n os;rw [List.filter_cons,List.all_cons,<- ih];by_cases h:n<=o
  ·rw [decide_eq_true h,if_pos rfl,decide_eq_false (by omega:¬ o<n)]
   simp
  ·rw [decide_eq_false h,if_neg (by decide),decide_eq_true (by omega:o<n),Bool.true_and]
inductive qe (K:W.Frag) (vs:List V) (H:Hp) (Q:VK) (E_:XK):Prop
 | mk (way n:Nat) (lo:Int) (D:Addr) (os:List Nat) (h0:vs=[.int (way:Nat),.int lo,.int (n:Nat),.ref D]) (h1:H D=some (.lst (ofs lo os))) (h2:os.length<=100) (h3:∀ H',Yf H H'->Q (.bl (!cC way n os)) H')
theorem QZ {Z0 Z3 Z1 Z4 Z2:Addr} {ao aj:Addr} {au aq:Addr} {aB aA:Addr} {aF aD:Addr} (R:g.Raw "_law_breach" "_law_breach" zq ["_law_way","_law_low","_law_n","_law_things"]) (aN:g.mg "len"=none):g.Fn (1) "_law_breach" ["_law_way","_law_low","_law_n","_law_things"] (qe g.K):=by
 refine R.fn QV (fun vs H Q E h=>by obtain ⟨way,n,lo,D,os,rfl,hD,hl,q⟩:=h;rfl) fun f_ cdv A outer s H vs Q E hr h=>?_
 obtain ⟨way,n,lo,D,os,rfl,hD,hl,q⟩:=h;refine ⟨_,(@Yd _ _ _ _ _ (@Yq _ _ _ _ _ _ _ _ (@Yo _ _ _ _ _ _ _ _ Yz (pv 0) Yi (Yk _)) (@Ye _ _ _ (@Yj _ _ _ _ (@YV _ _ _ _ _ _ _ _ (UM hr.units) (@XF _ _ _ _ _ _ _ ([none,some 1,some 2]) ((["_law_thing","_law_low","_law_n"]:List Str)) _ (YJ 0) _ _ (.own (.cap (i:=1) rfl rfl (by first | exact .inl rfl | exact .inr rfl) (.cap (i:=2) rfl rfl (by first | exact .inl rfl | exact .inr rfl) .nil))) rfl (@Y1 _ _ _ _ (pv 3)) (fun cl C s₀ H₀ fp pn=>(@YK _ _ (0) _ (show List.Nodup (["_law_thing","_law_low","_law_n"]:List Str) by decide +kernel) rfl (.inl rfl) (.inr rfl))) (fun cl C s₀ H₀ fp pn=>(@Qa _ _ _ (@Yo _ _ _ _ _ _ _ _ wg (pv 0) (@Yx _ _ _ _ _ _ _ _ Xm (pv 1) (pv 2)) (Yk _)))) (fun cl C s₀ H₀ fp pn=>(pv 0)) (by intro x hx;simp at hx;first | (subst hx;exact .inl rfl) | (rcases hx with rfl | rfl<;>exact .inl rfl) | (rcases hx with rfl | rfl | rfl<;>exact .inl rfl) | (rcases hx with rfl | rfl | rfl | rfl<;>exact .inl rfl) | (rcases hx with rfl | rfl | rfl | rfl | rfl<;>exact .inl rfl)) (by rfl) (by decide) (by decide +kernel) (by intro _;rfl)) (@YY _ _ _ _ Yc) (Yk _)))) Yl) (@Yd _ _ _ _ _ (@Yq _ _ _ _ _ _ _ _ (@Yo _ _ _ _ _ _ _ _ Yz (pv 0) Yi (Yk _)) (@Ye _ _ _ (@Yj _ _ _ _ (@YV _ _ _ _ _ _ _ _ wg (@YQ _ _ _ _ _ _ _ _ _ _ aN YW (@Ya _ _ _ _ _ (pv 3) Yc (by rfl)) (by decide +kernel) (by rfl) (by rfl) (by decide) (by decide) (by rfl) (by rfl)) (pv 2) (Yk _)))) Yl) (@Yd _ _ _ _ _ (@Yq _ _ _ _ _ _ _ _ (@Yo _ _ _ _ _ _ _ _ Yz (pv 0) Yi (Yk _)) (@Ye _ _ _ (@Yj _ _ _ _ (@YV _ _ _ _ _ _ _ _ (X8 hr.units) (pv 3) (@UO _ _ _ _ _ _ _ (pv 3) (@WB _ _ _ _ _ _ X6 Yi)) (Yk _)))) Yl) (@Ye _ _ _ (@Yj _ _ _ _ (@Dw _ _ _ _ _ _ _ (@YV _ _ _ _ _ _ _ _ VX (@YQ _ _ _ _ _ _ _ _ _ _ aN YW (@Ya _ _ _ _ _ (pv 3) Yc (by rfl)) (by decide +kernel) (by rfl) (by rfl) (by decide) (by decide) (by rfl) (by rfl)) (pv 2) (Yk _)) (@Xa _ _ _ _ _ (@YV _ _ _ _ _ _ _ _ wg (@Yy _ _ _ _ _ _ _ Y8 (pv 3) (pv 2) (fun _ _=>rfl)) (@Yx _ _ _ _ _ _ _ _ Xm (pv 1) (pv 2)) (Yk _))))))))),?_⟩;have ol:(ofs lo os).length=os.length:=List.length_map _
 match way,q with
 | 0,q =>
  refine Yn fun R rr=>?_
  walk_at "rd";refine YT rfl ?_;refine Uq (K:=g.K) (xs:=ofs lo os) (fun v=>match v with | .int i=>decide (lo+(n:Nat)<=i) | _=>false) (fun v=>v) (fun R r=>by walk_at "rd";exact r D _ (.refl _) (aJ.of hD)) (by omega) ?_ ?_ ?_
  ·intro x H' hx sm R r
   obtain ⟨o,_,rfl⟩:=List.mem_map.mp hx;walk_at "rd";exact r H' (.refl _)
  ·intro x H' hx _ sm R r
   walk_at "rd";exact r H' (.refl _)
  ·intro D' H' gD sm hd
   rw [J4 (n:=n) (fun o=>decide_eq_decide.mpr (by omega))] at hd
   refine ⟨few (by decide),fun p gp=>?_⟩;have sp:=Yf.aG gp (.lst []);refine ⟨_,Xj (sp _ _ hd),bf lo [],.lst (aJ.of Yb) .nil,Xx _ _,?_⟩;rw [Ww,J5];exact q _ (sm.trans sp)
 | 1,q =>
  refine Yn fun R rr=>?_
  walk_at "rd";refine Yu (by omega) (rr _ _ (Yn fun R rr=>?_));walk_at "rd";refine YT rfl ⟨_,.inl (aJ.of hD),?_⟩;rw [ol,show decide (((n:Nat):Int)<=((os.length:Nat):Int)) = !decide (os.length<n) by
   by_cases c:os.length<n
   ·rw [decide_eq_true c,decide_eq_false (by omega)];rfl
   ·rw [decide_eq_false c,decide_eq_true (by omega)];rfl]
  exact q H (.refl _)
 | 2,q =>
  refine Yn fun R rr=>?_
  walk_at "rd";refine Yu (by omega) (rr _ _ (Yn fun R rr=>?_));walk_at "rd";refine Yu (by omega) (rr _ _ (Yn fun R rr=>?_));walk_at "rd";refine YT rfl ⟨_,aJ.of hD,fun p gp=>?_⟩;have sp:=Yf.aG gp (.lst (ofs lo os).reverse);have e:(ofs lo os).reverse=ofs lo os.reverse:=by rw [ofs,ofs,List.map_reverse]
  rw [e] at sp ⊢
  refine ⟨_,Xj (sp _ _ hD),_,Xj Yb,Xx _ _,?_⟩;rw [Ww];have:=q _ sp;have h2:(!cC 2 n os)=decide (os=os.reverse):=Bool.not_not _;rw [h2] at this
  exact this
 | w+3,q =>
  refine Yn fun R rr=>?_
  walk_at "rd";refine Yu (by omega) (rr _ _ (Yn fun R rr=>?_));walk_at "rd";refine Yu (by omega) (rr _ _ (Yn fun R rr=>?_));walk_at "rd";refine Yu (by omega) (rr _ _ ?_);walk_at "rd";have q':=q H (.refl _);have h2:(!cC (w+3) n os) = !(match os[n]? with | none=>false | some o=>decide (o<n)):=rfl;rw [h2] at q'
  refine ⟨_,.inl (aJ.of hD),?_⟩;by_cases c:os.length<=n
  ·refine YT (by omega) ?_
   rw [List.getElem?_eq_none c] at q'
   exact q'
  ·have ho:os[n]?=some os[n]:=List.getElem?_eq_getElem (by omega)
   rw [ho] at q'
   refine Yu (by omega) ⟨_,aJ.of hD,_,Ys (by rw [ofs,List.getElem?_map,ho];rfl),_,rfl,?_⟩;rw [show decide (lo+((n:Nat):Int)<=lo+((os[n]:Nat):Int)) = !decide (os[n]<n) by
    by_cases c:os[n]<n
    ·rw [decide_eq_true c,decide_eq_false (by omega)];rfl
    ·rw [decide_eq_false c,decide_eq_true (by omega)];rfl]
   exact q'
inductive qg (K:W.Frag) (vs:List V) (H:Hp) (Q:VK) (E_:XK):Prop
 | mk (way n:Nat) (lo:Int) (D:Addr) (os:List Nat) (h0:vs=[.int (way:Nat),.int lo,.int (n:Nat),.ref D]) (h1:H D=some (.lst (ofs lo os))) (h2:os.length<=100) (h3:n<=12) (h4:u9 way n os) (h5:∀ H',Yf H H'->Q (.bl true) H')
theorem Yc4 {Z0 Z3 Z1 Z4 Z2:Addr} {ao aj:Addr} {au aq:Addr} {aB aA:Addr} {aF aD:Addr} (R:g.Raw "_law_end" "_law_end" zu ["_law_way","_law_low","_law_n","_law_things"]) (cg:g.mg "bool"=none) (dR:g.mg "int"=none) (Z5:g.mg "isinstance"=none) (aN:g.mg "len"=none) (aP:g.mg "list"=none):g.Fn (1) "_law_end" ["_law_way","_law_low","_law_n","_law_things"] (qg g.K):=by
 refine R.fn YcT (fun vs H Q E h=>by obtain ⟨way,n,lo,D,os,rfl,hD,hl,hn,he,q⟩:=h;rfl) fun f_ cdv A outer s H vs Q E hr h=>?_
 obtain ⟨way,n,lo,D,os,rfl,hD,hl,hn,he,q⟩:=h;refine ⟨_,(@Yd _ _ _ _ _ (@Yq _ _ _ _ _ _ _ _ (@Wz _ _ _ _ _ _ _ (@XG _ _ _ _ (@Y0 _ _ _ (@YQ _ _ _ _ _ _ _ _ _ _ Z5 YO (@Ya _ _ _ _ _ (pv 3) (@Ya _ _ _ _ _ (@Y4 _ _ _ _ ("list") aP (by decide +kernel) (by rfl) (by rfl) (by decide) (by decide)) Yc (by rfl)) (by rfl)) (by decide +kernel) (by rfl) (by rfl) (by decide) (by decide) (by rfl) (by rfl)) (by intro _;rfl))) (@WK _ _ _ _ (@Yo _ _ _ _ _ _ _ _ (UM hr.units) (@XF _ _ _ _ _ _ _ ([none]) ((["_law_x"]:List Str)) _ (YJ 0) _ _ (.own .nil) rfl (@Y1 _ _ _ _ (pv 3)) (fun cl C s₀ H₀ fp pn=>(@YK _ _ (0) _ (show List.Nodup (["_law_x"]:List Str) by decide +kernel) rfl (.inl rfl) (.inr rfl))) (fun cl C s₀ H₀ fp pn=>(@Qa _ _ _ (@Wz _ _ _ _ _ _ _ (@XG _ _ _ _ (@Y0 _ _ _ (@YQ _ _ _ _ _ _ _ _ _ _ Z5 (VJ (K:=g.K)) (@Ya _ _ _ _ _ (pv 0) (@Ya _ _ _ _ _ (@Y4 _ _ _ _ ("int") dR (by decide +kernel) (by rfl) (by rfl) (by decide) (by decide)) Yc (by rfl)) (by rfl)) (by decide +kernel) (by rfl) (by rfl) (by decide) (by decide) (by rfl) (by rfl)) (by intro _;rfl))) (@WK _ _ _ _ (@Y0 _ _ _ (@YQ _ _ _ _ _ _ _ _ _ _ Z5 (VJ (K:=g.K)) (@Ya _ _ _ _ _ (pv 0) (@Ya _ _ _ _ _ (@Y4 _ _ _ _ ("bool") cg (by decide +kernel) (by rfl) (by rfl) (by decide) (by decide)) Yc (by rfl)) (by rfl)) (by decide +kernel) (by rfl) (by rfl) (by decide) (by decide) (by rfl) (by rfl)) (by intro _;rfl)))).pt)) (fun cl C s₀ H₀ fp pn=>(pv 0)) (by intro x hx;simp at hx) (by rfl) (by decide) (by decide +kernel) (by intro _;rfl)) (@YY _ _ _ _ Yc) (Yk _)))).pt (@Ye _ _ _ (@Yj _ _ _ _ Xq)) Yl) (@Yd _ _ _ _ _ (@Yq _ _ _ _ _ _ _ _ (@Yo _ _ _ _ _ _ _ _ Yz (pv 0) Yi (Yk _)) (@Yd _ _ _ _ _ (@Yq _ _ _ _ _ _ _ _ (@Wz _ _ _ _ _ _ _ (@Yo _ _ _ _ _ _ _ _ Eh (@YQ _ _ _ _ _ _ _ _ _ _ aN YW (@Ya _ _ _ _ _ (pv 3) Yc (by rfl)) (by decide +kernel) (by rfl) (by rfl) (by decide) (by decide) (by rfl) (by rfl)) Yi (Yk _)) (@WK _ _ _ _ (@Yo _ _ _ _ _ _ _ _ UC (@Yy _ _ _ _ _ _ _ Y8 (pv 3) Yi (fun _ _=>rfl)) (@Yx _ _ _ _ _ _ _ _ Xm (pv 1) (pv 2)) (Yk _)))).pt (@Ye _ _ _ (@Yj _ _ _ _ Xq)) Yl) (@Ye _ _ _ (@Yj _ _ _ _ (@Dw _ _ _ _ _ _ _ (@YV _ _ _ _ _ _ _ _ Yz (@Yy _ _ _ _ _ _ _ Y8 (pv 3) Yi (fun _ _=>rfl)) (pv 1) (Yk _)) (@Xa _ _ _ _ _ (@YV _ _ _ _ _ _ _ _ UC (@Yx _ _ _ _ _ _ _ _ Vq (@Yx _ _ _ _ _ _ _ _ VF (@Yy _ _ _ _ _ _ _ Y8 (pv 3) Yi (fun _ _=>rfl)) (pv 1)) Yi) (pv 2) (Yk _))))))) Yl) (@Yd _ _ _ _ _ (@Yq _ _ _ _ _ _ _ _ (@Yo _ _ _ _ _ _ _ _ Yz (pv 0) Yi (Yk _)) (@Ye _ _ _ (@Yj _ _ _ _ (@YV _ _ _ _ _ _ _ _ (X8 hr.units) (pv 3) (@Yx _ _ _ _ _ _ _ _ Oo (@YY _ _ _ _ (@Ya _ _ _ _ _ (pv 1) Yc (by rfl))) (pv 2)) (Yk _)))) Yl) (@Ye _ _ _ (@Yj _ _ _ _ (@YV _ _ _ _ _ _ _ _ (X8 hr.units) (pv 3) (@YY _ _ _ _ Yc) (Yk _))))))),?_⟩;have ol:(ofs lo os).length=os.length:=List.length_map _;refine Yn fun R rr=>?_
 walk_at "rd";refine ⟨_,rfl,_,.lst hD,true,rfl,Yu (by decide) ?_⟩;refine Uq (K:=g.K) (xs:=ofs lo os) (fun _=>false) (fun v=>v) (fun R r=>by walk_at "rd";exact r D _ (.refl _) (aJ.of hD)) (by omega) ?_ ?_ ?_
 ·intro x H' hx sm R r
  obtain ⟨o,_,rfl⟩:=List.mem_map.mp hx;walk_at "rd";exact ⟨_,rfl,_,.int _,true,rfl,Yu (by decide) ⟨_,rfl,_,.int _,false,rfl,r H' (.refl _)⟩⟩
 ·intro x H' hx h
  cases h
 ·intro D' H' gD sm hd
  have e0:((ofs lo os).filter fun _=>false).map (fun v=>v)=ofs lo []:=by simp [ofs]
  rw [e0] at hd
  refine ⟨few (by decide),fun p gp=>?_⟩;have sp:=Yf.aG gp (.lst []);refine ⟨_,Xj (sp _ _ hd),bf lo [],.lst (aJ.of Yb) .nil,Xx _ _,?_⟩;rw [Ww,decide_eq_true rfl];refine Yu (by decide) (rr _ _ ?_);have s2:=sm.trans sp;have hD2:=s2 _ _ hD;generalize upd H' p (.lst [])=H2 at s2 hD2
  match way,he with
  | 0,he =>
   obtain ⟨o,rfl,h1,h2⟩:=he;refine Yn fun R rr=>?_
   walk_at "rd";refine YT rfl ⟨_,.inl (aJ.of hD2),Yu (fun h=>h rfl) ⟨_,aJ.of hD2,_,Ys (j:=0) rfl,_,rfl,Yu (by omega) ⟨_,aJ.of hD2,_,Ys (j:=0) rfl,rfl,?_⟩⟩⟩;by_cases c:o=0
   ·exact YT (by rw [c];exact congrArg V.int (by omega)) (q H2 s2)
   ·refine Yu (fun z=>c (by have:=V.int.inj z;omega)) ⟨_,aJ.of hD2,_,Ys (j:=0) rfl,_,rfl,W1 (by decide) (by decide),?_⟩
    rw [decide_eq_true (by omega)];exact q H2 s2
  | 1,he =>
   have he:os=List.replicate n 0:=he;refine Yn fun R rr=>?_
   walk_at "rd";refine Yu (by omega) (rr _ _ (Yn fun R rr=>?_));walk_at "rd";refine YT rfl ⟨few (by decide),fun p gp=>?_⟩;have sp:=Yf.aG gp (.lst [.int lo]);refine ⟨p,n,[.int lo],rfl,rfl,Yb,by omega,by omega,few (by simp only [List.length_singleton];omega),fun p1 g1=>?_⟩;have e1:(List.replicate (n:Int).toNat [V.int lo]).flatten=ofs lo (List.replicate n 0):=by
    rw [Int.toNat_natCast];simp [ofs]
   rw [e1];have J6:=sp.trans (.aG g1 (.lst (ofs lo (List.replicate n 0))));refine ⟨_,Xj (J6 _ _ hD2),_,Xj Yb,Xx _ _,?_⟩;rw [Ww,decide_eq_true he];exact q _ (s2.trans J6)
  | 2,he =>
   have he:os=[]:=he;refine Yn fun R rr=>?_
   walk_at "rd";refine Yu (by omega) (rr _ _ (Yn fun R rr=>?_));walk_at "rd";refine Yu (by omega) (rr _ _ ?_);walk_at "rd";refine ⟨few (by decide),fun p gp=>?_⟩;have sp:=Yf.aG gp (.lst []);refine ⟨_,Xj (sp _ _ hD2),bf lo [],.lst (aJ.of Yb) .nil,Xx _ _,?_⟩;rw [Ww,decide_eq_true he];exact q _ (s2.trans sp)
  | w+3,he =>
   have he:os=[]:=he;refine Yn fun R rr=>?_
   walk_at "rd";refine Yu (by omega) (rr _ _ (Yn fun R rr=>?_));walk_at "rd";refine Yu (by omega) (rr _ _ ?_);walk_at "rd";refine ⟨few (by decide),fun p gp=>?_⟩;have sp:=Yf.aG gp (.lst []);refine ⟨_,Xj (sp _ _ hD2),bf lo [],.lst (aJ.of Yb) .nil,Xx _ _,?_⟩;rw [Ww,decide_eq_true he];exact q _ (s2.trans sp)
inductive m9 (K:W.Frag) (vs:List V) (H:Hp) (Q:VK) (E_:XK):Prop
 | mk (a:Addr) (ns:List Int) (k:Nat) (h0:vs=[.ref a,.int k]) (h1:aJ K H a (ns.map V.int)) (h2:ns.length<=63) (h3:Q (.int (ns.getD k 0)) H)
theorem Z2S {Z0 Z3 Z1 Z4 Z2:Addr} {ao aj:Addr} {au aq:Addr} {aB aA:Addr} {aF aD:Addr} (R:g.Raw "_law_cell_at" "_law_cell_at" zj ["_law_script","_law_k"]) (aN:g.mg "len"=none):g.Fn (1) "_law_cell_at" ["_law_script","_law_k"] (m9 g.K):=by
 refine R.fn Z2N (fun vs H Q E h=>by obtain ⟨a,ns,k,rfl,hS,hl,q⟩:=h;rfl) fun f_ cdv A outer s H vs Q E hr h=>?_
 obtain ⟨a,ns,k,rfl,hS,hl,q⟩:=h;refine ⟨_,(@Yd _ _ _ _ _ (@Yq _ _ _ _ _ _ _ _ (@Yo _ _ _ _ _ _ _ _ UC (pv 1) (@YQ _ _ _ _ _ _ _ _ _ _ aN YW (@Ya _ _ _ _ _ (pv 0) Yc (by rfl)) (by decide +kernel) (by rfl) (by rfl) (by decide) (by decide) (by rfl) (by rfl)) (Yk _)) (@Ye _ _ _ (@Yj _ _ _ _ (@Yy _ _ _ _ _ _ _ Y8 (pv 0) (pv 1) (fun _ _=>rfl)))) Yl) (@Ye _ _ _ (@Yj _ _ _ _ Yi))),?_⟩;walk_at "rd";refine ⟨_,.inl hS,tu (fun c=>?_) fun c=>?_⟩
 ·rw [List.length_map] at c
  have hk:k<ns.length:=by omega
  have e:ns.getD k 0=ns[k]:=by simp [List.getD_eq_getElem?_getD,List.getElem?_eq_getElem hk]
  rw [e] at q
  exact ⟨_,hS,_,Ys (by rw [List.getElem?_map,List.getElem?_eq_getElem hk];rfl),q⟩
 ·rw [List.length_map] at c
  have hk:ns.length<=k:=by omega
  have e:ns.getD k 0=0:=by simp [List.getD_eq_getElem?_getD,List.getElem?_eq_none hk]
  rw [e] at q
  exact q
theorem Yg8 {z:Int}:vd (z%10^Int.toNat 60 - 5*10^Int.toNat 59):=⟨fun o ho=>by
 have c0:0<=z%10^Int.toNat 60:=Int.emod_nonneg _ (by decide);have c1:z%10^Int.toNat 60<10^Int.toNat 60:=Int.emod_lt_of_pos _ (by decide);generalize z%10^Int.toNat 60=y at c0 c1 ⊢;refine ⟨?_⟩;have e1:(10:Int)^Int.toNat 60=1000000000000000000000000000000000000000000000000000000000000:=by decide +kernel
 have e2:(10:Int)^Int.toNat 59=100000000000000000000000000000000000000000000000000000000000:=by decide +kernel
 have e3:(2:Nat)^(200*2^0)=1606938044258990275541962092341162602522202993782792835301376:=by decide +kernel
 rw [e1] at c1
 rw [e2,e3];omega⟩
inductive TsV (H3:Hp) (lo:Int) (D a:Addr) (way n:Nat) (fst:Int) (i:Nat) (σ:St) (H':Hp):Prop
 | mk (os:List Nat) (o6 o7:Option V) (e:σ=[some (.ref a),some (.int lo),some (.int (way:Nat)),some (.int (n:Nat)),some (.ref D),some (.int fst),o6,o7,none,none,none,none,none,none,none]) (sb:SameBut D H3 H') (hD:H' D=some (.lst (ofs lo os))) (ok:∀ x∈os,x<=1023) (sz:bT os<=15)
theorem Qu (os:List Nat):os.length<=bT os:=Nat.le_add_right _ _
theorem W4 (xs:List V) (x:V):fY (xs++[x]) (-1)=some x:=by
 have:gQ (xs++[x]).length (-1)=some xs.length:=by
  rw [List.length_append,List.length_singleton];unfold gQ;rw [if_neg (by omega)]
  split
  ·congr 1;omega
  ·omega
 rw [fY,this,Option.bind_some,List.getElem?_append_right (Nat.le_refl _),Nat.sub_self];rfl
theorem J7 {K:W.Frag} {U:Addr->Prop} {H:Hp} {lo:Int}:∀ {w:List (List Nat)} {ys:List V},F2 (aL U H lo) ys (w.map (vc false))->bY K H ys (w.map (bf lo))
 | [],_,.nil => .nil
 | l::w,_,.cons h t=>by
  obtain ⟨D,rfl,_,hD⟩:=Wn (show aL U H lo _ (.os l) from h);exact .cons (Xj hD) (J7 t)
theorem Ygt (lo:Int) (w:List (List Nat)):(PyData.list (w.map (bf lo))).depth<=64:=by
 have:PyData.depthAll (w.map (bf lo))<=1:=by
  induction w with
  | nil=>simp [PyData.depthAll]
  | cons l w ih =>
   have h:(bf lo l).depth<=1:=by rw [bf,PyData.depth,WW];decide
   simp only [List.map_cons,PyData.depthAll];omega
 rw [PyData.depth];omega
theorem Dj {lo:Int} {w:List (List Nat)} (h:w≠[]):(PyData.list (w.map (bf lo))).eqv (bf lo [])=false:=by
 cases w with
 | nil=>exact absurd rfl h
 | cons l w=>simp [bf,PyData.eqv,PyData.eqvAll]
theorem Qv {R:V->Cq->Prop} {kd:Bool} {l:List Nat}:∀ {w':List (List Nat)} {ys:List V},F2 R ys ((w'++[l]).map (vc kd))->∃ ys' y,ys=ys'++[y]/\R y (vc kd l)
 | [],_,.cons h .nil=>⟨[],_,rfl,h⟩
 | _::_,_,.cons _ t=>by
  obtain ⟨ys',y,e,r⟩:=Qv t;exact ⟨_::ys',y,by rw [e];rfl,r⟩
theorem J8 {R:V->Cq->Prop} {kd:Bool} {x:List Nat} {r:List (List Nat)}:∀ {ys:List V},F2 R ys ((x::r).map (vc kd))->∃ y ys',ys=y::ys'/\R y (vc kd x)
 | _,.cons h _=>⟨_,_,rfl,h⟩
inductive RsV (H3:Hp) (P PS:Addr) (σ0:St) (i:Nat) (σ:St) (H':Hp):Prop
 | mk (Ah Ai:Option V) (e:σ=σ0++[Ah,Ai]) (k:Kt H3 H') (tb:Tb P H') (ts:XQ H' PS)
theorem Ye3 {k:Nat} {Z0 Z3 Z1 Z4 Z2:Addr} {ao aj:Addr} {au aq:Addr} {aB aA:Addr} {aF aD:Addr} (bm:Bm g.mg g.base) (Aj:W.CodeHd g.base aF aD) (u6:g.bD k "shrunk" ["book","shape","judge","value"] (lA g aj aA Z1)) (qj:g.Fn k "at_rest" ["book","shape","judge","value"] (mW g aj)) (oE:g.Fn k "judge_of" ["term"] (Iu g aj aq Z3)) (ZL:g.Fn k "_law_cell_at" ["_law_script","_law_k"] (m9 g.K)) (J9:g.Fn k "_law_size" ["_law_low","_law_things"] (mY g.K)) (oF:g.Fn k "_law_term" ["_law_way","_law_low","_law_n"] (mZ)) (lB:g.Fn k "_law_breach" ["_law_way","_law_low","_law_n","_law_things"] (qe g.K)) (ji:g.Fn k "_law_end" ["_law_way","_law_low","_law_n","_law_things"] (qg g.K)) (Ka:g.Fn k "_law_refused" ["_law_book","_law_shape","_law_holds","_law_value"] (mX g aj aA)) (hkc:45<=k) (Z5:g.mg "isinstance"=none) (aP:g.mg "list"=none) (jf:g.mg "range"=none) (hnd:([aj,aq,aA,aD]:List Addr).Nodup):yg g k ["_law_script","_law_low","_law_way","_law_n","_law_things","_law_first","_law_cell","_law_thing","_law_shape","_law_book","_law_holds","_law_within","_law_kept","_law_asked","_law_found"] "law" UX aF (V3 g.K [("part_told",ao,aj),("judge_of",au,aq),("shrunk",aB,aA),("law",aF,aD)]):=by
 refine fun f_ A outer s H vs Q E hr h=>?_
 obtain ⟨a,ns,rfl,hS,hl,ht,q⟩:=h;refine ⟨_,(@Yd _ _ _ _ _ (@YD _ _ (1) _ _ _ _ Xc.nd rfl (.inl rfl) (@Yx _ _ _ _ _ _ _ _ VF (@Yx _ _ _ _ _ _ _ _ Wp (@Yv _ _ _ _ _ _ _ _ _ _ _ _ ZL hr (@Ya _ _ _ _ _ (pv 0) (@Ya _ _ _ _ _ Yi Yc (by rfl)) (by rfl)) (by omega) (by rfl) (by rfl) (by decide) (by rfl) (by rfl)) (@Yx _ _ _ _ _ _ _ _ DX Yi Yi)) (@Yx _ _ _ _ _ _ _ _ V1 Yi (@Yx _ _ _ _ _ _ _ _ DX Yi Yi))) (by rfl) (by first | exact .inl rfl | exact .inr rfl | assumption)) (@Yd _ _ _ _ _ (@YD _ _ (2) _ _ _ _ Xc.nd rfl (.inl rfl) (@Yx _ _ _ _ _ _ _ _ Wp (@Yv _ _ _ _ _ _ _ _ _ _ _ _ ZL hr (@Ya _ _ _ _ _ (pv 0) (@Ya _ _ _ _ _ Yi Yc (by rfl)) (by rfl)) (by omega) (by rfl) (by rfl) (by decide) (by rfl) (by rfl)) Yi) (by rfl) (by first | exact .inl rfl | exact .inr rfl | assumption)) (@Yd _ _ _ _ _ (@YD _ _ (3) _ _ _ _ Xc.nd rfl (.inl rfl) (@Yx _ _ _ _ _ _ _ _ Wp (@Yv _ _ _ _ _ _ _ _ _ _ _ _ ZL hr (@Ya _ _ _ _ _ (pv 0) (@Ya _ _ _ _ _ Yi Yc (by rfl)) (by rfl)) (by omega) (by rfl) (by rfl) (by decide) (by rfl) (by rfl)) Yi) (by rfl) (by first | exact .inl rfl | exact .inr rfl | assumption)) (@Yd _ _ _ _ _ (@YD _ _ (4) _ _ _ _ Xc.nd rfl (.inl rfl) (@YY _ _ _ _ Yc) (by rfl) (by first | exact .inl rfl | exact .inr rfl | assumption)) (@Yd _ _ _ _ _ (@YD _ _ (5) _ _ _ _ Xc.nd rfl (.inr rfl) (@Yv _ _ _ _ _ _ _ _ _ _ _ _ ZL hr (@Ya _ _ _ _ _ (pv 0) (@Ya _ _ _ _ _ Yi Yc (by rfl)) (by rfl)) (by omega) (by rfl) (by rfl) (by decide) (by rfl) (by rfl)) (by rfl) (by first | exact .inl rfl | exact .inr rfl | assumption)) (@Yd _ _ _ _ _ (@XR _ _ _ _ _ _ _ _ PassesOwn.never rfl (@Y1 _ _ _ _ (@Yx _ _ _ _ _ _ _ _ XB (@WL _ _ _ _ _ _ _ _ _ _ Et (pv 0) (@WF _ _ _ Yi) (@WF _ _ _ Yi)) (@XF _ _ _ _ _ _ _ ([none,some 5]) ((["_law_k","_law_first"]:List Str)) _ (YJ 0) _ _ (.own (.cap (i:=5) rfl rfl (by first | exact .inl rfl | exact .inr rfl) .nil)) rfl (@Qw _ _ _ _ _ _ rfl jf (@Ya _ _ _ _ _ (@Yx _ _ _ _ _ _ _ _ Wp (@Yx _ _ _ _ _ _ _ _ Vq (pv 5) Yi) Yi) Yc (by rfl)) (by rfl)) (fun cl C s₀ H₀ fp pn=>(@YK _ _ (0) _ (show List.Nodup (["_law_k","_law_first"]:List Str) by decide +kernel) rfl (.inl rfl) (.inr rfl))) (fun cl C s₀ H₀ fp pn=>Xs) (fun cl C s₀ H₀ fp pn=>(@Yx _ _ _ _ _ _ _ _ Wp (@Yx _ _ _ _ _ _ _ _ V1 (@Yx _ _ _ _ _ _ _ _ Xm (pv 1) (@Yx _ _ _ _ _ _ _ _ V1 (@Yx _ _ _ _ _ _ _ _ V1 Yi (pv 0)) (pv 0))) Yi) Yi)) (by intro x hx;simp at hx;first | (subst hx;exact .inl rfl) | (rcases hx with rfl | rfl<;>exact .inl rfl) | (rcases hx with rfl | rfl | rfl<;>exact .inl rfl) | (rcases hx with rfl | rfl | rfl | rfl<;>exact .inl rfl) | (rcases hx with rfl | rfl | rfl | rfl | rfl<;>exact .inl rfl)) (by rfl) (by decide) (by decide +kernel) (by intro _;rfl)))) (@YK _ _ (6) _ Xc.nd rfl (.inl rfl) (by first | exact .inl rfl | exact .inr rfl | assumption)) (@Yd _ _ _ _ _ (@YD _ _ (7) _ _ _ _ Xc.nd rfl (.inl rfl) (@Yx _ _ _ _ _ _ _ _ Xm (pv 1) (@Yx _ _ _ _ _ _ _ _ Nk (@Yx _ _ _ _ _ _ _ _ Wp (pv 6) Yi) (@Yx _ _ _ _ _ _ _ _ Wp (@Yx _ _ _ _ _ _ _ _ Vq (pv 6) Yi) Yi))) (by rfl) (by first | exact .inl rfl | exact .inr rfl | assumption)) (@Ye _ _ _ (@Yq _ _ _ _ _ _ _ _ (@Yo _ _ _ _ _ _ _ _ VX (@Yv _ _ _ _ _ _ _ _ _ _ _ _ J9 hr (@Ya _ _ _ _ _ (pv 1) (@Ya _ _ _ _ _ (@Yx _ _ _ _ _ _ _ _ XB (pv 4) (@YY _ _ _ _ (@Ya _ _ _ _ _ (pv 7) Yc (by rfl)))) Yc (by rfl)) (by rfl)) (by omega) (by rfl) (by rfl) (by decide) (by rfl) (by rfl)) Yi (Yk _)) (@Ye _ _ _ (@Xk _ _ _ _ (@WC _ _ _ _ _ _ _ _ _ _ _ _ F.plainAttrs_list F.slot_list_append F.type_list_append XH (pv 4) (@Ya _ _ _ _ _ (pv 7) Yc (by rfl)) (by rfl) (by rfl) (by rfl) (by rfl) (by rfl)) (by rfl))) Yl))) (by intro _;rfl)) (@Yd _ _ _ _ _ (@Yq _ _ _ _ _ _ _ _ (@M5 _ _ _ _ _ _ _ (@Yo _ _ _ _ _ _ _ _ Yz (@Yx _ _ _ _ _ _ _ _ Wp (@Yv _ _ _ _ _ _ _ _ _ _ _ _ ZL hr (@Ya _ _ _ _ _ (pv 0) (@Ya _ _ _ _ _ Yi Yc (by rfl)) (by rfl)) (by omega) (by rfl) (by rfl) (by decide) (by rfl) (by rfl)) Yi) Yi (Yk _)) (@M4 _ _ _ _ (@Yo _ _ _ _ _ _ _ _ VX (@Yv _ _ _ _ _ _ _ _ _ _ _ _ J9 hr (@Ya _ _ _ _ _ (pv 1) (@Ya _ _ _ _ _ (@Yx _ _ _ _ _ _ _ _ XB (pv 4) (@UO _ _ _ _ _ _ _ (pv 4) (@WB _ _ _ _ _ _ X6 Yi))) Yc (by rfl)) (by rfl)) (by omega) (by rfl) (by rfl) (by decide) (by rfl) (by rfl)) Yi (Yk _)))).pt (@Ye _ _ _ (@YD _ _ (4) _ _ _ _ Xc.nd rfl (.inl rfl) (@Yx _ _ _ _ _ _ _ _ XB (pv 4) (@UO _ _ _ _ _ _ _ (pv 4) (@WB _ _ _ _ _ _ X6 Yi))) (by rfl) (by first | exact .inl rfl | exact .inr rfl | assumption))) Yl) (@Yd _ _ _ _ _ (@YD _ _ (8) _ _ _ _ Xc.nd rfl (.inl rfl) (@YF _ _ _ _ _ (@Ya _ _ _ _ _ Yp (@Ya _ _ _ _ _ (@YF _ _ _ _ _ (@Ya _ _ _ _ _ Yp (@Ya _ _ _ _ _ (pv 1) (@Ya _ _ _ _ _ (@Yx _ _ _ _ _ _ _ _ Xm (pv 1) Yi) Yc (by rfl)) (by rfl)) (by rfl))) Yc (YG _ _ _ _ _)) (by rfl))) (by rfl) (by first | exact .inl rfl | exact .inr rfl | assumption)) (@Yd _ _ _ _ _ (@YD _ _ (9) _ _ _ _ Xc.nd rfl (.inl rfl) (@YY _ _ _ _ (@Ya _ _ _ _ _ (@YF _ _ _ _ _ (@Ya _ _ _ _ _ Yp (@Ya _ _ _ _ _ (pv 8) Yc (by rfl)) (by rfl))) Yc (YG _ _ _ _ _))) (by rfl) (by first | exact .inl rfl | exact .inr rfl | assumption)) (@Yd _ _ _ _ _ (@YD _ _ (10) _ _ _ _ Xc.nd rfl (.inr rfl) (@Yv _ _ _ _ _ _ _ _ _ _ _ _ oE hr (@Ya _ _ _ _ _ (@Yv _ _ _ _ _ _ _ _ _ _ _ _ oF hr (@Ya _ _ _ _ _ (pv 2) (@Ya _ _ _ _ _ (pv 1) (@Ya _ _ _ _ _ (pv 3) Yc (by rfl)) (by rfl)) (by rfl)) (by omega) (by rfl) (by rfl) (by decide) (by rfl) (by rfl)) Yc (by rfl)) (by omega) (by rfl) (by rfl) (by decide) (by rfl) (by rfl)) (by rfl) (by first | exact .inl rfl | exact .inr rfl | assumption)) (@Yd _ _ _ _ _ (@SX _ _ _ _ _ _ _ _ _ _ 11 bm Aj rfl rfl Xc.nd rfl (.inl rfl) (Eq.trans rfl VQ) rfl rfl rfl (.inr rfl)) (@Yd _ _ _ _ _ (@Yq _ _ _ _ _ _ _ _ (@XG _ _ _ _ (@Y0 _ _ _ (@Yv _ _ _ _ _ _ _ _ _ _ _ _ lB hr (@Ya _ _ _ _ _ (pv 2) (@Ya _ _ _ _ _ (pv 1) (@Ya _ _ _ _ _ (pv 3) (@Ya _ _ _ _ _ (pv 4) Yc (by rfl)) (by rfl)) (by rfl)) (by rfl)) (by omega) (by rfl) (by rfl) (by decide) (by rfl) (by rfl)) (by intro _;rfl))) (@Ye _ _ _ (@Yj _ _ _ _ (@Xf _ _ _ _ _ _ _ (@Yv _ _ _ _ _ _ _ _ _ _ _ _ Ka hr (@Ya _ _ _ _ _ (pv 9) (@Ya _ _ _ _ _ (pv 8) (@Ya _ _ _ _ _ (pv 10) (@Ya _ _ _ _ _ (pv 4) Yc (by rfl)) (by rfl)) (by rfl)) (by rfl)) (by omega) (by rfl) (by rfl) (by decide) (by rfl) (by rfl)) (@Xa _ _ _ _ _ (@Yv _ _ _ _ _ _ _ _ _ _ _ _ Ka hr (@Ya _ _ _ _ _ (pv 9) (@Ya _ _ _ _ _ (@YF _ _ _ _ _ (@Ya _ _ _ _ _ Yp (@Ya _ _ _ _ _ Yp Yc (by rfl)) (by rfl))) (@Ya _ _ _ _ _ (pv 10) (@Ya _ _ _ _ _ (pv 4) Yc (by rfl)) (by rfl)) (YG _ _ _ _ _)) (by rfl)) (by omega) (by rfl) (by rfl) (by decide) (by rfl) (by rfl)))))) Yl) (@Yd _ _ _ _ _ (@YD _ _ (12) _ _ _ _ Xc.nd rfl (.inl rfl) (@Vp _ _ _ _ _ _ _ _ _ _ aP VH (@Ya _ _ _ _ _ (pv 4) Yc (by rfl)) (by decide +kernel) (by rfl) (by rfl) (by decide) (by decide) (by rfl) (by rfl)) (by rfl) (by first | exact .inl rfl | exact .inr rfl | assumption)) (@Yd _ _ _ _ _ (@XR _ _ _ _ _ _ _ _ PassesOwn.never rfl (@Y1 _ _ _ _ (@YY _ _ _ _ (@Ya _ _ _ _ _ (pv 8) (@Ya _ _ _ _ _ (@YF _ _ _ _ _ (@Ya _ _ _ _ _ Yp (@Ya _ _ _ _ _ Yp Yc (by rfl)) (by rfl))) Yc (YG _ _ _ _ _)) (by rfl)))) (@YK _ _ (13) _ Xc.nd rfl (.inl rfl) (by first | exact .inl rfl | exact .inr rfl | assumption)) (@Yd _ _ _ _ _ (@YD _ _ (14) _ _ _ _ Xc.nd rfl (.inl rfl) (@Xg _ _ _ _ _ _ _ _ _ _ _ _ _ u6 hr Sh (@Ya _ _ _ _ _ (pv 9) (@Ya _ _ _ _ _ (pv 13) (@Ya _ _ _ _ _ (pv 10) (@Ya _ _ _ _ _ (pv 4) Yc (by rfl)) (by rfl)) (by rfl)) (by rfl)) (by omega) (by rfl) (by rfl) (by decide) (by rfl) (by rfl)) (by rfl) (by first | exact .inl rfl | exact .inr rfl | assumption)) (@Yd _ _ _ _ _ (@Yq _ _ _ _ _ _ _ _ (@Wz _ _ _ _ _ _ _ (@XG _ _ _ _ (@Y0 _ _ _ (@YQ _ _ _ _ _ _ _ _ _ _ Z5 YO (@Ya _ _ _ _ _ (pv 14) (@Ya _ _ _ _ _ (@Y4 _ _ _ _ ("list") aP (by decide +kernel) (by rfl) (by rfl) (by decide) (by decide)) Yc (by rfl)) (by rfl)) (by decide +kernel) (by rfl) (by rfl) (by decide) (by decide) (by rfl) (by rfl)) (by intro _;rfl))) (@Wz _ _ _ _ _ _ _ (@Yo _ _ _ _ _ _ _ _ (X8 hr.units) (pv 14) (@YY _ _ _ _ Yc) (Yk _)) (@Wz _ _ _ _ _ _ _ (@Yo _ _ _ _ _ _ _ _ (UM hr.units) (@Yy _ _ _ _ _ _ _ Y8 (pv 14) Yi (fun _ _=>rfl)) (pv 12) (Yk _)) (@WK _ _ _ _ (@XG _ _ _ _ (@Y0 _ _ _ (@Yv _ _ _ _ _ _ _ _ _ _ _ _ ji hr (@Ya _ _ _ _ _ (pv 2) (@Ya _ _ _ _ _ (pv 1) (@Ya _ _ _ _ _ (pv 3) (@Ya _ _ _ _ _ (@Yy _ _ _ _ _ _ _ Y8 (pv 14) (@WB _ _ _ _ _ _ X6 Yi) (fun _ _=>rfl)) Yc (by rfl)) (by rfl)) (by rfl)) (by rfl)) (by omega) (by rfl) (by rfl) (by decide) (by rfl) (by rfl)) (by intro _;rfl))))))).pt (@Ye _ _ _ (@Yj _ _ _ _ Xq)) Yl) (@Ye _ _ _ (@Yq _ _ _ _ _ _ _ _ (@Wz _ _ _ _ _ _ _ (@Yo _ _ _ _ _ _ _ _ P0 (@Yv _ _ _ _ _ _ _ _ _ _ _ _ qj hr (@Ya _ _ _ _ _ (pv 9) (@Ya _ _ _ _ _ (pv 13) (@Ya _ _ _ _ _ (pv 10) (@Ya _ _ _ _ _ (@Yy _ _ _ _ _ _ _ Y8 (pv 14) (@WB _ _ _ _ _ _ X6 Yi) (fun _ _=>rfl)) Yc (by rfl)) (by rfl)) (by rfl)) (by rfl)) (by omega) (by rfl) (by rfl) (by decide) (by rfl) (by rfl)) Xq (Yk _)) (@WK _ _ _ _ (@Yo _ _ _ _ _ _ _ _ (UM hr.units) (pv 4) (pv 12) (Yk _)))).pt (@Ye _ _ _ (@Yj _ _ _ _ Xq)) Yl)))) (by intro _;rfl)) (@Yd _ _ _ _ _ (@YD _ _ (14) _ _ _ _ Xc.nd rfl (.inl rfl) (@YeQ _ _ _ _ _ _ _ _ _ _ _ _ u6 hr (@Ya _ _ _ _ _ (pv 9) (@Ya _ _ _ _ _ (@YF _ _ _ _ _ (@Ya _ _ _ _ _ Yp (@Ya _ _ _ _ _ (@YF _ _ _ _ _ (@Ya _ _ _ _ _ (@YF _ _ _ _ _ (@Ya _ _ _ _ _ Yp (@Ya _ _ _ _ _ Yp Yc (by rfl)) (by rfl))) (@Ya _ _ _ _ _ (pv 8) Yc (by rfl)) (YG _ _ _ _ _))) Yc (YG _ _ _ _ _)) (by rfl))) (@Ya _ _ _ _ _ (pv 11) (@Ya _ _ _ _ _ (@YF _ _ _ _ _ (@Ya _ _ _ _ _ Yp (@Ya _ _ _ _ _ (pv 4) Yc (by rfl)) (by rfl))) Yc (YG _ _ _ _ _)) (by rfl)) (YG _ _ _ _ _)) (by rfl)) (by omega) (by rfl) (by rfl) (by decide) (by rfl) (by rfl) (by intro _;rfl) (by rfl) (by rfl)) (by rfl) (by first | exact .inl rfl | exact .inr rfl | assumption)) (@Ye _ _ _ (@Yj _ _ _ _ (@Xf _ _ _ _ _ _ _ (@YV _ _ _ _ _ _ _ _ (X8 hr.units) (@Yy _ _ _ _ _ _ _ Y8 (pv 14) Yi (fun _ _=>rfl)) (@YF _ _ _ _ _ (@Ya _ _ _ _ _ Yp (@Ya _ _ _ _ _ (pv 12) Yc (by rfl)) (by rfl))) (Yk _)) (@Xf _ _ _ _ _ _ _ (@YV _ _ _ _ _ _ _ _ Yz (@Yy _ _ _ _ _ _ _ YM (@Yy _ _ _ _ _ _ _ Y8 (pv 14) (@WB _ _ _ _ _ _ X6 Yi) (fun _ _=>rfl)) Yi (fun _ _=>rfl)) Yp (Yk _)) (@Xa _ _ _ _ _ (@Yv _ _ _ _ _ _ _ _ _ _ _ _ ji hr (@Ya _ _ _ _ _ (pv 2) (@Ya _ _ _ _ _ (pv 1) (@Ya _ _ _ _ _ (pv 3) (@Ya _ _ _ _ _ (@Yy _ _ _ _ _ _ _ YM (@Yy _ _ _ _ _ _ _ Y8 (pv 14) (@WB _ _ _ _ _ _ X6 Yi) (fun _ _=>rfl)) Yi (fun _ _=>rfl)) Yc (by rfl)) (by rfl)) (by rfl)) (by rfl)) (by omega) (by rfl) (by rfl) (by decide) (by rfl) (by rfl)))))))))))))))))))))),?_⟩;have Kc:H aj=some (.aV #[]):=ht ("part_told",ao,aj) (by simp);have Ak:H aq=some (.aV #[]):=ht ("judge_of",au,aq) (by simp);have hTs:H aA=some (.aV #[]):=ht ("shrunk",aB,aA) (by simp);have Kd:H aD=some (.aV #[]):=ht ("law",aF,aD) (by simp);have nJP:aj≠aq:=fun z=>by simp [z] at hnd
 have nJS:aA≠aq:=fun z=>by simp [z] at hnd
 have nJL:aD≠aq:=fun z=>by simp [z] at hnd
 have nLP:aj≠aD:=fun z=>by simp [z] at hnd
 have nLS:aA≠aD:=fun z=>by simp [z] at hnd
 have ql:aj≠aA:=fun z=>by simp [z] at hnd
 refine Yn fun R rr=>?_
 walk_at "rd";refine ⟨a,ns,0,rfl,hS,hl,zB,_,rfl,by decide +kernel,zB,.inr (.inl (by decide)),rr _ _ (Yn fun R rr=>?_)⟩;have hlo:=Yg8 (z:=ns.getD 0 0);generalize ns.getD 0 0%10^Int.toNat 60 - 5*10^Int.toNat 59=lo at hlo;walk_at "rd";refine ⟨a,ns,1,rfl,hS,hl,_,rfl,by decide,rr _ _ (Yn fun R rr=>?_)⟩;obtain ⟨way,Mi⟩:∃ way:Nat,ns.getD 1 0%4=(way:Int):=⟨(ns.getD 1 0%4).toNat,by omega⟩;rw [Mi];walk_at "rd";refine ⟨a,ns,2,rfl,hS,hl,_,rfl,by decide,rr _ _ (Yn fun R rr=>?_)⟩;obtain ⟨n,hn,en⟩:∃ n:Nat,n<=12/\ns.getD 2 0%13=(n:Int):=⟨(ns.getD 2 0%13).toNat,by omega,by omega⟩;rw [en];walk_at "rd";refine ⟨few (by decide),fun D gD=>rr _ _ (Yn fun R rr=>?_)⟩;have sD:=Yf.aG gD (.lst []);have hD:upd H D (.lst []) D=some (.lst []):=Yb;generalize upd H D (.lst [])=H1 at sD hD;walk_at "rd";refine ⟨a,ns,2,rfl,sD.seq hS,hl,rr _ _ (Yn fun R rr=>?_)⟩;generalize ns.getD 2 0=fst;obtain ⟨n6,h6,e6⟩:∃ n:Nat,n<6/\fst / 13%6=(n:Int):=⟨(fst / 13%6).toNat,by omega,by omega⟩;have hS1:=sD.seq hS;refine Wb (K:=g.K) (fun L us H3=>∃ zs:List Int,us=zs.map V.int/\zs.length<=100/\Yf H1 H3/\L≠D/\H3 L=some (.lst (zs.map V.int))) (fun R r=>?_) ?_
 ·walk_at "rd"
  refine ⟨_,hS1,fun P1 j1=>?_⟩;rw [show (3:Int)=((3:Nat):Int) from rfl,show (11:Int)=((11:Nat):Int) from rfl,PK];have z1:=Yf.aG j1 (.lst (List.take (11 - 3) (List.drop 3 (List.map V.int ns))));refine US (n:=n6) (fun i => .int ((fst+6421*(i:Nat)*(i:Nat))*48271%2147483647)) (fun R r=>?_) (by omega) (fun i H' hi sm R r=>?_) fun T H' gT sm hT=>?_
  ·walk_at "rd"
   rw [e6];exact ⟨W1 (by decide) (by decide),by decide,r _ (.refl _)⟩
  ·walk_at "rd"
   exact ⟨.inr (.inl (by decide)),.inr (.inr (by omega)),.inr (.inr (by decide)),by decide,r _ (.refl _)⟩
  ·refine ⟨T,rfl,_,sm _ _ Yb,_,hT,few (by simp;omega),fun P2 j2=>?_⟩
   have e:List.take (11 - 3) (List.drop 3 (List.map V.int ns))++(List.range n6).map (fun (i:Nat)=>V.int ((fst+6421*(i:Nat)*(i:Nat))*48271%2147483647))=(List.take (11 - 3) (ns.drop 3)++(List.range n6).map fun (i:Nat)=>(fst+6421*(i:Nat)*(i:Nat))*48271%2147483647).map V.int:=by
    rw [List.map_append,List.map_take,List.map_drop,List.map_map];rfl
   rw [e];refine r P2 _ _ (aJ.of Yb) ⟨_,rfl,?_,(z1.trans sm).trans (.aG j2 _),fun z=>?_,Yb⟩
   ·rw [List.length_append,List.length_take,List.length_drop,List.length_map,List.length_range];omega
   ·rw [z,(z1.trans sm) _ _ hD] at j2;cases j2
 ·rintro L us H3 _ ⟨zs,rfl,hzl,s3,nL,hL⟩
  refine ⟨TsV H3 lo D a way n fst,⟨[],none,none,rfl,fun b o _ e=>e,s3 _ _ hD,(fun x h=>by cases h),Nat.zero_le _⟩,?_,?_,?_⟩
  ·rintro i σ H' _ ⟨_,_,_,_,sb,_,_,_⟩
   exact aJ.of (sb _ _ nL hL)
  ·rintro i v σ H' hv ⟨os,o6,o7,rfl,sb,hD',ok,sz⟩
   rw [List.getElem?_map] at hv
   obtain ⟨z,_,rfl⟩:=Option.map_eq_some_iff.mp hv;have ll:=Qu os;refine Yn fun R rr=>?_
   walk_at "rd";refine ⟨by decide,W1 (by decide) (by decide),by decide,by omega,rr _ _ ?_⟩;obtain ⟨far,Mj,Ml⟩:∃ far:Nat,far<=1023/\z%1024 / 2^(z / 1024%11).toNat=(far:Int):=by
    obtain ⟨y,hy,ey⟩:∃ y:Nat,y<1024/\z%1024=(y:Int):=⟨(z%1024).toNat,by omega,by omega⟩;refine ⟨y / 2^(z / 1024%11).toNat,Nat.le_trans (Nat.div_le_self _ _) (by omega),?_⟩;rw [ey,Int.natCast_ediv,Int.natCast_pow];rfl
   rw [Ml];walk_at "rd";refine ⟨few (by decide),fun p gp=>?_⟩;have sp:=Yf.aG gp (.lst [.int (lo+(far:Nat))]);refine ⟨_,sp _ _ hD',_,Yb,few (by simp only [ofs,List.length_append,List.length_map,List.length_singleton];omega),fun p2 g2=>?_⟩;have e2:ofs lo os++[V.int (lo+(far:Nat))]=ofs lo (os++[far]):=by rw [ofs,ofs,List.map_append];rfl
   rw [e2];have Al:=sp.trans (.aG g2 (.lst (ofs lo (os++[far]))));refine ⟨lo,p2,os++[far],rfl,Yb,by rw [List.length_append,List.length_singleton];omega,fun H2 k2=>?_⟩;have s2:=Al.trans k2;by_cases c:bT (os++[far])<=15
   ·refine ⟨_,rfl,YT (by omega) ⟨.inl ⟨rfl,_,aJ.of (s2 _ _ hD')⟩,_,s2 _ _ hD',few (by simp only [ofs,List.length_map];omega),?_⟩⟩
    rw [e2];exact ⟨os++[far],_,_,rfl,fun b o nb e=>by rw [Yg nb];exact s2 _ _ (sb _ _ nb e),Yb,fun x hx=>by
     rcases List.mem_append.mp hx with hx | hx
     ·exact ok x hx
     ·rw [List.mem_singleton.mp hx];exact Mj,c⟩
   ·exact ⟨_,rfl,Yu (by omega) ⟨os,_,_,rfl,fun b o nb e=>s2 _ _ (sb _ _ nb e),s2 _ _ hD',ok,sz⟩⟩
  ·rintro σ H4 ⟨os,o6,o7,rfl,sb,lC,ok,sz⟩
   refine rr _ _ (Yn fun R rr=>?_);have qm:∀ b o,H b=some o->H4 b=some o:=fun b o e=>sb _ _ (Ym e gD) (s3 _ _ (sD _ _ e))
   have qm:Yf H H4:=qm;have go:∀ D2 os2 H5,Yf H4 H5->H5 D2=some (.lst (ofs lo os2))->(∀ o∈os2,o<=1023)->bT os2<=15->R [some (V.ref a),some (V.int lo),some (V.int ↑way),some (V.int ↑n),some (V.ref D2),some (V.int fst),o6,o7,none,none,none,none,none,none,none] H5:=by
    intro D os H5 s5 hD ok sz;have s5:=qm.trans s5;clear hS1 sD gD;refine rr _ _ (Yn fun R rr=>?_);walk_at "rd";refine ⟨few (by decide),fun w0 i0=>⟨few (by decide),fun sh i1=>rr _ _ (Yn fun R rr=>?_)⟩⟩;have y0:=Yf.aG i0 (.tup [.str "whole",.int lo,.int (lo+1023)]);have y1:=Yf.aG i1 (.tup [.str "many",.ref w0]);have hw0:=y1 _ _ (Yb:upd H5 w0 (.tup [.str "whole",.int lo,.int (lo+1023)]) w0=_);walk_at "rd";refine ⟨few (by decide),fun r0 i2=>⟨few (by decide),fun B i3=>rr _ _ (Yn fun R rr=>?_)⟩⟩;have y2:=Yf.aG i2 (.tup [.str "row",.ref sh]);have y3:=Yf.aG i3 (.lst [.ref r0]);have vf:=y2.trans y3;have hSh:Xd _ lo sh .my:=⟨w0,vf _ _ Yb,vf _ _ hw0⟩;have hB:bR _ lo B:=⟨r0,sh,Yb,y3 _ _ Yb,hSh⟩;have y:=(y0.trans y1).trans vf;have s6:=s5.trans y;have Am:=y _ _ hD;generalize upd (upd (upd (upd H5 w0 (.tup [.str "whole",.int lo,.int (lo+1023)])) sh (.tup [.str "many",.ref w0])) r0 (.tup [.str "row",.ref sh])) B (.lst [.ref r0])=H6 at hSh hB s6 Am;clear y0 y1 y2 y3 vf y hw0 i0 i1 i2 i3 hD s5;walk_at "rd";refine ⟨way,n,lo,rfl,fun u H7 s7 hT=>⟨u,_,rfl,hT,Yg4 hlo hn,by have:=J1 way n lo;omega,Yg5 way n lo,.inl ((s6.trans s7) _ _ Ak),fun hf H8 jo _ k8=>?_⟩⟩;have Ao:=(s6.trans s7) _ _ Ak;have Ke:Kt H6 H8:=(YA s7).trans (zJ k8 Ao);have Aq:H8 aj=some (.aV #[]):=k8 _ _ nJP ((s6.trans s7) _ _ Kc);have Ar:H8 aA=some (.aV #[]):=k8 _ _ nJS ((s6.trans s7) _ _ hTs);have rE:H8 aD=some (.aV #[]):=k8 _ _ nJL ((s6.trans s7) _ _ Kd);refine rr _ _ (Yn fun R rr=>?_);walk_at "rd";refine ⟨_,rE,trivial,.inl ⟨rfl,fun wf cw fw g1 g2 g3 ⟨doc,pm,ctv,e⟩=>?_⟩⟩;subst e;have kk:∀ (o1 o2 o3:HO) a o,a≠aD->H8 a=some o->upd (upd (upd H8 aD o1) cw o2) wf o3 a=some o:=fun o1 o2 o3 a o h1 h2=>by rw [Yg (Ym h2 g1),Yg (Ym h2 g2),Yg h1];exact h2
    have go2:∀ H9,(∀ a o,a≠aD->H8 a=some o->H9 a=some o)->H9 wf=some (bG wf (Zv (jh (s.heap.objs.size+1+1) hf).cl cw doc pm ctv))->H9 cw=some (cH cw Zo)->R [some (V.ref a),some (V.int lo),some (V.int ↑way),some (V.int ↑n),some (V.ref D),some (V.int fst),o6,o7,some (V.ref sh),some (V.ref B),some (V.ref hf),some (V.ref wf),none,none,none] H9:=by
     intro H9 k9 hwf hcw;have rF:=zJ k9 rE;have kt9:=Ke.trans rF;have tb9:Tb aj H9 := .inl (k9 _ _ nLP Aq);have ts9:XQ H9 aA := .inl (k9 _ _ nLS Ar);have jol:=(Yg6 jo hlo).nl (Kt.nl rF);have hB9:=hB.kt kt9;have Mp:=hSh.tp (Xe kt9);have Kf:=kt9.lst Am;have ll:=Qu os;have bw:bw os:=⟨by omega,ok⟩;clear rF k9 rE Ar Aq Ao k8 jo hB hSh s6 s7 Am Ke hT kk g1 g2 g3 Kc Ak hTs Kd qm s3 sb lC;refine rr _ _ (Yn fun R rr=>?_);walk_at "rd";refine ⟨way,n,lo,D,os,rfl,Kf,by omega,fun pA fZ=>?_⟩;have t10:=tb9.keep fZ;have Kg:=ts9.keep fZ;have qp:=jol.nl (CQ fZ);have b10:=hB9.kt (YA fZ);have h10:=Mp.tp (Xe (YA fZ));have ni:=fZ _ _ Kf
     cases hp:cC way n os with
     | true =>
      refine ⟨_,rfl,YT rfl ⟨B,sh,hf,.ref D,lo,.my,cC way n,os,fun _=>True,rfl,b10,h10,.inl rfl,qp.up,Vy trivial ni,bw,by omega,t10,Kg,ql,hp,fun wH k11 t11 z11=>⟨_,rfl,YT rfl ⟨few (by decide),fun p gp=>?_⟩⟩⟩⟩;have sp:=Yf.aG gp (.tup [.str "use",.str "row"]);have kp:=k11.trans (YA sp);exact ⟨B,p,hf,.ref D,lo,.us,cC way n,os,fun _=>True,rfl,b10.kt kp,Yb,.inr (.inl rfl),qp.up.kt kp,Vy trivial (kp.lst ni),bw,by omega,t11.keep sp,z11.keep sp,ql,hp,fun H12 _ _ _=>q H12⟩
     | false =>
      refine ⟨_,rfl,Yu (by decide) (rr _ _ (Yn fun R rr=>?_))⟩;walk_at "rd";refine ⟨_,.inl (aJ.of ni),fun Kp gK=>rr _ _ (Yn fun R rr=>?_)⟩;have uK:=Yf.aG gK (.lst (ofs lo os));have hK:upd pA Kp (.lst (ofs lo os)) Kp=some (.lst (ofs lo os)):=Yb;generalize upd pA Kp (.lst (ofs lo os))=wH at uK hK;have adH:=bw.1;refine Wb (K:=g.K) (fun L us H3=>∃ p,us=[.ref sh,.ref p]/\H3 L=some (.lst us)/\H3 p=some (.tup [.str "use",.str "row"])/\Yf wH H3) (fun R r=>?_) ?_
      ·walk_at "rd"
       refine ⟨few (by decide),fun p gp=>⟨few (by decide),fun L gL=>?_⟩⟩;have sp:=Yf.aG gp (.tup [.str "use",.str "row"]);have sL:=Yf.aG gL (.lst [.ref sh,.ref p]);exact r L _ _ (aJ.of Yb) ⟨p,rfl,Yb,sL _ _ Yb,sp.trans sL⟩
      ·rintro L us H3 _ ⟨p,rfl,hL,hp3,s3⟩
       have u3:=uK.trans s3;refine ⟨RsV H3 aj aA [some (V.ref a),some (V.int lo),some (V.int ↑way),some (V.int ↑n),some (V.ref D),some (V.int fst),o6,o7,some (V.ref sh),some (V.ref B),some (V.ref hf),some (V.ref wf),some (V.ref Kp)],⟨none,none,rfl,.refl _,t10.keep u3,Kg.keep u3⟩,?_,?_,?_⟩
       ·rintro i σ H' _ ⟨_,_,_,k3,_,_⟩
        exact aJ.of (k3.lst hL)
       ·rintro i v σ H' hv ⟨Ah,Ai,rfl,k3,tb,ts⟩
        obtain ⟨ak,sk,rfl,hs,hak⟩:∃ ak sk,v=V.ref ak/\(sk = .my\/sk = .us)/\Xd H3 lo ak sk:=by
         match i,hv with
         | 0,hv=>exact ⟨sh,.my,(Option.some.inj hv).symm,.inl rfl,h10.tp (Xe (YA u3))⟩
         | 1,hv=>exact ⟨p,.us,(Option.some.inj hv).symm,.inr rfl,hp3⟩
        have qt:kdS sk=false:=by rcases hs with rfl | rfl<;>rfl
        have hs':sk = .my\/sk = .us\/sk = .ro:=hs.elim .inl fun h => .inr (.inl h)
        have k:=(YA u3).trans k3;refine Yn fun R rr=>?_
        walk_at "rd";refine ⟨B,ak,hf,.ref D,lo,sk,cC way n,os,fun _=>True,rfl,b10.kt k,hak.tp (Xe k3),hs',by rw [qt];exact qp.up.kt k,by rw [qt];exact Vy trivial (k.lst ni),bw,by omega,tb,ts,ql,(fun _ _ _ _ e=>by rw [hp] at e;cases e),fun Rr ys w H5 k5 tb5 ts5 gR hR _ hw f2=>rr _ _ (Yn fun R rr=>?_)⟩;rw [qt] at f2
        obtain ⟨l,hl1,hl2,hl3,vg,hl5⟩:=hw.last hp bw;obtain ⟨w',rfl⟩:=List.getLast?_eq_some_iff.mp hl1;obtain ⟨ys',y,rfl,hy⟩:=Qv f2;obtain ⟨Dl,rfl,_,qu⟩:=Wn (show aL _ H5 lo y (.os l) from hy);obtain ⟨D0,a0,h0⟩:∃ D0,fY (ys'++[V.ref Dl]) 0=some (.ref D0)/\H5 D0=some (.lst (ofs lo os)):=by
         obtain ⟨r,er⟩:=hw.head;obtain ⟨y0,ys0,e0,h0⟩:=J8 (er▸f2);obtain ⟨D0,rfl,_,h0⟩:=Wn (show aL _ H5 lo y0 (.os os) from h0);exact ⟨D0,by rw [e0];exact Ys (j:=0) rfl,h0⟩
        have kK:=k3.trans k5;have vh:H5 Kp=some (.lst (ofs lo os)):=kK.lst (s3 _ _ hK);have Kh:=k.trans k5;walk_at "rd";refine ⟨_,rfl,_,.lst hR,true,rfl,Yu (by decide) ⟨few (by decide),fun pe ge=>?_⟩⟩;have se:=Yf.aG ge (.lst []);refine ⟨_,.lst (aJ.of (se _ _ hR)) (J7 (f2.imp fun _ _ h=>h.same se)),bf lo [],.lst (aJ.of Yb) .nil,Ygt lo _,?_⟩;rw [show (PyData.list ((w'++[l]).map (bf lo))).eqv (bf lo [])=false from Dj (by simp)];refine Yu (by decide) ⟨_,aJ.of (se _ _ hR),_,a0,_,Xj (se _ _ h0),_,Xj (se _ _ vh),Xx _ _,?_⟩;rw [Ww,decide_eq_true rfl];have se5:=YA se;have k6:=Kh.trans se5;refine Yu (by decide) ⟨_,aJ.of (se _ _ hR),_,W4 _ _,way,n,lo,Dl,l,rfl,se _ _ qu,hl3.1,hn,JV hl2 vg,fun H6 s6=>⟨_,rfl,Yu (by decide) (rr _ _ ?_)⟩⟩;have jk:=se.trans s6;have Av:=Kh.trans (YA jk);walk_at "rd";refine ⟨_,aJ.of (jk _ _ hR),_,W4 _ _,B,ak,hf,.ref Dl,lo,sk,cC way n,l,fun _=>True,rfl,b10.kt Av,hak.tp (Xe (kK.trans (YA jk))),hs',by rw [qt];exact qp.up.kt Av,by rw [qt];exact Vy trivial (jk _ _ qu),hl3,tb5.keep jk,hl2,vg,fun H7 k7 tb7=>?_⟩;have k37:=Av.trans k7.kt;refine ⟨true,rfl,Yu (by decide) ⟨_,Xj (k37.lst ni),_,Xj ((YA jk).trans k7.kt |>.lst vh),Xx _ _,?_⟩⟩;rw [Ww,decide_eq_true rfl];exact Yu (by decide) ⟨_,_,rfl,(kK.trans (YA jk)).trans k7.kt,tb7,Ag (ts5.keep jk) k7 (Ne.symm ql)⟩
       ·rintro σ H4 ⟨Ah,Ai,rfl,k3,tb,ts⟩
        refine rr _ _ (Yn fun R rr=>?_);unfold V4;walk_at "rd";refine ⟨few (by decide),fun p0 g0=>⟨few (by decide),fun p1 g1=>⟨few (by decide),fun p2 g2=>⟨few (by decide),fun p3 g3=>?_⟩⟩⟩⟩;have v0:=Yf.aG g0 (.tup [.str "text",.str "ab"]);have v1:=Yf.aG g1 (.tup [.ref p0,.ref sh]);have v2:=Yf.aG g2 (.tup [.str "row",.ref p1]);have v3:=Yf.aG g3 (.tup [.str "",.ref D]);have e0:=((v1.trans v2).trans v3) _ _ (Yb:upd H4 p0 (.tup [.str "text",.str "ab"]) p0=_);have e1:=(v2.trans v3) _ _ Yb;have e2:=v3 _ _ Yb;have e3:upd (upd (upd (upd H4 p0 (.tup [.str "text",.str "ab"])) p1 (.tup [.ref p0,.ref sh])) p2 (.tup [.str "row",.ref p1])) p3 (.tup [.str "",.ref D]) p3=some (.tup [.str "",.ref D]):=Yb;have vv:=((v0.trans v1).trans v2).trans v3;generalize upd (upd (upd (upd H4 p0 (.tup [.str "text",.str "ab"])) p1 (.tup [.ref p0,.ref sh])) p2 (.tup [.str "row",.ref p1])) p3 (.tup [.str "",.ref D])=H5 at e0 e1 e2 e3 vv ⊢;have k5:=((YA u3).trans k3).trans (YA vv);have vh:H5 Kp=some (.lst (ofs lo os)):=vv _ _ (k3.lst (s3 _ _ hK));obtain ⟨w0,hm,hw0⟩:=h10;refine ⟨jh (s.heap.objs.size+1+1) hf,⟨by simp [Yr.as],fun z hz=>?_⟩,fun hc Hz hL=>?_⟩
        ·cases List.mem_singleton.mp hz
         exact ⟨10,rfl,rfl,rfl,rfl⟩
        ·have sz:=Wu hL
         have zz:=hL.z;have kz:=k5.trans (YA sz);have hj:eZ g aj Hz wf true (cC way n) lo:=Ygs (kz _ _ (fun ps z=>by cases z) (fZ _ _ hwf)) (kz _ _ (fun ps z=>by cases z) (fZ _ _ hcw)) zz (qp.nl (Kt.nl kz));refine ⟨B,p2,wf,.ref p3,lo,.ro,cC way n,os,fun _=>True,rfl,b10.kt kz,⟨p1,p0,sh,w0,sz _ _ e2,sz _ _ e1,sz _ _ e0,kz.tup hm,kz.tup hw0⟩,.inr (.inr rfl),hj,Jx (sz _ _ e3) trivial (kz.lst ni),bw,by omega,tb.keep (vv.trans sz),ts.keep (vv.trans sz),ql,(fun _ _ _ _ e=>by rw [hp] at e;cases e),fun Rr ys w H6 k6 tb6 ts6 gR hR _ hw f2=>rr _ _ ?_⟩;have z6:=qb zz k6;have hRf:=XX z6 hR (by intro _ _ z;cases z);have f2:=f2.imp fun _ _ h=>rD z6 h
         have Kl:=XX z6 (k6.lst (sz _ _ vh)) (by intro _ _ z;cases z);obtain ⟨l,hl1,hl2,hl3,vg,hl5⟩:=hw.last hp bw;obtain ⟨w',rfl⟩:=List.getLast?_eq_some_iff.mp hl1;obtain ⟨ys',y,rfl,hy⟩:=Qv f2;obtain ⟨al,Dl,rfl,hal,_,qu⟩:=Ua (show aL _ _ lo y (.ro l) from hy);obtain ⟨q0,D0,a0,hq0,h0⟩:∃ q0 D0,fY (ys'++[V.ref al]) 0=some (.ref q0)/\off H6 (jh (s.heap.objs.size+1+1) hf).as q0=some (.tup [.str "",.ref D0])/\off H6 (jh (s.heap.objs.size+1+1) hf).as D0=some (.lst (ofs lo os)):=by
          obtain ⟨r,er⟩:=hw.head;obtain ⟨y0,ys0,e0,h0⟩:=J8 (er▸f2);obtain ⟨q0,D0,rfl,hq0,_,h0⟩:=Ua (show aL _ _ lo y0 (.ro os) from h0);exact ⟨q0,D0,by rw [e0];exact Ys (j:=0) rfl,hq0,h0⟩
         generalize off H6 (jh (s.heap.objs.size+1+1) hf).as=H7 at hRf f2 Kl hal qu hq0 h0 hy;walk_at "rd";refine ⟨_,aJ.of hRf,_,a0,few (by decide),fun p gp=>?_⟩;have sp:=Yf.aG gp (.tup [.str "",.ref Kp]);have d1:Den g.K (upd H7 p (.tup [.str "",.ref Kp])) (.ref q0) (.tuple [.str "",bf lo os]) := .tup (aK.of (sp _ _ hq0)) (.cons (.str _ (by decide +kernel)) (.cons (Xj (sp _ _ h0)) .nil));have d2:Den g.K (upd H7 p (.tup [.str "",.ref Kp])) (.ref p) (.tuple [.str "",bf lo os]) := .tup (aK.of Yb) (.cons (.str _ (by decide +kernel)) (.cons (Xj (sp _ _ Kl)) .nil));refine ⟨_,d1,_,d2,?_,?_⟩
         ·have h:(bf lo os).depth<=1:=by rw [bf,PyData.depth,WW];decide
          simp only [PyData.depth,PyData.depthAll];omega
         rw [PySem.SeqAt.eqv_refl _ d1.lay];refine YT rfl ⟨_,aJ.of (sp _ _ hRf),_,W4 _ _,_,rfl,_,aK.of (sp _ _ hal),_,Ys (j:=0) rfl,rfl,YT rfl ⟨_,aJ.of (sp _ _ hRf),_,W4 _ _,_,rfl,_,aK.of (sp _ _ hal),_,Ys (j:=1) rfl,way,n,lo,Dl,l,rfl,sp _ _ qu,hl3.1,hn,JV hl2 vg,fun H8 _=>q H8⟩⟩
    exact go2 _ (kk _ _ _) Yb (by rw [Yg (Ne.symm g3),Yb])
   walk_at "rd";refine ⟨a,ns,3,rfl,qm.seq hS,hl,_,rfl,by decide,?_⟩;by_cases c3:ns.getD 3 0%3=0
   ·have ll:=Qu os
    have er:(ofs lo os).reverse=ofs lo os.reverse:=by rw [ofs,ofs,List.map_reverse]
    have ec:ofs lo os++(ofs lo os).reverse=ofs lo (os++os.reverse):=by rw [er,ofs,ofs,ofs,List.map_append]
    have el:(ofs lo os++(ofs lo os).reverse).length=os.length+os.length:=by rw [List.length_append,List.length_reverse,ofs,List.length_map]
    refine YT c3 ⟨_,aJ.of lC,fun p gp=>?_⟩;have sp:=Yf.aG gp (.lst (ofs lo os).reverse);refine ⟨_,sp _ _ lC,_,Yb,few (by simp only [List.length_reverse,ofs,List.length_map];omega),fun p2 g2=>?_⟩;rw [ec];have Al:=sp.trans (.aG g2 (.lst (ofs lo (os++os.reverse))));refine ⟨lo,p2,os++os.reverse,rfl,Yb,by rw [List.length_append,List.length_reverse];omega,fun H5 s5=>⟨_,rfl,?_⟩⟩;have qw:=Al.trans s5;by_cases c:bT (os++os.reverse)<=15
    ·refine YT (by omega) ⟨_,aJ.of (qw _ _ lC),fun p gp=>?_⟩
     have sp:=Yf.aG gp (.lst (ofs lo os).reverse);refine ⟨_,sp _ _ (qw _ _ lC),_,Yb,few (by simp only [List.length_reverse,ofs,List.length_map];omega),fun p2 g2=>?_⟩;rw [ec];exact go p2 _ _ (qw.trans (sp.trans (.aG g2 _))) Yb (fun o ho=>by
      rcases List.mem_append.mp ho with ho | ho
      ·exact ok o ho
      ·exact ok o (List.mem_reverse.mp ho)) c
    ·exact Yu (by omega) (go D os H5 qw (qw _ _ lC) ok sz)
   ·exact Yu c3 (go D os H4 (.refl _) lC ok sz)
theorem d7 {α:Type} {us:List α} (h:us.length=1):∃ a0,us=[a0]:=by
 match us,h with
 | [a0],_=>exact ⟨_,rfl⟩
theorem cG {α:Type} {us:List α} (h:us.length=2):∃ a0 a1,us=[a0,a1]:=by
 match us,h with
 | [a0,a1],_=>exact ⟨_,_,rfl⟩
theorem gj {α:Type} {us:List α} (h:us.length=3):∃ a0 a1 a2,us=[a0,a1,a2]:=by
 match us,h with
 | [a0,a1,a2],_=>exact ⟨_,_,_,rfl⟩
theorem jl {α:Type} {us:List α} (h:us.length=4):∃ a0 a1 a2 a3,us=[a0,a1,a2,a3]:=by
 match us,h with
 | [a0,a1,a2,a3],_=>exact ⟨_,_,_,_,rfl⟩
structure Top (K:W.Frag) (mg:Str->Option Value) (Z0:Addr) (Z3:Addr) (Z1:Addr) (Z4:Addr) (Z2:Addr) (ao aj:Addr) (au aq:Addr) (aB aA:Addr) (aF aD:Addr):Prop where
 Aw:∀ P w base,(Gx.mk P w K mg base).Raw "is_whole_number" "is_whole_number" yj ["thing"]
 Ax:∀ P w base,(Gx.mk P w K mg base).Raw "is_truth" "is_truth" yQ ["thing"]
 Ay:∀ P w base,(Gx.mk P w K mg base).Raw "is_text" "is_text" yR ["thing"]
 Az:∀ P w base,(Gx.mk P w K mg base).Raw "is_list" "is_list" yS ["thing"]
 ZW:∀ P w base,(Gx.mk P w K mg base).Raw "is_list_or_tuple" "is_list_or_tuple" ZS ["thing"]
 Ba:∀ P w base,(Gx.mk P w K mg base).Raw "is_list_or_text" "is_list_or_text" yU ["thing"]
 Zt:∀ P w base,(Gx.mk P w K mg base).Raw "is_list_tuple_or_text" "is_list_tuple_or_text" Zs ["thing"]
 Zg:∀ P w base,(Gx.mk P w K mg base).Raw "same_each" "same_each" yN ["one","other"]
 cj:∀ P w base,(Gx.mk P w K mg base).Raw "same" "same" yP ["one","other"]
 nj:∀ P w base,(Gx.mk P w K mg base).Raw "taken" "taken" Qr ["mark","term","thing","can_take"]
 ZM:∀ P w base,(Gx.mk P w K mg base).dH "part_told" "part_told" pO ["body","thing"] ao
 Zr:∀ P w base,(Gx.mk P w K mg base).Raw "numbers_told" "numbers_told" yV ["mark","body","thing"]
 ZN:∀ P w base,(Gx.mk P w K mg base).Raw "same_told" "same_told" yX ["body","thing"]
 ZO:∀ P w base,(Gx.mk P w K mg base).Raw "each_told" "each_told" yZ ["body","thing"]
 cX:∀ P w base,(Gx.mk P w K mg base).Raw "told" "told" za ["term","thing"]
 Bb:∀ P w base,(Gx.mk P w K mg base).Raw "says_true" "says_true" zf ["term","thing"]
 Bc:∀ P w base,(Gx.mk P w K mg base).dH "judge_of" "judge_of" uy ["term"] au
 Bd:∀ P w base,(Gx.mk P w K mg base).Raw "shape_of" "shape_of" yh ["book","name"]
 Bf:∀ P w base,(Gx.mk P w K mg base).Raw "has_form" "has_form" yp ["shape","value"]
 Bg:∀ P w base,(Gx.mk P w K mg base).Raw "things_within" "things_within" yq ["book","shape","value"]
 Bh:∀ P w base,(Gx.mk P w K mg base).Raw "sum_of_sizes" "sum_of_sizes" yr ["keys"]
 Bj:∀ P w base,(Gx.mk P w K mg base).Raw "list_key" "list_key" yt ["shape","keys"]
 Bk:∀ P w base,(Gx.mk P w K mg base).Raw "key_made" "key_made" yw ["shape","value","keys"]
 nq:∀ P w base,(Gx.mk P w K mg base).Raw "weighed" "weighed" yC ["book","shape","value"]
 lD:∀ P w base,(Gx.mk P w K mg base).Raw "fits" "fits" yD ["book","shape","value"]
 Bl:∀ P w base,(Gx.mk P w K mg base).Raw "refuse_no_value" "refuse_no_value" yE ["book","shape","value"]
 Bo:∀ P w base,(Gx.mk P w K mg base).Raw "whole_steps" "whole_steps" yF ["low","value"]
 Bp:∀ P w base,(Gx.mk P w K mg base).Raw "without_each" "without_each" yG ["things"]
 Bq:∀ P w base,(Gx.mk P w K mg base).Raw "with_each_step" "with_each_step" yH ["things","inner"]
 Zn:∀ P w base,(Gx.mk P w K mg base).Raw "things_at_use" "things_at_use" yI ["book","use","shape","value"]
 Br:∀ P w base,(Gx.mk P w K mg base).gw "Lister" Z4 "Lister.__init__" zy ["self","book"]
 ZX:∀ P w base,(Gx.mk P w K mg base).gw "Stepper" Z2 "Stepper.__init__" ZT ["self","book"]
 ZY:∀ P w base,(Gx.mk P w K mg base).eN Z2 "steps_by" "Stepper.steps_by" ZU ["self","shape","value","inner"]
 Ze:∀ P w base,(Gx.mk P w K mg base).eN Z2 "steps_from" "Stepper.steps_from" ZG ["self","shape","value"]
 lE:∀ P w base,(Gx.mk P w K mg base).Raw "copied" "copied" Ux ["thing"]
 Bs:∀ P w base,(Gx.mk P w K mg base).Raw "steps_of" "steps_of" yJ ["book","shape","value"]
 iQ:∀ P w base,(Gx.mk P w K mg base).Raw "holds" "holds" Qq ["judge","value"]
 Bt:∀ P w base,(Gx.mk P w K mg base).Raw "first_breach" "first_breach" yK ["judge","values"]
 Bu:∀ P w base,(Gx.mk P w K mg base).Raw "shrunk_by" "shrunk_by" yL ["judge","value","values_next"]
 gM:∀ P w base,(Gx.mk P w K mg base).dH "shrunk" "shrunk" pN ["book","shape","judge","value"] aB
 Bv:∀ P w base,(Gx.mk P w K mg base).Raw "at_rest" "at_rest" yM ["book","shape","judge","value"]
 Bw:∀ P w base,(Gx.mk P w K mg base).Raw "_law_refused" "_law_refused" zx ["_law_book","_law_shape","_law_holds","_law_value"]
 BJ:∀ P w base,(Gx.mk P w K mg base).Raw "_law_size" "_law_size" zm ["_law_low","_law_things"]
 BK:∀ P w base,(Gx.mk P w K mg base).Raw "_law_term" "_law_term" zp ["_law_way","_law_low","_law_n"]
 BL:∀ P w base,(Gx.mk P w K mg base).Raw "_law_breach" "_law_breach" zq ["_law_way","_law_low","_law_n","_law_things"]
 BP:∀ P w base,(Gx.mk P w K mg base).Raw "_law_end" "_law_end" zu ["_law_way","_law_low","_law_n","_law_things"]
 BR:∀ P w base,(Gx.mk P w K mg base).Raw "_law_cell_at" "_law_cell_at" zj ["_law_script","_law_k"]
 mU:Cls K Z4
 ZK:YZ K Z4 "book"
 Zx:YZ K Z4 "makers"
 Za:Cls K Z2
 Z8:YZ K Z2 "book"
 Z9:YZ K Z2 "lister"
 je:∀ P w base,(Gx.mk P w K mg base).j7 "OF_ONE_PART" ([.str "many",.str "rising",.str "unlike"])
 iu:mg "all"=none
 cg:mg "bool"=none
 cV:mg "dict"=none
 pW:mg "enumerate"=none
 dR:mg "int"=none
 Z5:mg "isinstance"=none
 aN:mg "len"=none
 aP:mg "list"=none
 jf:mg "range"=none
 bV:mg "str"=none
 dW:mg "sum"=none
 Z6:mg "tuple"=none
 bM:mg "zip"=none
 fH:mg "CountError"=some (.ref Z0)
 dJ:mg "Astray"=some (.ref Z3)
 bK:mg "NoBreach"=some (.ref Z1)
 cL:W.excIn K Z1 WP "ValueError.__new__"=true
 fJ:∀ P w base,(Gx.mk P w K mg base).gF "Astray" Z3 "Astray.__init__" zA ["self","mark"]
 fK:kj K Z3 Z0
 cR:W.findIn K (.ref Z3) "mark"=some none
 cZ:∀ P w base,jV (Gx.mk P w K mg base) "CountError" Z0
 bJ:W.exmOne K (.ref Z3) (.ref Z3)=some true
 aZ:W.exmOne K (.ref Z1) (.ref Z1)=some true
theorem Ye4 {K:W.Frag} {mg:Str->Option Value} {Z0 Z3 Z1 Z4 Z2:Addr} {ao aj:Addr} {au aq:Addr} {aB aA:Addr} {aF aD:Addr}  (t:Top K mg Z0 Z3 Z1 Z4 Z2 ao aj au aq aB aA aF aD) (P:Program) (w:World) (base:Heap) (hB:Bm mg base) (cM:W.CodeHd base ao aj) (lV:W.CodeHd base au aq) (qx:W.CodeHd base aB aA) (BW:W.CodeHd base aF aD) (hnd:([aj,aq,aA,aD]:List Addr).Nodup) :
  yg (Gx.mk P w K mg base) 63 ["_law_script","_law_low","_law_way","_law_n","_law_things","_law_first","_law_cell","_law_thing","_law_shape","_law_book","_law_holds","_law_within","_law_kept","_law_asked","_law_found"] "law" UX aF (V3 K [("part_told",ao,aj),("judge_of",au,aq),("shrunk",aB,aA),("law",aF,aD)]):=by
 have ZA:=Z22 (g:=Gx.mk P w K mg base) (t.fJ P w base) (t.cZ P w base) t.fK t.cR;have Z7:=Z24 (g:=Gx.mk P w K mg base) (Z0:=Z0) (Z3:=Z3) (Z1:=Z1) (Z4:=Z4) (Z2:=Z2) (ao:=ao) (aj:=aj) (au:=au) (aq:=aq) (aB:=aB) (aA:=aA) (aF:=aF) (aD:=aD) (t.Aw P w base) t.cg t.dR t.Z5;have Zb:=Ybc (g:=Gx.mk P w K mg base) (Z0:=Z0) (Z3:=Z3) (Z1:=Z1) (Z4:=Z4) (Z2:=Z2) (ao:=ao) (aj:=aj) (au:=au) (aq:=aq) (aB:=aB) (aA:=aA) (aF:=aF) (aD:=aD) (t.Ax P w base) t.cg t.Z5;have ZD:=YcU (g:=Gx.mk P w K mg base) (Z0:=Z0) (Z3:=Z3) (Z1:=Z1) (Z4:=Z4) (Z2:=Z2) (ao:=ao) (aj:=aj) (au:=au) (aq:=aq) (aB:=aB) (aA:=aA) (aF:=aF) (aD:=aD) (t.Ay P w base) t.Z5 t.bV;have ZE:=YcV (g:=Gx.mk P w K mg base) (Z0:=Z0) (Z3:=Z3) (Z1:=Z1) (Z4:=Z4) (Z2:=Z2) (ao:=ao) (aj:=aj) (au:=au) (aq:=aq) (aB:=aB) (aA:=aA) (aF:=aF) (aD:=aD) (t.Az P w base) t.Z5 t.aP;have Zc:=Z1N (g:=Gx.mk P w K mg base) (Z0:=Z0) (Z3:=Z3) (Z1:=Z1) (Z4:=Z4) (Z2:=Z2) (ao:=ao) (aj:=aj) (au:=au) (aq:=aq) (aB:=aB) (aA:=aA) (aF:=aF) (aD:=aD) (t.ZW P w base) t.Z5 t.aP t.Z6;have qF:=Z25 (g:=Gx.mk P w K mg base) (Z0:=Z0) (Z3:=Z3) (Z1:=Z1) (Z4:=Z4) (Z2:=Z2) (ao:=ao) (aj:=aj) (au:=au) (aq:=aq) (aB:=aB) (aA:=aA) (aF:=aF) (aD:=aD) (t.Ba P w base) t.Z5 t.aP t.bV;have Zi:=Z0Z (g:=Gx.mk P w K mg base) (Z0:=Z0) (Z3:=Z3) (Z1:=Z1) (Z4:=Z4) (Z2:=Z2) (ao:=ao) (aj:=aj) (au:=au) (aq:=aq) (aB:=aB) (aA:=aA) (aF:=aF) (aD:=aD) (t.Zt P w base) t.Z5 t.aP t.bV t.Z6;have jt:=Zk (g:=Gx.mk P w K mg base) (m:=0) (k:=1) (Z0:=Z0) (Z3:=Z3) (Z1:=Z1) (Z4:=Z4) (Z2:=Z2) (ao:=ao) (aj:=aj) (au:=au) (aq:=aq) (aB:=aB) (aA:=aA) (aF:=aF) (aD:=aD) (t.Zg P w base) ((t.cj P w base).none (fun _ _ _ _ h=>Ygf h)) t.aN t.bM;have rG:=X1 (g:=Gx.mk P w K mg base) (m:=0) (k:=1) (Z0:=Z0) (Z3:=Z3) (Z1:=Z1) (Z4:=Z4) (Z2:=Z2) (ao:=ao) (aj:=aj) (au:=au) (aq:=aq) (aB:=aB) (aA:=aA) (aF:=aF) (aD:=aD) (t.cj P w base) (Z7.mono (by decide)) ((t.Zg P w base).none (fun _ _ _ _ h=>YaM h)) (Zb.mono (by decide)) (ZD.mono (by decide)) (ZE.mono (by decide)) t.Z5 t.Z6;have ju:=Zk (g:=Gx.mk P w K mg base) (m:=1) (k:=2) (Z0:=Z0) (Z3:=Z3) (Z1:=Z1) (Z4:=Z4) (Z2:=Z2) (ao:=ao) (aj:=aj) (au:=au) (aq:=aq) (aB:=aB) (aA:=aA) (aF:=aF) (aD:=aD) (t.Zg P w base) (rG.mono (by decide)) t.aN t.bM;have rH:=X1 (g:=Gx.mk P w K mg base) (m:=1) (k:=2) (Z0:=Z0) (Z3:=Z3) (Z1:=Z1) (Z4:=Z4) (Z2:=Z2) (ao:=ao) (aj:=aj) (au:=au) (aq:=aq) (aB:=aB) (aA:=aA) (aF:=aF) (aD:=aD) (t.cj P w base) (Z7.mono (by decide)) (jt.mono (by decide)) (Zb.mono (by decide)) (ZD.mono (by decide)) (ZE.mono (by decide)) t.Z5 t.Z6;have jw:=Zk (g:=Gx.mk P w K mg base) (m:=2) (k:=3) (Z0:=Z0) (Z3:=Z3) (Z1:=Z1) (Z4:=Z4) (Z2:=Z2) (ao:=ao) (aj:=aj) (au:=au) (aq:=aq) (aB:=aB) (aA:=aA) (aF:=aF) (aD:=aD) (t.Zg P w base) (rH.mono (by decide)) t.aN t.bM;have rJ:=X1 (g:=Gx.mk P w K mg base) (m:=2) (k:=3) (Z0:=Z0) (Z3:=Z3) (Z1:=Z1) (Z4:=Z4) (Z2:=Z2) (ao:=ao) (aj:=aj) (au:=au) (aq:=aq) (aB:=aB) (aA:=aA) (aF:=aF) (aD:=aD) (t.cj P w base) (Z7.mono (by decide)) (ju.mono (by decide)) (Zb.mono (by decide)) (ZD.mono (by decide)) (ZE.mono (by decide)) t.Z5 t.Z6;have jx:=Zk (g:=Gx.mk P w K mg base) (m:=3) (k:=4) (Z0:=Z0) (Z3:=Z3) (Z1:=Z1) (Z4:=Z4) (Z2:=Z2) (ao:=ao) (aj:=aj) (au:=au) (aq:=aq) (aB:=aB) (aA:=aA) (aF:=aF) (aD:=aD) (t.Zg P w base) (rJ.mono (by decide)) t.aN t.bM;have rK:=X1 (g:=Gx.mk P w K mg base) (m:=3) (k:=4) (Z0:=Z0) (Z3:=Z3) (Z1:=Z1) (Z4:=Z4) (Z2:=Z2) (ao:=ao) (aj:=aj) (au:=au) (aq:=aq) (aB:=aB) (aA:=aA) (aF:=aF) (aD:=aD) (t.cj P w base) (Z7.mono (by decide)) (jw.mono (by decide)) (Zb.mono (by decide)) (ZD.mono (by decide)) (ZE.mono (by decide)) t.Z5 t.Z6;have jy:=Zk (g:=Gx.mk P w K mg base) (m:=4) (k:=5) (Z0:=Z0) (Z3:=Z3) (Z1:=Z1) (Z4:=Z4) (Z2:=Z2) (ao:=ao) (aj:=aj) (au:=au) (aq:=aq) (aB:=aB) (aA:=aA) (aF:=aF) (aD:=aD) (t.Zg P w base) (rK.mono (by decide)) t.aN t.bM;have rM:=X1 (g:=Gx.mk P w K mg base) (m:=4) (k:=5) (Z0:=Z0) (Z3:=Z3) (Z1:=Z1) (Z4:=Z4) (Z2:=Z2) (ao:=ao) (aj:=aj) (au:=au) (aq:=aq) (aB:=aB) (aA:=aA) (aF:=aF) (aD:=aD) (t.cj P w base) (Z7.mono (by decide)) (jx.mono (by decide)) (Zb.mono (by decide)) (ZD.mono (by decide)) (ZE.mono (by decide)) t.Z5 t.Z6;have jz:=Zk (g:=Gx.mk P w K mg base) (m:=5) (k:=6) (Z0:=Z0) (Z3:=Z3) (Z1:=Z1) (Z4:=Z4) (Z2:=Z2) (ao:=ao) (aj:=aj) (au:=au) (aq:=aq) (aB:=aB) (aA:=aA) (aF:=aF) (aD:=aD) (t.Zg P w base) (rM.mono (by decide)) t.aN t.bM;have rN:=X1 (g:=Gx.mk P w K mg base) (m:=5) (k:=6) (Z0:=Z0) (Z3:=Z3) (Z1:=Z1) (Z4:=Z4) (Z2:=Z2) (ao:=ao) (aj:=aj) (au:=au) (aq:=aq) (aB:=aB) (aA:=aA) (aF:=aF) (aD:=aD) (t.cj P w base) (Z7.mono (by decide)) (jy.mono (by decide)) (Zb.mono (by decide)) (ZD.mono (by decide)) (ZE.mono (by decide)) t.Z5 t.Z6;have jA:=Zk (g:=Gx.mk P w K mg base) (m:=6) (k:=7) (Z0:=Z0) (Z3:=Z3) (Z1:=Z1) (Z4:=Z4) (Z2:=Z2) (ao:=ao) (aj:=aj) (au:=au) (aq:=aq) (aB:=aB) (aA:=aA) (aF:=aF) (aD:=aD) (t.Zg P w base) (rN.mono (by decide)) t.aN t.bM;have rO:=X1 (g:=Gx.mk P w K mg base) (m:=6) (k:=7) (Z0:=Z0) (Z3:=Z3) (Z1:=Z1) (Z4:=Z4) (Z2:=Z2) (ao:=ao) (aj:=aj) (au:=au) (aq:=aq) (aB:=aB) (aA:=aA) (aF:=aF) (aD:=aD) (t.cj P w base) (Z7.mono (by decide)) (jz.mono (by decide)) (Zb.mono (by decide)) (ZD.mono (by decide)) (ZE.mono (by decide)) t.Z5 t.Z6;have Cg:=Zk (g:=Gx.mk P w K mg base) (m:=7) (k:=8) (Z0:=Z0) (Z3:=Z3) (Z1:=Z1) (Z4:=Z4) (Z2:=Z2) (ao:=ao) (aj:=aj) (au:=au) (aq:=aq) (aB:=aB) (aA:=aA) (aF:=aF) (aD:=aD) (t.Zg P w base) (rO.mono (by decide)) t.aN t.bM;have iH:=X1 (g:=Gx.mk P w K mg base) (m:=7) (k:=8) (Z0:=Z0) (Z3:=Z3) (Z1:=Z1) (Z4:=Z4) (Z2:=Z2) (ao:=ao) (aj:=aj) (au:=au) (aq:=aq) (aB:=aB) (aA:=aA) (aF:=aF) (aD:=aD) (t.cj P w base) (Z7.mono (by decide)) (jA.mono (by decide)) (Zb.mono (by decide)) (ZD.mono (by decide)) (ZE.mono (by decide)) t.Z5 t.Z6;have vm:=uE (g:=Gx.mk P w K mg base) (m:=0) (k:=9) (Z0:=Z0) (Z3:=Z3) (Z1:=Z1) (Z4:=Z4) (Z2:=Z2) (ao:=ao) (aj:=aj) (au:=au) (aq:=aq) (aB:=aB) (aA:=aA) (aF:=aF) (aD:=aD) (t.nj P w base) ((t.cX P w base).tW (fun _ _ _ _ h=>HX h)) (by decide) (by decide) ZA (by decide);have jB:=uF (g:=Gx.mk P w K mg base) (m:=0) (k:=10) (Z0:=Z0) (Z3:=Z3) (Z1:=Z1) (Z4:=Z4) (Z2:=Z2) (ao:=ao) (aj:=aj) (au:=au) (aq:=aq) (aB:=aB) (aA:=aA) (aF:=aF) (aD:=aD) (t.ZM P w base) hB cM (Zc.mono (by decide)) (vm.mono (by decide)) t.aN;have Z2w:=ZR (g:=Gx.mk P w K mg base) (m:=0) (k:=10) (Z0:=Z0) (Z3:=Z3) (Z1:=Z1) (Z4:=Z4) (Z2:=Z2) (ao:=ao) (aj:=aj) (au:=au) (aq:=aq) (aB:=aB) (aA:=aA) (aF:=aF) (aD:=aD) (t.Zr P w base) (Z7.mono (by decide)) (vm.mono (by decide)) (by decide);have jC:=uG (g:=Gx.mk P w K mg base) (m:=0) (k:=10) (Z0:=Z0) (Z3:=Z3) (Z1:=Z1) (Z4:=Z4) (Z2:=Z2) (ao:=ao) (aj:=aj) (au:=au) (aq:=aq) (aB:=aB) (aA:=aA) (aF:=aF) (aD:=aD) (t.ZN P w base) (iH.mono (by decide)) ((t.cX P w base).tW (fun _ _ _ _ h=>HX h));have jD:=uH (g:=Gx.mk P w K mg base) (m:=0) (k:=10) (Z0:=Z0) (Z3:=Z3) (Z1:=Z1) (Z4:=Z4) (Z2:=Z2) (ao:=ao) (aj:=aj) (au:=au) (aq:=aq) (aB:=aB) (aA:=aA) (aF:=aF) (aD:=aD) (t.ZO P w base) (Zb.mono (by decide)) (Zc.mono (by decide)) (vm.mono (by decide)) (by decide);have lF:=V8 (g:=Gx.mk P w K mg base) (m:=0) (k:=11) (Z0:=Z0) (Z3:=Z3) (Z1:=Z1) (Z4:=Z4) (Z2:=Z2) (ao:=ao) (aj:=aj) (au:=au) (aq:=aq) (aB:=aB) (aA:=aA) (aF:=aF) (aD:=aD) (t.cX P w base) (Zb.mono (by decide)) (Zi.mono (by decide)) (vm.mono (by decide)) (jB.mono (by decide)) (Z2w.mono (by decide)) (jC.mono (by decide)) (jD.mono (by decide)) (by decide) t.aN;have vo:=uE (g:=Gx.mk P w K mg base) (m:=1) (k:=12) (Z0:=Z0) (Z3:=Z3) (Z1:=Z1) (Z4:=Z4) (Z2:=Z2) (ao:=ao) (aj:=aj) (au:=au) (aq:=aq) (aB:=aB) (aA:=aA) (aF:=aF) (aD:=aD) (t.nj P w base) (lF.mono (by decide)) (by decide) (by decide) ZA (by decide);have jE:=uF (g:=Gx.mk P w K mg base) (m:=1) (k:=13) (Z0:=Z0) (Z3:=Z3) (Z1:=Z1) (Z4:=Z4) (Z2:=Z2) (ao:=ao) (aj:=aj) (au:=au) (aq:=aq) (aB:=aB) (aA:=aA) (aF:=aF) (aD:=aD) (t.ZM P w base) hB cM (Zc.mono (by decide)) (vo.mono (by decide)) t.aN;have Z2x:=ZR (g:=Gx.mk P w K mg base) (m:=1) (k:=13) (Z0:=Z0) (Z3:=Z3) (Z1:=Z1) (Z4:=Z4) (Z2:=Z2) (ao:=ao) (aj:=aj) (au:=au) (aq:=aq) (aB:=aB) (aA:=aA) (aF:=aF) (aD:=aD) (t.Zr P w base) (Z7.mono (by decide)) (vo.mono (by decide)) (by decide);have jF:=uG (g:=Gx.mk P w K mg base) (m:=1) (k:=13) (Z0:=Z0) (Z3:=Z3) (Z1:=Z1) (Z4:=Z4) (Z2:=Z2) (ao:=ao) (aj:=aj) (au:=au) (aq:=aq) (aB:=aB) (aA:=aA) (aF:=aF) (aD:=aD) (t.ZN P w base) (iH.mono (by decide)) (lF.mono (by decide));have jG:=uH (g:=Gx.mk P w K mg base) (m:=1) (k:=13) (Z0:=Z0) (Z3:=Z3) (Z1:=Z1) (Z4:=Z4) (Z2:=Z2) (ao:=ao) (aj:=aj) (au:=au) (aq:=aq) (aB:=aB) (aA:=aA) (aF:=aF) (aD:=aD) (t.ZO P w base) (Zb.mono (by decide)) (Zc.mono (by decide)) (vo.mono (by decide)) (by decide);have lG:=V8 (g:=Gx.mk P w K mg base) (m:=1) (k:=14) (Z0:=Z0) (Z3:=Z3) (Z1:=Z1) (Z4:=Z4) (Z2:=Z2) (ao:=ao) (aj:=aj) (au:=au) (aq:=aq) (aB:=aB) (aA:=aA) (aF:=aF) (aD:=aD) (t.cX P w base) (Zb.mono (by decide)) (Zi.mono (by decide)) (vo.mono (by decide)) (jE.mono (by decide)) (Z2x.mono (by decide)) (jF.mono (by decide)) (jG.mono (by decide)) (by decide) t.aN;have vp:=uE (g:=Gx.mk P w K mg base) (m:=2) (k:=15) (Z0:=Z0) (Z3:=Z3) (Z1:=Z1) (Z4:=Z4) (Z2:=Z2) (ao:=ao) (aj:=aj) (au:=au) (aq:=aq) (aB:=aB) (aA:=aA) (aF:=aF) (aD:=aD) (t.nj P w base) (lG.mono (by decide)) (by decide) (by decide) ZA (by decide);have jH:=uF (g:=Gx.mk P w K mg base) (m:=2) (k:=16) (Z0:=Z0) (Z3:=Z3) (Z1:=Z1) (Z4:=Z4) (Z2:=Z2) (ao:=ao) (aj:=aj) (au:=au) (aq:=aq) (aB:=aB) (aA:=aA) (aF:=aF) (aD:=aD) (t.ZM P w base) hB cM (Zc.mono (by decide)) (vp.mono (by decide)) t.aN;have Z2y:=ZR (g:=Gx.mk P w K mg base) (m:=2) (k:=16) (Z0:=Z0) (Z3:=Z3) (Z1:=Z1) (Z4:=Z4) (Z2:=Z2) (ao:=ao) (aj:=aj) (au:=au) (aq:=aq) (aB:=aB) (aA:=aA) (aF:=aF) (aD:=aD) (t.Zr P w base) (Z7.mono (by decide)) (vp.mono (by decide)) (by decide);have jJ:=uG (g:=Gx.mk P w K mg base) (m:=2) (k:=16) (Z0:=Z0) (Z3:=Z3) (Z1:=Z1) (Z4:=Z4) (Z2:=Z2) (ao:=ao) (aj:=aj) (au:=au) (aq:=aq) (aB:=aB) (aA:=aA) (aF:=aF) (aD:=aD) (t.ZN P w base) (iH.mono (by decide)) (lG.mono (by decide));have jK:=uH (g:=Gx.mk P w K mg base) (m:=2) (k:=16) (Z0:=Z0) (Z3:=Z3) (Z1:=Z1) (Z4:=Z4) (Z2:=Z2) (ao:=ao) (aj:=aj) (au:=au) (aq:=aq) (aB:=aB) (aA:=aA) (aF:=aF) (aD:=aD) (t.ZO P w base) (Zb.mono (by decide)) (Zc.mono (by decide)) (vp.mono (by decide)) (by decide);have lH:=V8 (g:=Gx.mk P w K mg base) (m:=2) (k:=17) (Z0:=Z0) (Z3:=Z3) (Z1:=Z1) (Z4:=Z4) (Z2:=Z2) (ao:=ao) (aj:=aj) (au:=au) (aq:=aq) (aB:=aB) (aA:=aA) (aF:=aF) (aD:=aD) (t.cX P w base) (Zb.mono (by decide)) (Zi.mono (by decide)) (vp.mono (by decide)) (jH.mono (by decide)) (Z2y.mono (by decide)) (jJ.mono (by decide)) (jK.mono (by decide)) (by decide) t.aN;have vq:=uE (g:=Gx.mk P w K mg base) (m:=3) (k:=18) (Z0:=Z0) (Z3:=Z3) (Z1:=Z1) (Z4:=Z4) (Z2:=Z2) (ao:=ao) (aj:=aj) (au:=au) (aq:=aq) (aB:=aB) (aA:=aA) (aF:=aF) (aD:=aD) (t.nj P w base) (lH.mono (by decide)) (by decide) (by decide) ZA (by decide);have jL:=uF (g:=Gx.mk P w K mg base) (m:=3) (k:=19) (Z0:=Z0) (Z3:=Z3) (Z1:=Z1) (Z4:=Z4) (Z2:=Z2) (ao:=ao) (aj:=aj) (au:=au) (aq:=aq) (aB:=aB) (aA:=aA) (aF:=aF) (aD:=aD) (t.ZM P w base) hB cM (Zc.mono (by decide)) (vq.mono (by decide)) t.aN;have Z2z:=ZR (g:=Gx.mk P w K mg base) (m:=3) (k:=19) (Z0:=Z0) (Z3:=Z3) (Z1:=Z1) (Z4:=Z4) (Z2:=Z2) (ao:=ao) (aj:=aj) (au:=au) (aq:=aq) (aB:=aB) (aA:=aA) (aF:=aF) (aD:=aD) (t.Zr P w base) (Z7.mono (by decide)) (vq.mono (by decide)) (by decide);have jM:=uG (g:=Gx.mk P w K mg base) (m:=3) (k:=19) (Z0:=Z0) (Z3:=Z3) (Z1:=Z1) (Z4:=Z4) (Z2:=Z2) (ao:=ao) (aj:=aj) (au:=au) (aq:=aq) (aB:=aB) (aA:=aA) (aF:=aF) (aD:=aD) (t.ZN P w base) (iH.mono (by decide)) (lH.mono (by decide));have jN:=uH (g:=Gx.mk P w K mg base) (m:=3) (k:=19) (Z0:=Z0) (Z3:=Z3) (Z1:=Z1) (Z4:=Z4) (Z2:=Z2) (ao:=ao) (aj:=aj) (au:=au) (aq:=aq) (aB:=aB) (aA:=aA) (aF:=aF) (aD:=aD) (t.ZO P w base) (Zb.mono (by decide)) (Zc.mono (by decide)) (vq.mono (by decide)) (by decide);have BX:=V8 (g:=Gx.mk P w K mg base) (m:=3) (k:=20) (Z0:=Z0) (Z3:=Z3) (Z1:=Z1) (Z4:=Z4) (Z2:=Z2) (ao:=ao) (aj:=aj) (au:=au) (aq:=aq) (aB:=aB) (aA:=aA) (aF:=aF) (aD:=aD) (t.cX P w base) (Zb.mono (by decide)) (Zi.mono (by decide)) (vq.mono (by decide)) (jL.mono (by decide)) (Z2z.mono (by decide)) (jM.mono (by decide)) (jN.mono (by decide)) (by decide) t.aN;have lW:=YaQ (g:=Gx.mk P w K mg base) (k:=21) (Z0:=Z0) (Z3:=Z3) (Z1:=Z1) (Z4:=Z4) (Z2:=Z2) (ao:=ao) (aj:=aj) (au:=au) (aq:=aq) (aB:=aB) (aA:=aA) (aF:=aF) (aD:=aD) (t.Bb P w base) (BX.mono (by decide)) t.dJ t.bJ;have oG:=Ybd (g:=Gx.mk P w K mg base) (k:=22) (Z0:=Z0) (Z3:=Z3) (Z1:=Z1) (Z4:=Z4) (Z2:=Z2) (ao:=ao) (aj:=aj) (au:=au) (aq:=aq) (aB:=aB) (aA:=aA) (aF:=aF) (aD:=aD) (t.Bc P w base) hB lV (lW.mono (by decide));have oH:=Ybe (g:=Gx.mk P w K mg base) (Z0:=Z0) (Z3:=Z3) (Z1:=Z1) (Z4:=Z4) (Z2:=Z2) (ao:=ao) (aj:=aj) (au:=au) (aq:=aq) (aB:=aB) (aA:=aA) (aF:=aF) (aD:=aD) (t.Bd P w base);have BZ:=Ybf (g:=Gx.mk P w K mg base) (k:=1) (Z0:=Z0) (Z3:=Z3) (Z1:=Z1) (Z4:=Z4) (Z2:=Z2) (ao:=ao) (aj:=aj) (au:=au) (aq:=aq) (aB:=aB) (aA:=aA) (aF:=aF) (aD:=aD) (t.Bf P w base) (Z7.mono (by decide)) t.iu t.Z5 t.aN t.aP t.bV t.Z6 (t.je P w base);have Zd:=Z2v (g:=Gx.mk P w K mg base) (k:=1) (Z0:=Z0) (Z3:=Z3) (Z1:=Z1) (Z4:=Z4) (Z2:=Z2) (ao:=ao) (aj:=aj) (au:=au) (aq:=aq) (aB:=aB) (aA:=aA) (aF:=aF) (aD:=aD) (t.Bg P w base) (oH.mono (by decide)) t.aP t.bM (t.je P w base);have Km:=Z2F (g:=Gx.mk P w K mg base) (Z0:=Z0) (Z3:=Z3) (Z1:=Z1) (Z4:=Z4) (Z2:=Z2) (ao:=ao) (aj:=aj) (au:=au) (aq:=aq) (aB:=aB) (aA:=aA) (aF:=aF) (aD:=aD) (t.Bh P w base) t.dW;have oJ:=Ybg (g:=Gx.mk P w K mg base) (k:=1) (Z0:=Z0) (Z3:=Z3) (Z1:=Z1) (Z4:=Z4) (Z2:=Z2) (ao:=ao) (aj:=aj) (au:=au) (aq:=aq) (aB:=aB) (aA:=aA) (aF:=aF) (aD:=aD) (t.Bj P w base) (Km.mono (by decide)) t.aN t.Z6;have Ca:=Ybh (g:=Gx.mk P w K mg base) (k:=2) (Z0:=Z0) (Z3:=Z3) (Z1:=Z1) (Z4:=Z4) (Z2:=Z2) (ao:=ao) (aj:=aj) (au:=au) (aq:=aq) (aB:=aB) (aA:=aA) (aF:=aF) (aD:=aD) (t.Bk P w base) (Km.mono (by decide)) (oJ.mono (by decide)) t.aN t.Z6;have lX:=zL (g:=Gx.mk P w K mg base) (m:=0) (k:=3) (Z0:=Z0) (Z3:=Z3) (Z1:=Z1) (Z4:=Z4) (Z2:=Z2) (ao:=ao) (aj:=aj) (au:=au) (aq:=aq) (aB:=aB) (aA:=aA) (aF:=aF) (aD:=aD) (t.nq P w base) (BZ.mono (by decide)) (Zd.mono (by decide)) (Ca.mono (by decide)) ((t.nq P w base).none (fun _ _ _ _ h=>YcY h));have lY:=zL (g:=Gx.mk P w K mg base) (m:=1) (k:=4) (Z0:=Z0) (Z3:=Z3) (Z1:=Z1) (Z4:=Z4) (Z2:=Z2) (ao:=ao) (aj:=aj) (au:=au) (aq:=aq) (aB:=aB) (aA:=aA) (aF:=aF) (aD:=aD) (t.nq P w base) (BZ.mono (by decide)) (Zd.mono (by decide)) (Ca.mono (by decide)) (lX.mono (by decide));have qy:=zL (g:=Gx.mk P w K mg base) (m:=2) (k:=5) (Z0:=Z0) (Z3:=Z3) (Z1:=Z1) (Z4:=Z4) (Z2:=Z2) (ao:=ao) (aj:=aj) (au:=au) (aq:=aq) (aB:=aB) (aA:=aA) (aF:=aF) (aD:=aD) (t.nq P w base) (BZ.mono (by decide)) (Zd.mono (by decide)) (Ca.mono (by decide)) (lY.mono (by decide));have Cd:=Ygo (g:=Gx.mk P w K mg base) (k:=6) (Z0:=Z0) (Z3:=Z3) (Z1:=Z1) (Z4:=Z4) (Z2:=Z2) (ao:=ao) (aj:=aj) (au:=au) (aq:=aq) (aB:=aB) (aA:=aA) (aF:=aF) (aD:=aD) (t.lD P w base) (qy.mono (by decide));have Ce:=Z27 (g:=Gx.mk P w K mg base) (k:=7) (Z0:=Z0) (Z3:=Z3) (Z1:=Z1) (Z4:=Z4) (Z2:=Z2) (ao:=ao) (aj:=aj) (au:=au) (aq:=aq) (aB:=aB) (aA:=aA) (aF:=aF) (aD:=aD) (t.Bl P w base) (Cd.mono (by decide));have jO:=Z2Q (g:=Gx.mk P w K mg base) (Z0:=Z0) (Z3:=Z3) (Z1:=Z1) (Z4:=Z4) (Z2:=Z2) (ao:=ao) (aj:=aj) (au:=au) (aq:=aq) (aB:=aB) (aA:=aA) (aF:=aF) (aD:=aD) (t.Bo P w base);have Z2T:=Z2G (g:=Gx.mk P w K mg base) (Z0:=Z0) (Z3:=Z3) (Z1:=Z1) (Z4:=Z4) (Z2:=Z2) (ao:=ao) (aj:=aj) (au:=au) (aq:=aq) (aB:=aB) (aA:=aA) (aF:=aF) (aD:=aD) (t.Bp P w base) t.aN t.jf;have Z2A:=Z2i (g:=Gx.mk P w K mg base) (Z0:=Z0) (Z3:=Z3) (Z1:=Z1) (Z4:=Z4) (Z2:=Z2) (ao:=ao) (aj:=aj) (au:=au) (aq:=aq) (aB:=aB) (aA:=aA) (aF:=aF) (aD:=aD) (t.Bq P w base) t.pW;have Z2k:=zW (g:=Gx.mk P w K mg base) (m:=0) (k:=2) (Z0:=Z0) (Z3:=Z3) (Z1:=Z1) (Z4:=Z4) (Z2:=Z2) (ao:=ao) (aj:=aj) (au:=au) (aq:=aq) (aB:=aB) (aA:=aA) (aF:=aF) (aD:=aD) (t.Zn P w base) (Zd.mono (by decide)) ((t.Zn P w base).none (fun _ _ _ _ h=>YgY h));have Z2l:=zW (g:=Gx.mk P w K mg base) (m:=1) (k:=3) (Z0:=Z0) (Z3:=Z3) (Z1:=Z1) (Z4:=Z4) (Z2:=Z2) (ao:=ao) (aj:=aj) (au:=au) (aq:=aq) (aB:=aB) (aA:=aA) (aF:=aF) (aD:=aD) (t.Zn P w base) (Zd.mono (by decide)) (Z2k.mono (by decide));have Z2L:=zW (g:=Gx.mk P w K mg base) (m:=2) (k:=4) (Z0:=Z0) (Z3:=Z3) (Z1:=Z1) (Z4:=Z4) (Z2:=Z2) (ao:=ao) (aj:=aj) (au:=au) (aq:=aq) (aB:=aB) (aA:=aA) (aF:=aF) (aD:=aD) (t.Zn P w base) (Zd.mono (by decide)) (Z2l.mono (by decide));have Z2m:=Z28 (g:=Gx.mk P w K mg base) (Z0:=Z0) (Z3:=Z3) (Z1:=Z1) (Z4:=Z4) (Z2:=Z2) (ao:=ao) (aj:=aj) (au:=au) (aq:=aq) (aB:=aB) (aA:=aA) (aF:=aF) (aD:=aD) (t.Br P w base) t.mU t.ZK t.Zx;have Z2g:=Z1O (g:=Gx.mk P w K mg base) (k:=2) (Z0:=Z0) (Z3:=Z3) (Z1:=Z1) (Z4:=Z4) (Z2:=Z2) (ao:=ao) (aj:=aj) (au:=au) (aq:=aq) (aB:=aB) (aA:=aA) (aF:=aF) (aD:=aD) (t.ZX P w base) Z2m (by decide) t.Za t.Z8 t.Z9;have ZZ:=Z1P (g:=Gx.mk P w K mg base) (k:=5) (Z0:=Z0) (Z3:=Z3) (Z1:=Z1) (Z4:=Z4) (Z2:=Z2) (ao:=ao) (aj:=aj) (au:=au) (aq:=aq) (aB:=aB) (aA:=aA) (aF:=aF) (aD:=aD) (t.ZY P w base) (jO.mono (by decide)) (Z2T.mono (by decide)) (Z2A.mono (by decide)) (Z2L.mono (by decide)) t.aP t.Z6 t.Za t.Z8 t.Z9;have Z1i:=ZC (g:=Gx.mk P w K mg base) (m:=0) (k:=6) (Z0:=Z0) (Z3:=Z3) (Z1:=Z1) (Z4:=Z4) (Z2:=Z2) (ao:=ao) (aj:=aj) (au:=au) (aq:=aq) (aB:=aB) (aA:=aA) (aF:=aF) (aD:=aD) (t.Ze P w base) (Zd.mono (by decide)) ((t.Ze P w base).none (fun _ _ _ _ h=>Dc h)) (ZZ.mono (by decide)) t.Za t.Z8 t.Z9;have Z1j:=ZC (g:=Gx.mk P w K mg base) (m:=1) (k:=7) (Z0:=Z0) (Z3:=Z3) (Z1:=Z1) (Z4:=Z4) (Z2:=Z2) (ao:=ao) (aj:=aj) (au:=au) (aq:=aq) (aB:=aB) (aA:=aA) (aF:=aF) (aD:=aD) (t.Ze P w base) (Zd.mono (by decide)) (Z1i.mono (by decide)) (ZZ.mono (by decide)) t.Za t.Z8 t.Z9;have Z1J:=ZC (g:=Gx.mk P w K mg base) (m:=2) (k:=8) (Z0:=Z0) (Z3:=Z3) (Z1:=Z1) (Z4:=Z4) (Z2:=Z2) (ao:=ao) (aj:=aj) (au:=au) (aq:=aq) (aB:=aB) (aA:=aA) (aF:=aF) (aD:=aD) (t.Ze P w base) (Zd.mono (by decide)) (Z1j.mono (by decide)) (ZZ.mono (by decide)) t.Za t.Z8 t.Z9;have oK:=uX (g:=Gx.mk P w K mg base) (m:=0) (k:=0) (Z0:=Z0) (Z3:=Z3) (Z1:=Z1) (Z4:=Z4) (Z2:=Z2) (ao:=ao) (aj:=aj) (au:=au) (aq:=aq) (aB:=aB) (aA:=aA) (aF:=aF) (aD:=aD) (t.lE P w base) ((t.lE P w base).none (fun _ _ _ _ h=>Yd4 h)) t.cV t.Z5 t.aP t.Z6;have oM:=uX (g:=Gx.mk P w K mg base) (m:=1) (k:=1) (Z0:=Z0) (Z3:=Z3) (Z1:=Z1) (Z4:=Z4) (Z2:=Z2) (ao:=ao) (aj:=aj) (au:=au) (aq:=aq) (aB:=aB) (aA:=aA) (aF:=aF) (aD:=aD) (t.lE P w base) (oK.mono (by decide)) t.cV t.Z5 t.aP t.Z6;have oN:=uX (g:=Gx.mk P w K mg base) (m:=2) (k:=2) (Z0:=Z0) (Z3:=Z3) (Z1:=Z1) (Z4:=Z4) (Z2:=Z2) (ao:=ao) (aj:=aj) (au:=au) (aq:=aq) (aB:=aB) (aA:=aA) (aF:=aF) (aD:=aD) (t.lE P w base) (oM.mono (by decide)) t.cV t.Z5 t.aP t.Z6;have gO:=uX (g:=Gx.mk P w K mg base) (m:=3) (k:=3) (Z0:=Z0) (Z3:=Z3) (Z1:=Z1) (Z4:=Z4) (Z2:=Z2) (ao:=ao) (aj:=aj) (au:=au) (aq:=aq) (aB:=aB) (aA:=aA) (aF:=aF) (aD:=aD) (t.lE P w base) (oN.mono (by decide)) t.cV t.Z5 t.aP t.Z6;have Ko:=Ybi (g:=Gx.mk P w K mg base) (k:=9) (Z0:=Z0) (Z3:=Z3) (Z1:=Z1) (Z4:=Z4) (Z2:=Z2) (ao:=ao) (aj:=aj) (au:=au) (aq:=aq) (aB:=aB) (aA:=aA) (aF:=aF) (aD:=aD) (t.Bs P w base) (gO.mono (by decide)) (Ce.mono (by decide)) Z2g (by decide) (Z1J.mono (by decide)) t.Za t.Z8 t.Z9;have nA:=Ye0 (g:=Gx.mk P w K mg base) (k:=45) (Z0:=Z0) (Z3:=Z3) (Z1:=Z1) (Z4:=Z4) (Z2:=Z2) (ao:=ao) (aj:=aj) (au:=au) (aq:=aq) (aB:=aB) (aA:=aA) (aF:=aF) (aD:=aD) (t.iQ P w base) (gO.mono (by decide)) (by decide);have Kr:=Z2J (g:=Gx.mk P w K mg base) (k:=46) (Z0:=Z0) (Z3:=Z3) (Z1:=Z1) (Z4:=Z4) (Z2:=Z2) (ao:=ao) (aj:=aj) (au:=au) (aq:=aq) (aB:=aB) (aA:=aA) (aF:=aF) (aD:=aD) (t.Bt P w base) (nA.mono (by decide));have lZ:=YaV (g:=Gx.mk P w K mg base) (k:=60) (Z0:=Z0) (Z3:=Z3) (Z1:=Z1) (Z4:=Z4) (Z2:=Z2) (ao:=ao) (aj:=aj) (au:=au) (aq:=aq) (aB:=aB) (aA:=aA) (aF:=aF) (aD:=aD) (t.Bu P w base) (gO.mono (by decide)) (Kr.mono (by decide)) (by decide) t.bK t.cL;have lJ:=Yd9 (g:=Gx.mk P w K mg base) (k:=61) (Z0:=Z0) (Z3:=Z3) (Z1:=Z1) (Z4:=Z4) (Z2:=Z2) (ao:=ao) (aj:=aj) (au:=au) (aq:=aq) (aB:=aB) (aA:=aA) (aF:=aF) (aD:=aD) (t.gM P w base) hB qx (Ce.mono (by decide)) (Ko.mono (by decide)) (lZ.mono (by decide));have qz:=Yc2 (g:=Gx.mk P w K mg base) (k:=47) (Z0:=Z0) (Z3:=Z3) (Z1:=Z1) (Z4:=Z4) (Z2:=Z2) (ao:=ao) (aj:=aj) (au:=au) (aq:=aq) (aB:=aB) (aA:=aA) (aF:=aF) (aD:=aD) (t.Bv P w base) (Ce.mono (by decide)) (nA.mono (by decide)) (Ko.mono (by decide)) (Kr.mono (by decide));have jP:=Z2R (g:=Gx.mk P w K mg base) (k:=62) (Z0:=Z0) (Z3:=Z3) (Z1:=Z1) (Z4:=Z4) (Z2:=Z2) (ao:=ao) (aj:=aj) (au:=au) (aq:=aq) (aB:=aB) (aA:=aA) (aF:=aF) (aD:=aD) (t.Bw P w base) (lJ.mono (by decide)) t.bK t.aZ;have oO:=Ybj (g:=Gx.mk P w K mg base) (Z0:=Z0) (Z3:=Z3) (Z1:=Z1) (Z4:=Z4) (Z2:=Z2) (ao:=ao) (aj:=aj) (au:=au) (aq:=aq) (aB:=aB) (aA:=aA) (aF:=aF) (aD:=aD) (t.BJ P w base) t.dW;have oR:=Ybk (g:=Gx.mk P w K mg base) (Z0:=Z0) (Z3:=Z3) (Z1:=Z1) (Z4:=Z4) (Z2:=Z2) (ao:=ao) (aj:=aj) (au:=au) (aq:=aq) (aB:=aB) (aA:=aA) (aF:=aF) (aD:=aD) (t.BK P w base);have lK:=QZ (g:=Gx.mk P w K mg base) (Z0:=Z0) (Z3:=Z3) (Z1:=Z1) (Z4:=Z4) (Z2:=Z2) (ao:=ao) (aj:=aj) (au:=au) (aq:=aq) (aB:=aB) (aA:=aA) (aF:=aF) (aD:=aD) (t.BL P w base) t.aN;have qC:=Yc4 (g:=Gx.mk P w K mg base) (Z0:=Z0) (Z3:=Z3) (Z1:=Z1) (Z4:=Z4) (Z2:=Z2) (ao:=ao) (aj:=aj) (au:=au) (aq:=aq) (aB:=aB) (aA:=aA) (aF:=aF) (aD:=aD) (t.BP P w base) t.cg t.dR t.Z5 t.aN t.aP;have jQ:=Z2S (g:=Gx.mk P w K mg base) (Z0:=Z0) (Z3:=Z3) (Z1:=Z1) (Z4:=Z4) (Z2:=Z2) (ao:=ao) (aj:=aj) (au:=au) (aq:=aq) (aB:=aB) (aA:=aA) (aF:=aF) (aD:=aD) (t.BR P w base) t.aN;exact Ye3 (g:=Gx.mk P w K mg base) (k:=63) (Z0:=Z0) (Z3:=Z3) (Z1:=Z1) (Z4:=Z4) (Z2:=Z2) (ao:=ao) (aj:=aj) (au:=au) (aq:=aq) (aB:=aB) (aA:=aA) (aF:=aF) (aD:=aD) hB BW (lJ.mono (by decide)) (qz.mono (by decide)) (oG.mono (by decide)) (jQ.mono (by decide)) (oO.mono (by decide)) (oR.mono (by decide)) (lK.mono (by decide)) (qC.mono (by decide)) (jP.mono (by decide)) (by decide) t.Z5 t.aP t.jf hnd
end KW
namespace PySem.W.Fast
theorem tw196360387103192265:True:=⟨⟩
theorem tw11908871035193833631:True:=⟨⟩
theorem tw2639435909063079767:True:=⟨⟩
theorem tw2106441937226392376:True:=⟨⟩
theorem tw15423783344565608758:True:=⟨⟩
theorem tw17867448633522230687:True:=⟨⟩
theorem tw16564693583952968951:True:=⟨⟩
theorem tw13905570516910725696:True:=⟨⟩
theorem tw12395587974332784302:True:=⟨⟩
theorem tw6023355037340179712:True:=⟨⟩
theorem tw9828160411625739076:True:=⟨⟩
theorem tw754913678761821523:True:=⟨⟩
theorem tw10277524240967232993:True:=⟨⟩
theorem tw1177694165188768709:True:=⟨⟩
theorem tw3351800563889151582:True:=⟨⟩
theorem tw13750448252835569436:True:=⟨⟩
theorem tw5639509348396747254:True:=⟨⟩
theorem tw2873114933761842880:True:=⟨⟩
theorem tw8199161501690705091:True:=⟨⟩
theorem tw4222030930289785712:True:=⟨⟩
theorem tw7038087876496259690:True:=⟨⟩
theorem tw16163947866130415942:True:=⟨⟩
theorem tw2297560544257951253:True:=⟨⟩
theorem tw16676165244786955430:True:=⟨⟩
theorem tw13898732345367707094:True:=⟨⟩
theorem tw1885485014321841963:True:=⟨⟩
theorem tw5121882245150556743:True:=⟨⟩
theorem tw2117655053230195753:True:=⟨⟩
theorem tw4437053922478236595:True:=⟨⟩
theorem tw6377572238404410041:True:=⟨⟩
theorem tw11177484068007563089:True:=⟨⟩
theorem tw10594606743284619450:True:=⟨⟩
theorem tw15186616857359020186:True:=⟨⟩
theorem tw10795292522395729592:True:=⟨⟩
theorem tw4232011824471741011:True:=⟨⟩
theorem tw13418821627630601532:True:=⟨⟩
theorem tw414906089398892693:True:=⟨⟩
theorem tw8659881305170119014:True:=⟨⟩
theorem tw9695304938198680843:True:=⟨⟩
theorem tw8909767193715004437:True:=⟨⟩
theorem tw889002755304278207:True:=⟨⟩
theorem tw7577784090288710739:True:=⟨⟩
theorem tw13405435063718683740:True:=⟨⟩
theorem tw3799367806245672129:True:=⟨⟩
theorem tw18287679166192142727:True:=⟨⟩
theorem tw12819303314877872392:True:=⟨⟩
theorem tw2895218175154850563:True:=⟨⟩
theorem tw7607615940559972968:True:=⟨⟩
theorem tw13301665962822302444:True:=⟨⟩
theorem tw5908156476248941020:True:=⟨⟩
theorem tw10792983772212131478:True:=⟨⟩
theorem tw6904148031221419515:True:=⟨⟩
theorem tw8346574187185020049:True:=⟨⟩
theorem tw14767678655066960825:True:=⟨⟩
theorem tw2218590406219841722:True:=⟨⟩
theorem tw10348260822854137858:True:=⟨⟩
theorem tw3695401041474885654:True:=⟨⟩
theorem tw9603077192278932339:True:=⟨⟩
theorem tw9053023344175927536:True:=⟨⟩
theorem tw7563502605498478460:True:=⟨⟩
theorem tw4682850729342264869:True:=⟨⟩
theorem tw9928952457697425116:True:=⟨⟩
theorem tw3757345965129680308:True:=⟨⟩
theorem tw10461880646814008333:True:=⟨⟩
theorem tw11898745268739641418:True:=⟨⟩
theorem tw12191606061739750300:True:=⟨⟩
theorem tw1313705113353210:True:=⟨⟩
theorem tw16577791700696465947:True:=⟨⟩
theorem tw7164303289153558840:True:=⟨⟩
theorem tw7628979874250448660:True:=⟨⟩
theorem tw10243990830300154973:True:=⟨⟩
theorem tw871230805500030425:True:=⟨⟩
theorem tw9937865255468018842:True:=⟨⟩
theorem tw16247530218980737590:True:=⟨⟩
theorem tw9593442716046698910:True:=⟨⟩
theorem tw15355347680773897452:True:=⟨⟩
theorem tw17079936264177183780:True:=⟨⟩
theorem tw6824984004603334293:True:=⟨⟩
theorem tw13864428075430110331:True:=⟨⟩
theorem tw555376204826979791:True:=⟨⟩
theorem tw3853834272278292040:True:=⟨⟩
theorem tw15046343269147223431:True:=⟨⟩
theorem tw11478409434905066447:True:=⟨⟩
theorem tw18291013172535918915:True:=⟨⟩
theorem tw9255826324823307232:True:=⟨⟩
theorem tw5148490306138330875:True:=⟨⟩
theorem tw5440021250968929575:True:=⟨⟩
theorem tw12735005297203061963:True:=⟨⟩
theorem tw12120971506446167850:True:=⟨⟩
theorem tw11077862978994798492:True:=⟨⟩
theorem tw5001799626418405001:True:=⟨⟩
theorem tw13592591115635760582:True:=⟨⟩
theorem tw44711285439468813:True:=⟨⟩
theorem tw7349135987500133548:True:=⟨⟩
theorem tw9126351774008697360:True:=⟨⟩
theorem tw13182375447031896637:True:=⟨⟩
theorem tw549812074901449462:True:=⟨⟩
theorem tw14974339576386405333:True:=⟨⟩
theorem tw7372916040096254939:True:=⟨⟩
theorem tw577567294584929737:True:=⟨⟩
theorem tw11914836845854442513:True:=⟨⟩
theorem tw13285324872187025074:True:=⟨⟩
theorem tw7974655740587867045:True:=⟨⟩
theorem tw9907874951513721745:True:=⟨⟩
theorem tw13568293000066226864:True:=⟨⟩
theorem tw5213052876338975581:True:=⟨⟩
theorem tw5842007716953557996:True:=⟨⟩
theorem tw5628028524414895183:True:=⟨⟩
theorem tw11789788005855089219:True:=⟨⟩
theorem tw3197179719594001069:True:=⟨⟩
theorem tw16202658125722143698:True:=⟨⟩
theorem tw757382697583301739:True:=⟨⟩
theorem tw4080983123949251619:True:=⟨⟩
theorem tw5412318979626502154:True:=⟨⟩
theorem tw10006250206121338219:True:=⟨⟩
theorem tw9217765027538407389:True:=⟨⟩
theorem tw11297801922801612351:True:=⟨⟩
theorem tw267126045481373181:True:=⟨⟩
theorem tw544742412226590523:True:=⟨⟩
theorem tw3343603359159518189:True:=⟨⟩
theorem tw8226966426889693172:True:=⟨⟩
theorem tw16438619349761884536:True:=⟨⟩
theorem tw10884416842303202675:True:=⟨⟩
theorem tw11587565501422560550:True:=⟨⟩
theorem tw6644868111866500330:True:=⟨⟩
theorem tw3098912195081929502:True:=⟨⟩
theorem tw9462122065046338922:True:=⟨⟩
theorem tw7685779055143149515:True:=⟨⟩
theorem tw7315272250277558551:True:=⟨⟩
theorem tw16009805330728826360:True:=⟨⟩
theorem tw17681638535378075212:True:=⟨⟩
theorem tw14090557471812094068:True:=⟨⟩
theorem tw13517903096110519573:True:=⟨⟩
theorem tw3954553822688437065:True:=⟨⟩
theorem tw12534582470463376065:True:=⟨⟩
theorem tw4345665697334982526:True:=⟨⟩
theorem tw6391456290760500305:True:=⟨⟩
theorem tw17940895547826804341:True:=⟨⟩
theorem tw13865160881700600231:True:=⟨⟩
theorem tw9852003354664670718:True:=⟨⟩
theorem tw18410479167835210738:True:=⟨⟩
theorem tw5822996114283643762:True:=⟨⟩
theorem tw11536478990743027374:True:=⟨⟩
theorem tw17071662776511513532:True:=⟨⟩
theorem tw5214442645468929267:True:=⟨⟩
theorem tw11234367634943117188:True:=⟨⟩
theorem tw12725374768744531274:True:=⟨⟩
theorem tw14268142260965842072:True:=⟨⟩
theorem tw13214919911995356545:True:=⟨⟩
theorem tw18225485851660281002:True:=⟨⟩
theorem tw4913935951649434036:True:=⟨⟩
theorem tw18234864590731298922:True:=⟨⟩
theorem tw12534363908720645591:True:=⟨⟩
theorem tw15598604592477747332:True:=⟨⟩
theorem tw8366187141886802361:True:=⟨⟩
theorem tw15667798107388353059:True:=⟨⟩
theorem tw15031775872837918844:True:=⟨⟩
theorem tw8313316061695861467:True:=⟨⟩
theorem tw16955676263604409043:True:=⟨⟩
theorem tw8537636685675052223:True:=⟨⟩
theorem tw1394364324096395951:True:=⟨⟩
theorem tw9733094500064877217:True:=⟨⟩
theorem tw5456855022872415859:True:=⟨⟩
theorem tw12842505957850926934:True:=⟨⟩
theorem tw2598582386154688915:True:=⟨⟩
theorem tw11832026357879427777:True:=⟨⟩
theorem tw5790622075398467597:True:=⟨⟩
theorem tw1669578506433721072:True:=⟨⟩
theorem tw11307081292982719007:True:=⟨⟩
theorem tw5045965759786238900:True:=⟨⟩
theorem tw13640648184072557379:True:=⟨⟩
theorem tw15903695306463888459:True:=⟨⟩
theorem tw223024704721078702:True:=⟨⟩
theorem tw12259011732929180016:True:=⟨⟩
theorem tw6446509578889807619:True:=⟨⟩
theorem tw5042953301301036446:True:=⟨⟩
theorem tw7563486503922083738:True:=⟨⟩
theorem tw16122911266900380292:True:=⟨⟩
theorem tw3950409033637541341:True:=⟨⟩
theorem tw12542904975338863114:True:=⟨⟩
theorem tw1786017539000343632:True:=⟨⟩
theorem tw17618632790820436494:True:=⟨⟩
theorem tw18060955472629436455:True:=⟨⟩
theorem tw18166603668371355602:True:=⟨⟩
theorem tw3854494123904070595:True:=⟨⟩
theorem tw14620641434078939975:True:=⟨⟩
end PySem.W.Fast
open PySem PySem.W PyProof.Rows
set_option maxRecDepth 100000 in
set_option maxHeartbeats 0 in
theorem PySem.Challenge.cw_countgen_k78_whole_rest_told_holds : PySem.Challenge.rw_countgen_k78_whole_rest_told.Holds := by
 w_on;o_law;k_head;(case hw=>w_witness2)
 k_fill
 refine' L2.YeO (l:=PySem.Challenge.rw_countgen_k78_whole_rest_told) (tabs:=[("part_told",981,977),("judge_of",1044,1040),("shrunk",899,895),("law",1085,1083)]) 1085 63 "_law_script" KW.UX ["_law_script","_law_low","_law_way","_law_n","_law_things","_law_first","_law_cell","_law_thing","_law_shape","_law_book","_law_holds","_law_within","_law_kept","_law_asked","_law_found"] rfl rfl ⟨rfl,by decide,by decide,rfl⟩ KW.Xc (fun w h Y=>by first | exact PySem.W.kIn_of Y | exact PySem.W.km_in_of Y) ?tR ?tT ?tN ?F
 case tR=>intro p hp;simp only [List.mem_cons,List.not_mem_nil,or_false] at hp;rcases hp with rfl | rfl | rfl | rfl<;>exact ⟨_,rfl⟩
 case tT=>intro w p hp;simp only [List.mem_cons,List.not_mem_nil,or_false] at hp;rcases hp with rfl | rfl | rfl | rfl<;>kernel_rfl
 case tN=>intro w p hp;simp only [List.mem_cons,List.not_mem_nil,or_false] at hp;rcases hp with rfl | rfl | rfl | rfl<;>kernel_rfl
 case F =>
  intro w mg h KX G;refine' ⟨L2.YcO KX G ?a ?l ?c ?k rfl (fun _ _ _ _ _ _ _ _ => .of_eq rfl),fun base hB hC=>KW.Ye4 ⟨?Aw,?Ax,?Ay,?Az,?ZW,?Ba,?Zt,?Zg,?cj,?nj,?ZM,?Zr,?ZN,?ZO,?cX,?Bb,?Bc,?Bd,?Bf,?Bg,?Bh,?Bj,?Bk,?nq,?lD,?Bl,?Bo,?Bp,?Bq,?Zn,?Br,?ZX,?ZY,?Ze,?lE,?Bs,?iQ,?Bt,?Bu,?gM,?Bv,?Bw,?BJ,?BK,?BL,?BP,?BR,?mU,?ZK,?Zx,?Za,?Z8,?Z9,?je,?iu,?cg,?cV,?pW,?dR,?Z5,?aN,?aP,?jf,?bV,?dW,?Z6,?bM,?fH,?dJ,?bK,?cL,?fJ,?fK,?cR,?cZ,?bJ,?aZ⟩ _ w base hB (hC _ (.head _)) (hC _ (.tail _ (.head _))) (hC _ (.tail _ (.tail _ (.head _)))) (hC _ (.tail _ (.tail _ (.tail _ (.head _))))) (by decide)⟩;(case a=>k_is);(case l=>k_is);(case c=>k_is);(case k=>k_is)
  case Br =>
   refine' L2.FN KX G ["self","book"] ?aC ?mk ?kc ?a ?i ?l ?c ?k (fun _ _ _ _ _ _ us hl=>by obtain ⟨_,_,rfl⟩:=KW.cG hl;rfl);(case aC=>k_is);(case mk=>k_is);(case kc=>k_is);(case a=>k_is);(case i=>k_is);(case l=>k_is);(case c=>k_is);(case k=>k_is)
  case ZX =>
   refine' L2.FN KX G ["self","book"] ?aC ?mk ?kc ?a ?i ?l ?c ?k (fun _ _ _ _ _ _ us hl=>by obtain ⟨_,_,rfl⟩:=KW.cG hl;rfl);(case aC=>k_is);(case mk=>k_is);(case kc=>k_is);(case a=>k_is);(case i=>k_is);(case l=>k_is);(case c=>k_is);(case k=>k_is)
  case Aw =>
   refine' L2.YC KX G ["thing"] ?a ?l ?c ?k (fun _ _ _ _ _ _ us hl=>by obtain ⟨_,rfl⟩:=KW.d7 hl;rfl);(case a=>k_is);(case l=>k_is);(case c=>k_is);(case k=>k_is)
  case Ax =>
   refine' L2.YC KX G ["thing"] ?a ?l ?c ?k (fun _ _ _ _ _ _ us hl=>by obtain ⟨_,rfl⟩:=KW.d7 hl;rfl);(case a=>k_is);(case l=>k_is);(case c=>k_is);(case k=>k_is)
  case Ay =>
   refine' L2.YC KX G ["thing"] ?a ?l ?c ?k (fun _ _ _ _ _ _ us hl=>by obtain ⟨_,rfl⟩:=KW.d7 hl;rfl);(case a=>k_is);(case l=>k_is);(case c=>k_is);(case k=>k_is)
  case Az =>
   refine' L2.YC KX G ["thing"] ?a ?l ?c ?k (fun _ _ _ _ _ _ us hl=>by obtain ⟨_,rfl⟩:=KW.d7 hl;rfl);(case a=>k_is);(case l=>k_is);(case c=>k_is);(case k=>k_is)
  case ZW =>
   refine' L2.YC KX G ["thing"] ?a ?l ?c ?k (fun _ _ _ _ _ _ us hl=>by obtain ⟨_,rfl⟩:=KW.d7 hl;rfl);(case a=>k_is);(case l=>k_is);(case c=>k_is);(case k=>k_is)
  case Ba =>
   refine' L2.YC KX G ["thing"] ?a ?l ?c ?k (fun _ _ _ _ _ _ us hl=>by obtain ⟨_,rfl⟩:=KW.d7 hl;rfl);(case a=>k_is);(case l=>k_is);(case c=>k_is);(case k=>k_is)
  case Zt =>
   refine' L2.YC KX G ["thing"] ?a ?l ?c ?k (fun _ _ _ _ _ _ us hl=>by obtain ⟨_,rfl⟩:=KW.d7 hl;rfl);(case a=>k_is);(case l=>k_is);(case c=>k_is);(case k=>k_is)
  case Zg =>
   refine' L2.YC KX G ["one","other"] ?a ?l ?c ?k (fun _ _ _ _ _ _ us hl=>by obtain ⟨_,_,rfl⟩:=KW.cG hl;rfl);(case a=>k_is);(case l=>k_is);(case c=>k_is);(case k=>k_is)
  case cj =>
   refine' L2.YC KX G ["one","other"] ?a ?l ?c ?k (fun _ _ _ _ _ _ us hl=>by obtain ⟨_,_,rfl⟩:=KW.cG hl;rfl);(case a=>k_is);(case l=>k_is);(case c=>k_is);(case k=>k_is)
  case nj =>
   refine' L2.YC KX G ["mark","term","thing","can_take"] ?a ?l ?c ?k (fun _ _ _ _ _ _ us hl=>by obtain ⟨_,_,_,_,rfl⟩:=KW.jl hl;rfl);(case a=>k_is);(case l=>k_is);(case c=>k_is);(case k=>k_is)
  case ZM =>
   refine' L2.Qk KX G ["body","thing"] ?a ?l ?c ?k ?e (fun _ _ _ _ _ _ us hl=>by obtain ⟨_,_,rfl⟩:=KW.cG hl;rfl);(case a=>k_is);(case l=>k_is);(case c=>k_is);(case k=>k_is);(case e=>rfl)
  case Zr =>
   refine' L2.YC KX G ["mark","body","thing"] ?a ?l ?c ?k (fun _ _ _ _ _ _ us hl=>by obtain ⟨_,_,_,rfl⟩:=KW.gj hl;rfl);(case a=>k_is);(case l=>k_is);(case c=>k_is);(case k=>k_is)
  case ZN =>
   refine' L2.YC KX G ["body","thing"] ?a ?l ?c ?k (fun _ _ _ _ _ _ us hl=>by obtain ⟨_,_,rfl⟩:=KW.cG hl;rfl);(case a=>k_is);(case l=>k_is);(case c=>k_is);(case k=>k_is)
  case ZO =>
   refine' L2.YC KX G ["body","thing"] ?a ?l ?c ?k (fun _ _ _ _ _ _ us hl=>by obtain ⟨_,_,rfl⟩:=KW.cG hl;rfl);(case a=>k_is);(case l=>k_is);(case c=>k_is);(case k=>k_is)
  case cX =>
   refine' L2.YC KX G ["term","thing"] ?a ?l ?c ?k (fun _ _ _ _ _ _ us hl=>by obtain ⟨_,_,rfl⟩:=KW.cG hl;rfl);(case a=>k_is);(case l=>k_is);(case c=>k_is);(case k=>k_is)
  case Bb =>
   refine' L2.YC KX G ["term","thing"] ?a ?l ?c ?k (fun _ _ _ _ _ _ us hl=>by obtain ⟨_,_,rfl⟩:=KW.cG hl;rfl);(case a=>k_is);(case l=>k_is);(case c=>k_is);(case k=>k_is)
  case Bc =>
   refine' L2.Qk KX G ["term"] ?a ?l ?c ?k ?e (fun _ _ _ _ _ _ us hl=>by obtain ⟨_,rfl⟩:=KW.d7 hl;rfl);(case a=>k_is);(case l=>k_is);(case c=>k_is);(case k=>k_is);(case e=>rfl)
  case Bd =>
   refine' L2.YC KX G ["book","name"] ?a ?l ?c ?k (fun _ _ _ _ _ _ us hl=>by obtain ⟨_,_,rfl⟩:=KW.cG hl;rfl);(case a=>k_is);(case l=>k_is);(case c=>k_is);(case k=>k_is)
  case Bf =>
   refine' L2.YC KX G ["shape","value"] ?a ?l ?c ?k (fun _ _ _ _ _ _ us hl=>by obtain ⟨_,_,rfl⟩:=KW.cG hl;rfl);(case a=>k_is);(case l=>k_is);(case c=>k_is);(case k=>k_is)
  case Bg =>
   refine' L2.YC KX G ["book","shape","value"] ?a ?l ?c ?k (fun _ _ _ _ _ _ us hl=>by obtain ⟨_,_,_,rfl⟩:=KW.gj hl;rfl);(case a=>k_is);(case l=>k_is);(case c=>k_is);(case k=>k_is)
  case Bh =>
   refine' L2.YC KX G ["keys"] ?a ?l ?c ?k (fun _ _ _ _ _ _ us hl=>by obtain ⟨_,rfl⟩:=KW.d7 hl;rfl);(case a=>k_is);(case l=>k_is);(case c=>k_is);(case k=>k_is)
  case Bj =>
   refine' L2.YC KX G ["shape","keys"] ?a ?l ?c ?k (fun _ _ _ _ _ _ us hl=>by obtain ⟨_,_,rfl⟩:=KW.cG hl;rfl);(case a=>k_is);(case l=>k_is);(case c=>k_is);(case k=>k_is)
  case Bk =>
   refine' L2.YC KX G ["shape","value","keys"] ?a ?l ?c ?k (fun _ _ _ _ _ _ us hl=>by obtain ⟨_,_,_,rfl⟩:=KW.gj hl;rfl);(case a=>k_is);(case l=>k_is);(case c=>k_is);(case k=>k_is)
  case nq =>
   refine' L2.YC KX G ["book","shape","value"] ?a ?l ?c ?k (fun _ _ _ _ _ _ us hl=>by obtain ⟨_,_,_,rfl⟩:=KW.gj hl;rfl);(case a=>k_is);(case l=>k_is);(case c=>k_is);(case k=>k_is)
  case lD =>
   refine' L2.YC KX G ["book","shape","value"] ?a ?l ?c ?k (fun _ _ _ _ _ _ us hl=>by obtain ⟨_,_,_,rfl⟩:=KW.gj hl;rfl);(case a=>k_is);(case l=>k_is);(case c=>k_is);(case k=>k_is)
  case Bl =>
   refine' L2.YC KX G ["book","shape","value"] ?a ?l ?c ?k (fun _ _ _ _ _ _ us hl=>by obtain ⟨_,_,_,rfl⟩:=KW.gj hl;rfl);(case a=>k_is);(case l=>k_is);(case c=>k_is);(case k=>k_is)
  case Bo =>
   refine' L2.YC KX G ["low","value"] ?a ?l ?c ?k (fun _ _ _ _ _ _ us hl=>by obtain ⟨_,_,rfl⟩:=KW.cG hl;rfl);(case a=>k_is);(case l=>k_is);(case c=>k_is);(case k=>k_is)
  case Bp =>
   refine' L2.YC KX G ["things"] ?a ?l ?c ?k (fun _ _ _ _ _ _ us hl=>by obtain ⟨_,rfl⟩:=KW.d7 hl;rfl);(case a=>k_is);(case l=>k_is);(case c=>k_is);(case k=>k_is)
  case Bq =>
   refine' L2.YC KX G ["things","inner"] ?a ?l ?c ?k (fun _ _ _ _ _ _ us hl=>by obtain ⟨_,_,rfl⟩:=KW.cG hl;rfl);(case a=>k_is);(case l=>k_is);(case c=>k_is);(case k=>k_is)
  case Zn =>
   refine' L2.YC KX G ["book","use","shape","value"] ?a ?l ?c ?k (fun _ _ _ _ _ _ us hl=>by obtain ⟨_,_,_,_,rfl⟩:=KW.jl hl;rfl);(case a=>k_is);(case l=>k_is);(case c=>k_is);(case k=>k_is)
  case ZY =>
   refine' L2.FJ KX G ["self","shape","value","inner"] ?a ?i ?l ?c ?k (fun _ _ _ _ _ _ us hl=>by obtain ⟨_,_,_,_,rfl⟩:=KW.jl hl;rfl);(case a=>k_is);(case i=>k_is);(case l=>k_is);(case c=>k_is);(case k=>k_is)
  case Ze =>
   refine' L2.FJ KX G ["self","shape","value"] ?a ?i ?l ?c ?k (fun _ _ _ _ _ _ us hl=>by obtain ⟨_,_,_,rfl⟩:=KW.gj hl;rfl);(case a=>k_is);(case i=>k_is);(case l=>k_is);(case c=>k_is);(case k=>k_is)
  case lE =>
   refine' L2.YC KX G ["thing"] ?a ?l ?c ?k (fun _ _ _ _ _ _ us hl=>by obtain ⟨_,rfl⟩:=KW.d7 hl;rfl);(case a=>k_is);(case l=>k_is);(case c=>k_is);(case k=>k_is)
  case Bs =>
   refine' L2.YC KX G ["book","shape","value"] ?a ?l ?c ?k (fun _ _ _ _ _ _ us hl=>by obtain ⟨_,_,_,rfl⟩:=KW.gj hl;rfl);(case a=>k_is);(case l=>k_is);(case c=>k_is);(case k=>k_is)
  case iQ =>
   refine' L2.YC KX G ["judge","value"] ?a ?l ?c ?k (fun _ _ _ _ _ _ us hl=>by obtain ⟨_,_,rfl⟩:=KW.cG hl;rfl);(case a=>k_is);(case l=>k_is);(case c=>k_is);(case k=>k_is)
  case Bt =>
   refine' L2.YC KX G ["judge","values"] ?a ?l ?c ?k (fun _ _ _ _ _ _ us hl=>by obtain ⟨_,_,rfl⟩:=KW.cG hl;rfl);(case a=>k_is);(case l=>k_is);(case c=>k_is);(case k=>k_is)
  case Bu =>
   refine' L2.YC KX G ["judge","value","values_next"] ?a ?l ?c ?k (fun _ _ _ _ _ _ us hl=>by obtain ⟨_,_,_,rfl⟩:=KW.gj hl;rfl);(case a=>k_is);(case l=>k_is);(case c=>k_is);(case k=>k_is)
  case gM =>
   refine' L2.Qk KX G ["book","shape","judge","value"] ?a ?l ?c ?k ?e (fun _ _ _ _ _ _ us hl=>by obtain ⟨_,_,_,_,rfl⟩:=KW.jl hl;rfl);(case a=>k_is);(case l=>k_is);(case c=>k_is);(case k=>k_is);(case e=>rfl)
  case Bv =>
   refine' L2.YC KX G ["book","shape","judge","value"] ?a ?l ?c ?k (fun _ _ _ _ _ _ us hl=>by obtain ⟨_,_,_,_,rfl⟩:=KW.jl hl;rfl);(case a=>k_is);(case l=>k_is);(case c=>k_is);(case k=>k_is)
  case Bw =>
   refine' L2.YC KX G ["_law_book","_law_shape","_law_holds","_law_value"] ?a ?l ?c ?k (fun _ _ _ _ _ _ us hl=>by obtain ⟨_,_,_,_,rfl⟩:=KW.jl hl;rfl);(case a=>k_is);(case l=>k_is);(case c=>k_is);(case k=>k_is)
  case BJ =>
   refine' L2.YC KX G ["_law_low","_law_things"] ?a ?l ?c ?k (fun _ _ _ _ _ _ us hl=>by obtain ⟨_,_,rfl⟩:=KW.cG hl;rfl);(case a=>k_is);(case l=>k_is);(case c=>k_is);(case k=>k_is)
  case BK =>
   refine' L2.YC KX G ["_law_way","_law_low","_law_n"] ?a ?l ?c ?k (fun _ _ _ _ _ _ us hl=>by obtain ⟨_,_,_,rfl⟩:=KW.gj hl;rfl);(case a=>k_is);(case l=>k_is);(case c=>k_is);(case k=>k_is)
  case BL =>
   refine' L2.YC KX G ["_law_way","_law_low","_law_n","_law_things"] ?a ?l ?c ?k (fun _ _ _ _ _ _ us hl=>by obtain ⟨_,_,_,_,rfl⟩:=KW.jl hl;rfl);(case a=>k_is);(case l=>k_is);(case c=>k_is);(case k=>k_is)
  case BP =>
   refine' L2.YC KX G ["_law_way","_law_low","_law_n","_law_things"] ?a ?l ?c ?k (fun _ _ _ _ _ _ us hl=>by obtain ⟨_,_,_,_,rfl⟩:=KW.jl hl;rfl);(case a=>k_is);(case l=>k_is);(case c=>k_is);(case k=>k_is)
  case BR =>
   refine' L2.YC KX G ["_law_script","_law_k"] ?a ?l ?c ?k (fun _ _ _ _ _ _ us hl=>by obtain ⟨_,_,rfl⟩:=KW.cG hl;rfl);(case a=>k_is);(case l=>k_is);(case c=>k_is);(case k=>k_is)
  case mU =>
   refine' ⟨?a,?b,?c,?d⟩;(case a=>k_is);(case b=>k_is);(case c=>k_is);(case d=>k_is)
  case ZK =>
   refine' L2.W2 ?a;(case a=>k_is)
  case Zx =>
   refine' L2.W2 ?a;(case a=>k_is)
  case Za =>
   refine' ⟨?a,?b,?c,?d⟩;(case a=>k_is);(case b=>k_is);(case c=>k_is);(case d=>k_is)
  case Z8 =>
   refine' L2.W2 ?a;(case a=>k_is)
  case Z9 =>
   refine' L2.W2 ?a;(case a=>k_is)
  case je =>
   refine' L2.Rb KX G ?a ?l ?z ?r;(case a=>k_is);(case l=>k_is);(case z=>decide);(case r=>exact (.cons ⟨_,rfl⟩ (.cons ⟨_,rfl⟩ (.cons ⟨_,rfl⟩ .nil))))
  case iu =>
   refine' PySem.W.mg_none_of KX G ?a;(case a=>k_is)
  case cg =>
   refine' PySem.W.mg_none_of KX G ?a;(case a=>k_is)
  case cV =>
   refine' PySem.W.mg_none_of KX G ?a;(case a=>k_is)
  case pW =>
   refine' PySem.W.mg_none_of KX G ?a;(case a=>k_is)
  case dR =>
   refine' PySem.W.mg_none_of KX G ?a;(case a=>k_is)
  case Z5 =>
   refine' PySem.W.mg_none_of KX G ?a;(case a=>k_is)
  case aN =>
   refine' PySem.W.mg_none_of KX G ?a;(case a=>k_is)
  case aP =>
   refine' PySem.W.mg_none_of KX G ?a;(case a=>k_is)
  case jf =>
   refine' PySem.W.mg_none_of KX G ?a;(case a=>k_is)
  case bV =>
   refine' PySem.W.mg_none_of KX G ?a;(case a=>k_is)
  case dW =>
   refine' PySem.W.mg_none_of KX G ?a;(case a=>k_is)
  case Z6 =>
   refine' PySem.W.mg_none_of KX G ?a;(case a=>k_is)
  case bM =>
   refine' PySem.W.mg_none_of KX G ?a;(case a=>k_is)
  case fH =>
   refine' PySem.W.mg_of KX G ?a;(case a=>k_is)
  case dJ =>
   refine' PySem.W.mg_of KX G ?a;(case a=>k_is)
  case bK =>
   refine' PySem.W.mg_of KX G ?a;(case a=>k_is)
  case fJ =>
   refine' L2.T5 KX G ["self","mark"] ?aC ?a ?o ?i ?l ?c ?k (fun _ _ _ _ _ _ us hl=>by obtain ⟨_,_,rfl⟩:=KW.cG hl;rfl);(case aC=>k_is);(case a=>k_is);(case o=>kernel_rfl);(case i=>k_is);(case l=>k_is);(case c=>k_is);(case k=>k_is)
  case fK =>
   refine' ⟨?a,?b,?c⟩;(case a=>k_is);(case b=>kernel_rfl);(case c=>k_is)
  case cR=>k_is
  case cZ =>
   refine' L2.YeL KX G ?a ?b ?c ?d;(case a=>k_is);(case b=>k_is);(case c=>k_is);(case d=>k_is)
  case cL=>k_exc
  case bJ=>kts_exm
  case aZ=>kts_exm
