import PyProof.Rows.All
import Wide.All
import OpenK.AllK
import Wide.FinOn
import Lean
import PyProof.EqAt
import PyProof.EqKinds
import PyProof.TupleCall
import PyProof.NeData
import KE.KTryMore
import PyProof.ExcBaseAll.ValueError
import PyProof.ExcArgsOwn
import KE.KIntText
import PyProof.Rows.SetFrom
import PyProof.SetRoads
import PyProof.StrWalks
import PyProof.ListStr
import PyProof.Rows.StrSplitCount
import PyProof.MeetsStr
import PyProof.MeetsStr2
import PyProof.StrOps2
import KE.KTryOn
import OpenK.KMake
import PyProof.ReprRoads
import PyProof.ReprLen
import PyProof.StrLawsRepr
import PyProof.CallFns
import KE.KSortTup
import PyProof.StrCalls6
import PyProof.MeetsStr3
import PyProof.CollectIter
import PySem.Challenge.RW_countgen_k94_whole_deeds_to_rest
set_option compiler.extract_closed false
set_option Elab.async false
set_option linter.all false
set_option maxRecDepth 100000
namespace L2
open PySem PySem.Spec PyProof.Rows
abbrev Key:=Sum Int Str
def VN:Key->Value->Bool
 | .inl k,v=>Value.isInt k v
 | .inr x,v=>Value.isStrOf x v
def LK (w:World):Key->Int
 | .inl k=>hashInt k
 | .inr x=>hashStr w x
theorem Xm:∀ {k:Key} {v:Value},VN k v=true->(∃ i t,k=Sum.inl i/\v=Value.int i t)\/(∃ x t,k=Sum.inr x/\v=Value.str x t)
 | .inl i,v,h=>by
  obtain ⟨t,e⟩:=Value.isInt_shape (k:=i) (v:=v) h;exact .inl ⟨i,t,rfl,e⟩
 | .inr x,v,h=>by
  obtain ⟨t,e⟩:=Value.isStrOf_shape (x:=x) (v:=v) h;exact .inr ⟨x,t,rfl,e⟩
theorem Nv (i:Int) (t:Tok):VN (.inl i) (.int i t)=true:=by simp [VN,Value.isInt]
theorem Nx (x:Str) (t:Tok):VN (.inr x) (.str x t)=true:=by simp [VN,Value.isStrOf]
theorem Ny (a b:Int):decide ((Sum.inl a:Key)=Sum.inl b)=(a==b):=by
 by_cases e:a=b
 ·subst e;simp
 ·have h:¬ (Sum.inl a:Key)=Sum.inl b:=fun q=>e (Sum.inl.inj q)
  rw [decide_eq_false h];exact (beq_eq_false_iff_ne.mpr e).symm
theorem Nz (a b:Str):decide ((Sum.inr a:Key)=Sum.inr b)=decide (a=b):=by
 by_cases e:a=b
 ·subst e;simp
 ·have h:¬ (Sum.inr a:Key)=Sum.inr b:=fun q=>e (Sum.inr.inj q)
  rw [decide_eq_false h,decide_eq_false e]
theorem NK (a:Int) (b:Str):decide ((Sum.inl a:Key)=Sum.inr b)=false:=decide_eq_false (fun q=>nomatch q)
theorem NP (a:Str) (b:Int):decide ((Sum.inr a:Key)=Sum.inl b)=false:=decide_eq_false (fun q=>nomatch q)
def XY (prog:Program) (w:World):PySem.KeyKind prog w Key where
 is:=VN
 hash:=LK w
 inj:=fun v a b ha hb=>by
  rcases Xm ha with ⟨i,t,rfl,rfl⟩ | ⟨x,t,rfl,rfl⟩
  ·rcases Xm hb with ⟨j,u,rfl,e⟩ | ⟨y,u,rfl,e⟩
   ·injection e with e1 _;rw [e1]
   ·exact nomatch e
  ·rcases Xm hb with ⟨j,u,rfl,e⟩ | ⟨y,u,rfl,e⟩
   ·exact nomatch e
   ·injection e with e1 _;rw [e1]
 byValue:=fun k v h=>by
  rcases Xm h with ⟨i,t,rfl,rfl⟩ | ⟨x,t,rfl,rfl⟩<;>rfl
 pyHash:=fun hv h=>by
  rcases Xm hv with ⟨i,t,rfl,rfl⟩ | ⟨x,t,rfl,rfl⟩
  ·exact wpAny_pyHash_int h
  ·exact wpAny_pyHash_str h
 eqBool:=fun hu hv h=>by
  rcases Xm hu with ⟨i,t,rfl,rfl⟩ | ⟨x,t,rfl,rfl⟩
  ·rcases Xm hv with ⟨j,u,rfl,rfl⟩ | ⟨y,u,rfl,rfl⟩
   ·rw [Ny] at h;exact wpAny_eqBool_int h
   ·rw [NK] at h;exact SeqAt.EqAt.int_str i t y u _ _ _ _ h
  ·rcases Xm hv with ⟨j,u,rfl,rfl⟩ | ⟨y,u,rfl,rfl⟩
   ·rw [NP] at h;exact SeqAt.EqAt.str_int x t j u _ _ _ _ h
   ·rw [Nz] at h;exact wpAny_eqBool_str h
 «strs»:=fun k x t v h=>by
  rcases Xm h with ⟨i,u,rfl,e⟩ | ⟨y,u,rfl,e⟩
  ·exact nomatch e
  ·injection e with e1 _
   subst e1
   cases v<;>rfl
theorem NQ (prog:Program) (w:World) (i:Int) (t:Tok):(XY prog w).is (.inl i) (.int i t)=true:=Nv i t
theorem NT (prog:Program) (w:World) (x:Str) (t:Tok):(XY prog w).is (.inr x) (.str x t)=true:=Nx x t
inductive V where
 | non | bl (b:Bool) | int (i:Int) | str (x:Str) | eY (b:Array UInt8) | flt (b:UInt64) | ref (a:Addr) | ty (n:String)
 deriving DecidableEq
def YF:V->Value->Prop
 | .non,u=>u=Value.none
 | .bl b,u=>u=Value.bool b
 | .int i,u=>∃ t,u=Value.int i t
 | .str x,u=>∃ t,u=Value.str x t
 | .eY b,u=>∃ t,u=Value.bytes b t
 | .flt b,u=>∃ t,u=Value.float b t
 | .ref a,u=>u=Value.ref a
 | .ty n,u=>u=Value.type n
abbrev Yw:List V->List Value->Prop:=Paired YF
theorem Yw.length {xs:List V} {us:List Value} (r:Yw xs us):xs.length=us.length:=Paired.length r
theorem Yw.get:∀ {xs:List V} {us:List Value} {i:Nat} {x:V},Yw xs us->xs[i]?=some x->∃ u,us[i]?=some u/\YF x u
 | _,_,_,_,.nil,e=>by simp at e
 | _,_,0,_,.cons r _,e=>by simp at e;subst e;exact ⟨_,rfl,r⟩
 | _,_,i+1,x,.cons _ t,e=>by
  obtain ⟨u,h1,h2⟩:=Yw.get (i:=i) (x:=x) t (by simpa using e);exact ⟨u,by simpa using h1,h2⟩
theorem Yw.set {x:V} {u:Value} (r:YF x u):∀ {xs:List V} {us:List Value} (i:Nat),Yw xs us->Yw (xs.set i x) (us.set i u)
 | _,_,_,.nil => .nil
 | _,_,0,.cons _ t => .cons r t
 | _,_,i+1,.cons q t => .cons q (Yw.set r i t)
theorem Yw.append:∀ {xs ys:List V} {us ws:List Value},Yw xs us->Yw ys ws->Yw (xs++ys) (us++ws)
 | _,_,_,_,.nil,s=>s
 | _,_,_,_,.cons r t,s => .cons r (Yw.append t s)
theorem Yw.take:∀ {xs:List V} {us:List Value} (n:Nat),Yw xs us->Yw (xs.take n) (us.take n)
 | _,_,0,_ => .nil
 | _,_,_+1,.nil => .nil
 | _,_,n+1,.cons r t => .cons r (Yw.take n t)
theorem Yw.drop:∀ {xs:List V} {us:List Value} (n:Nat),Yw xs us->Yw (xs.drop n) (us.drop n)
 | _,_,0,r=>r
 | _,_,_+1,.nil => .nil
 | _,_,n+1,.cons _ t=>Yw.drop n t
def W4:Option V->Option Value->Prop
 | some v,some u=>YF v u
 | none,none=>True
 | _,_=>False
def KV {κ:Type}:List (κ×V)->List (κ×Value)->Prop:=Paired fun (p:κ×V) (q:κ×Value)=>p.1=q.1/\YF p.2 q.2
def kV:Key->V
 | .inl i => .int i
 | .inr x => .str x
inductive HO where
 /-- a list -/
 | lst (xs:List V)
 /-- a tuple (never changes) -/
 | tup (xs:List V)
 /-- a dict whose keys are ints and texts;one whose keys are tuples of ints and texts (the empty one is both) -/
 | dK (kvs:List (Key×V)) | dT (kvs:List (List Key×V))
 /-- a set of ints: its members,its size -/
 | set (S:Int->Bool) (n:Nat)
 /-- an instance of the class at C,its dict at dx,its attributes -/
 | ins (C dx:Addr) (fs:List (Str×V))
 /-- the dict of the instance at x -/
 | own (x:Addr)
 /-- the dict of an exception -/
 | xd (fs:List (Str×V))
 /-- a bound method,f of x -/
 | met (f x:Addr)
 /-- a range object lo,lo+1,.. below hi -/
 | rng (lo hi:Int)
 /-- a thing that is known to the object (the script;a dict while a loop walks it): read,never written while it is so -/
 | bH (o:Obj) (u:HO)
 /-- a code object's table -/
 | aU (ps:Array Value)
 /-- any other thing,by what is true of its one object (a def of one's own: LQ a S n:=HO.ext fun h => ..) -/
 | ext (φ:Heap->Prop)
abbrev Hp:=Addr->Option HO
def upd (H:Hp) (a:Addr) (o:HO):Hp:=fun b=>if b=a then some o else H b
theorem Yc {H:Hp} {a:Addr} {o:HO}:upd H a o a=some o:=by unfold upd;rw [if_pos rfl]
theorem Yg {H:Hp} {a b:Addr} {o:HO} (h:b≠a):upd H a o b=H b:=by unfold upd;rw [if_neg h]
theorem YG {H:Hp} {a b:Addr} {o u:HO} (h:H a=some o) (h':H b=some u) (d:o≠u):a≠b:=by
 intro e;subst e;rw [h] at h';exact d (Option.some.inj h')
theorem Yj {H:Hp} {a b:Addr} {o:HO} (h:H a=some o) (h':H b=none):a≠b:=by
 intro e;subst e;rw [h] at h';cases h'
section
variable (P:Program) (w:World)
def YZ (H:Hp) (h:Heap) (a:Addr):HO->Prop
 | .lst xs=>xs.length<=sizeLine/\∃ (its:List Value) (n:Nat),Yw xs its/\h.get? a=some { cls := .type "list",data := .seq its.toArray n }
 | .tup xs=>xs.length<=sizeLine/\∃ its:List Value,Yw xs its/\IsTup h a its.toArray
 | .dK kvs=>kvs.length<=sizeLine/\(a==sysModules)=false/\∃ vs,KV kvs vs/\h.DictOf (XY P w) a vs
 | .dT kvs=>kvs.length<=sizeLine/\(a==sysModules)=false/\∃ xs:List (List Key×Addr×Value),
   Paired (fun (p:List Key×V) (q:List Key×Addr×Value)=>p.1=q.1/\H q.2.1=some (.tup (p.1.map kV))/\YF p.2 q.2.2) kvs xs /\
   ∃ o es ep,h.get? a=some o/\o.ExactDict/\o.data = .dict es ep/\es.toList=xs.map (entryOfKey (tupleKind (XY P w)))/\(xs.map (·.1)).Nodup
 | .set S n=>h.SetOf (intKind P w) a S n
 | .ins C dx fs=>H dx=some (.own a)/\fs.length<=1000/\dx≠a/\h.get? a=some (W.instObj C dx) /\
   ∃ mA,h.Ns1 dx mA/\(∀ f,W4 (fs.lookup f) (mA f))/\PySem.Within mA (fs.map (·.1))
 | .own _=>∃ o,h.get? a=some o
 | .xd fs=>∃ mA,h.Ns1 a mA/\∀ f,W4 (fs.lookup f) (mA f)
 | .rng lo hi=>∃ t u v,h.get? a=some { cls := .type "range",data := .fields #[.int lo t,.int hi u,.int 1 v] }
 | .bH o u=>h.get? a=some o/\YZ H h a u
 | .aU ps=>h.get? a=some { cls := .none,data := .fields ps }
 | .met f x=>h.get? a=some (W.methodObj (.ref f) (.ref x))
 | .ext φ=>φ h/\(∃ o,h.get? a=some o)/\∀ h1 h2:Heap,φ h1->(∀ o,h1.get? a=some o->h2.get? a=some o)->φ h2
def bf (H:Hp) (h:Heap):Prop:=∀ a o,H a=some o->YZ P w H h a o
end
section
variable {P:Program} {w:World} {H H':Hp} {h h':Heap} {a:Addr} {o:HO}
theorem YZ.lt (x:YZ P w H h a o):a<h.objs.size:=by
 cases o with
 | lst xs=>obtain ⟨_,_,_,_,e⟩:=x;exact Heap.lt_size e
 | tup xs=>obtain ⟨_,_,_,p⟩:=x;exact p.lt
 | dK kvs=>obtain ⟨_,_,_,_,o,_,_,e,_⟩:=x;exact Heap.lt_size e
 | dT kvs=>obtain ⟨_,_,_,_,o,_,_,e,_⟩:=x;exact Heap.lt_size e
 | set S n=>obtain ⟨o,_,_,_,e,_⟩:=x;exact Heap.lt_size e
 | ins C dx fs=>obtain ⟨_,_,_,e,_⟩:=x;exact Heap.lt_size e
 | own y=>obtain ⟨_,e⟩:=x;exact Heap.lt_size e
 | xd fs=>obtain ⟨_,⟨_,_,_,e,_⟩,_⟩:=x;exact Heap.lt_size e
 | rng lo hi=>obtain ⟨_,_,_,e⟩:=x;exact Heap.lt_size e
 | bH ob u=>obtain ⟨e,_⟩:=x;exact Heap.lt_size e
 | aU ps=>exact Heap.lt_size (show h.get? a=some _ from x)
 | met f y=>exact Heap.lt_size (show h.get? a=some _ from x)
 | ext φ=>obtain ⟨_,⟨_,e⟩,_⟩:=x;exact Heap.lt_size e
theorem Paired.vY {α β:Type} {F G:α->β->Prop}:∀ {l₁:List α} {l₂:List β},Paired F l₁ l₂->(∀ a b,F a b->G a b)->Paired G l₁ l₂
 | _,_,.nil,_ => .nil
 | _,_,.cons r t,f => .cons (f _ _ r) (Paired.vY t f)
theorem YZ.stay (x:YZ P w H h a o) (k:∀ b u,(b=a\/H b=some (.own a))->h.get? b=some u->h'.get? b=some u)
  (ho:∀ b,H b=some (.own a)->H' b=some (.own a)) (ht:∀ b xs,H b=some (.tup xs)->H' b=some (.tup xs)):YZ P w H' h' a o:=by
 induction o with
 | lst xs=>obtain ⟨z,its,n,r,e⟩:=x;exact ⟨z,its,n,r,k _ _ (.inl rfl) e⟩
 | tup xs=>obtain ⟨z,its,r,ob,e,c⟩:=x;exact ⟨z,its,r,ob,k _ _ (.inl rfl) e,c⟩
 | dK kvs=>obtain ⟨z,y,vs,r,ob,es,ep,e,c⟩:=x;exact ⟨z,y,vs,r,ob,es,ep,k _ _ (.inl rfl) e,c⟩
 | dT kvs =>
  obtain ⟨z,y,xs,r,ob,es,ep,e,c⟩:=x;exact ⟨z,y,xs,Paired.vY r fun p q z=>⟨z.1,ht _ _ z.2.1,z.2.2⟩,ob,es,ep,k _ _ (.inl rfl) e,c⟩
 | set S n=>obtain ⟨ob,es,ep,t,e,c⟩:=x;exact ⟨ob,es,ep,t,k _ _ (.inl rfl) e,c⟩
 | ins C dx fs =>
  obtain ⟨d,z,ne,e,mA,⟨od,es,ep,e2,c⟩,r⟩:=x;exact ⟨ho _ d,z,ne,k _ _ (.inl rfl) e,mA,⟨od,es,ep,k _ _ (.inr d) e2,c⟩,r⟩
 | own y=>obtain ⟨ob,e⟩:=x;exact ⟨ob,k _ _ (.inl rfl) e⟩
 | xd fs=>obtain ⟨mA,⟨od,es,ep,e,c⟩,r⟩:=x;exact ⟨mA,⟨od,es,ep,k _ _ (.inl rfl) e,c⟩,r⟩
 | rng lo hi=>obtain ⟨t,u,v,e⟩:=x;exact ⟨t,u,v,k _ _ (.inl rfl) e⟩
 | bH ob u ih=>obtain ⟨e,q⟩:=x;exact ⟨k _ _ (.inl rfl) e,ih q⟩
 | aU ps =>
  have e:h.get? a=some { cls := .none,data := .fields ps }:=x
  show h'.get? a=some { cls := .none,data := .fields ps }
  exact k a _ (.inl rfl) e
 | met f y =>
  have e:h.get? a=some (W.methodObj (.ref f) (.ref y)):=x
  show h'.get? a=some (W.methodObj (.ref f) (.ref y))
  exact k a _ (.inl rfl) e
 | ext φ=>obtain ⟨p,⟨o,e⟩,st⟩:=x;exact ⟨st _ _ p fun o q=>k _ _ (.inl rfl) q,⟨o,k _ _ (.inl rfl) e⟩,st⟩
theorem bf.lt (x:bf P w H h) (e:H a=some o):a<h.objs.size:=(x a o e).lt
theorem bf.fresh (x:bf P w H h) (e:h.objs.size<=a):H a=none:=by
 cases q:H a with
 | none=>rfl
 | some u=>exact absurd (Nat.lt_of_lt_of_le (x.lt q) e) (Nat.lt_irrefl _)
theorem bf.kept (x:bf P w H h) (k:∀ b u,h.get? b=some u->h'.get? b=some u):bf P w H h':=fun a o e =>
 (x a o e).stay (fun b u _ q=>k b u q) (fun _ q=>q) fun _ _ q=>q
theorem bf.laid (x:bf P w H h) (k:∀ b u,h.get? b=some u->h'.get? b=some u) (hp:h.objs.size<=a) (new:YZ P w (upd H a o) h' a o):bf P w (upd H a o) h':=fun b u e=>by
 have hn:=x.fresh hp;by_cases hb:b=a
 ·subst hb;rw [Yc] at e;cases e;exact new
 ·rw [Yg hb] at e
  exact (x b u e).stay (fun c v _ q=>k c v q) (fun c q=>by rw [Yg (Yj q hn)];exact q) fun c xs q=>by rw [Yg (Yj q hn)];exact q
end
def Rd (H:Hp) (a:Addr) (u:HO):Prop:=H a=some u\/∃ o,H a=some (.bH o u)
theorem Rd.ok {P:Program} {w:World} {H:Hp} {h:Heap} {a:Addr} {u:HO} (r:Rd H a u) (x:bf P w H h):YZ P w H h a u:=by
 rcases r with r | ⟨o,r⟩
 ·exact x a u r
 ·obtain ⟨_,q⟩:=x a _ r
  exact q
def oG:Option HO->Prop
 | some (.lst _)=>True
 | some (.dK _)=>True
 | some (.dT _)=>True
 | some (.set _ _)=>True
 | some (.ins _ _ _)=>True
 | some (.ext _)=>True
 | _=>False
section
variable {P:Program} {w:World} {H:Hp} {h h':Heap} {x e:Addr} {o':HO}
theorem bf.write (ok:bf P w H h) (mu:oG (H x)) (he:e=x\/H e=some (.own x)) (k:∀ b u,b≠e->h.get? b=some u->h'.get? b=some u) (heo:∃ u,h'.get? e=some u)
  (new:YZ P w (upd H x o') h' x o'):bf P w (upd H x o') h':=fun b u q=>by
 have vZ:∀ c y,H c=some (.own y)->c≠x:=fun c y r z=>by subst z;rw [r] at mu;exact mu
 have LR:∀ c xs,H c=some (.tup xs)->c≠x:=fun c xs r z=>by subst z;rw [r] at mu;exact mu
 by_cases hb:b=x
 ·subst hb;rw [Yc] at q;cases q;exact new
 ·rw [Yg hb] at q
  by_cases hbe:b=e
  ·have q':H b=some (.own x):=by
    rcases he with z | z
    ·exact absurd (hbe.trans z) hb
    ·rw [hbe];exact z
   rw [q] at q';cases q'
   obtain ⟨v,hv⟩:=heo;exact ⟨v,by rw [hbe];exact hv⟩
  ·refine (ok b u q).stay (fun c v hc r=>k c v ?_ r) (fun c r=>by rw [Yg (vZ c b r)];exact r) fun c xs r=>by rw [Yg (LR c xs r)];exact r
   rcases hc with rfl | hc
   ·exact hbe
   ·rintro rfl
    rcases he with z | z
    ·exact vZ c b hc z
    ·rw [hc] at z;cases z;exact hb rfl
end
structure Un (fs ex:List Addr) (H H':Hp) (h h':Heap):Prop where
 keep:∀ b o,h.get? b=some o->H b=none->b∉fs->b∉ex->h'.get? b=some o
 slot:∀ b o,h.get? b=some o->H b=none->b∈fs->b∉ex->∃ sl,h'.get? b=some { o with slots:=sl }
 free:∀ b o,h.get? b=some o->H b=none->b∉ex->H' b=none
 there:∀ b o,h.get? b=some o->b∉ex->∃ o',h'.get? b=some o'
 tups:∀ b xs,H b=some (.tup xs)->H' b=some (.tup xs)
 bF:∀ b o u,H b=some (.bH o u)->H' b=some (.bH o u)
 bR:∀ b ps,H b=some (.aU ps)->∃ more,H' b=some (.aU (ps++more))
section
variable {fs fs' ex ex':List Addr} {H H1 H2:Hp} {h h1 h2 h':Heap} {a x e:Addr} {o:HO}
theorem Un.any (u:Un fs ex H H1 h h1) {b:Addr} {ob:Obj} (q:h.get? b=some ob) (n:H b=none) (hx:b∉ex):∃ sl,h1.get? b=some { ob with slots:=sl }:=by
 by_cases hb:b∈fs
 ·exact u.slot b ob q n hb hx
 ·exact ⟨ob.slots,u.keep b ob q n hb hx⟩
theorem Un.kept (k:∀ b u,h.get? b=some u->h'.get? b=some u):Un fs ex H H h h' :=
 ⟨fun b ob q _ _ _=>k b ob q,fun b ob q _ _ _=>⟨ob.slots,k b ob q⟩,fun _ _ _ n _=>n,fun b ob q _=>⟨ob,k b ob q⟩,fun _ _ q=>q,fun _ _ _ q=>q,fun _ ps q=>⟨#[],by rw [q];simp⟩⟩
theorem Un.refl:Un fs ex H H h h:=Un.kept fun _ _ q=>q
theorem Un.laid (k:∀ b u,h.get? b=some u->h'.get? b=some u) (hp:h.objs.size<=a) (hn:H a=none):Un fs ex H (upd H a o) h h' where
 keep:=fun b u q _ _ _=>k b u q
 slot:=fun b u q _ _ _=>⟨u.slots,k b u q⟩
 free:=fun b u q n _=>by rw [Yg (Nat.ne_of_lt (Nat.lt_of_lt_of_le (Heap.lt_size q) hp))];exact n
 there:=fun b u q _=>⟨u,k b u q⟩
 tups:=fun b xs q=>by rw [Yg (Yj q hn)];exact q
 bF:=fun b u xs q=>by rw [Yg (Yj q hn)];exact q
 bR:=fun b ps q=>⟨#[],by rw [Yg (Yj q hn),q];simp⟩
theorem Un.write (mu:oG (H x)) (he:e=x\/H e=some (.own x)) (k:∀ b u,b≠e->h.get? b=some u->h'.get? b=some u) (heo:∃ u,h'.get? e=some u):Un fs ex H (upd H x o) h h':=by
 have hx:∀ b,H b=none->b≠x:=fun b n z=>by subst z;rw [n] at mu;exact mu
 have hb:∀ b,H b=none->b≠e:=fun b n z=>by
  subst z;rcases he with r | r
  ·exact hx b n r
  ·rw [n] at r;cases r
 have hm:∀ b u,H b=some u->¬ oG (some u)->b≠x:=fun b u q nm z=>by subst z;rw [q] at mu;exact nm mu
 refine ⟨fun b u q n _ _=>k b u (hb b n) q,fun b u q n _ _=>⟨u.slots,k b u (hb b n) q⟩,fun b u q n _=>by rw [Yg (hx b n)];exact n,fun b u q _=>?_,
  fun b xs q=>by rw [Yg (hm b _ q fun z=>z)];exact q,fun b u xs q=>by rw [Yg (hm b _ q fun z=>z)];exact q,fun b ps q=>⟨#[],by rw [Yg (hm b _ q fun z=>z),q];simp⟩⟩
 by_cases hbe:b=e
 ·subst hbe;exact heo
 ·exact ⟨u,k b u hbe q⟩
end
def rW (h:Heap) (H:Hp):List Addr:=(List.range h.objs.size).filter fun a=>(H a).isSome
def WQ (h:Heap) (H:Hp):Heap:=W.hideAll h (rW h H)
theorem NZ (h:Heap) (H:Hp):(WQ h H).objs.size=h.objs.size:=W.hideAll_size _ _
theorem N5 {h:Heap} {H:Hp} {b:Addr} {o:Obj} (e:h.get? b=some o) (n:H b=none):(WQ h H).get? b=some o :=
 W.hideAll_get _ e fun hm=>by
  have q:(H b).isSome=true:=(List.mem_filter.mp hm).2;rw [n] at q;simp at q
theorem N6 {h:Heap} {H:Hp} {b:Addr} {o:Obj} (e:(WQ h H).get? b=some o):h.get? b=some o/\H b=none:=by
 have e':h.get? b=some o:=W.of_hideAll (rW h H) e;refine ⟨e',?_⟩
 cases q:H b with
 | none=>rfl
 | some x =>
  have hm:b∈rW h H:=List.mem_filter.mpr ⟨List.mem_range.mpr (Heap.lt_size e'),by simp [q]⟩;have z:(WQ h H).get? b=none:=W.hideAll_none (rW h H) hm;rw [z] at e;cases e
def N7 (g h:Heap) (L:Addr):List (Addr×Obj):=(List.range h.objs.size).filterMap fun a=>if a=L\/(g.get? a).isSome=true then none else (h.get? a).map fun o=>(a,o)
def rest (g h:Heap) (L d:Addr):List (Addr×Obj):=(N7 g h L).filter fun p=>decide (p.1≠d)
structure Mod (K:W.Frag) (mg:Str->Option Value) (base:Heap):Prop where
 eZ:K.In base
 glob:base.Ns mainGlobals mg
 blt:∃ mb,base.Ns builtinsNs mb/\∀ x:Str,x≠"__name__"->mb x=bootBuiltins x
 nolimit:base.NoLimit
structure Cx where
 prog:Program
 w:World
 K:W.Frag
 mg:Str->Option Value
 base:Heap
 A:Around
 N:List Str
 s₀:Shared
 H₀:Hp
 env:Env
 outer:List Env
 stack:List Env
 ex:List Addr
 fn:Str->Bool
 calm:Bool
 pn:List (Addr×Obj)
 xe:Value->Shared->Prop
def frs (l:List Env):List Addr:=l.filterMap (·.frame)
abbrev Cx.fs (X:Cx):List Addr:=frs X.outer
def lU (sc:Scope) (x:Str):Prop:=sc.names.lookup x=some .local\/sc.names.lookup x=some .cell\/sc.names.lookup x=some .free
def Loc (sc:Scope) (x:Str):Prop:=sc.names.lookup x=some .local\/sc.names.lookup x=some .cell
def Look (env:Env) (h:Heap) (m:Str->Option Value) (x:Str) (u:Value):Prop :=
 (env.kindOf x=some .local/\m x=some u)\/((env.kindOf x=some .cell\/env.kindOf x=some .free)/\∃ c,env.cells.lookup x=some c/\h.IsCell c (some u))
structure Cx.Ok (X:Cx):Prop where
 mod:Mod X.K X.mg X.base
 kind:X.env.scope.kind = .function
 glob:X.env.globals=mainGlobals
 blt:X.env.builtins=builtinsNs
 above:X.s₀.heap.objs.size<=X.env.locals
 inj:∀ x y c,X.env.cells.lookup x=some c->X.env.cells.lookup y=some c->x=y
 has:∀ x,(X.env.kindOf x=some .cell\/X.env.kindOf x=some .free)->∃ c,X.env.cells.lookup x=some c
 cab:∀ x c,X.fn x=true->X.env.cells.lookup x=some c->X.s₀.heap.objs.size<=c
 hd:X.calm=true->X.A.handled=none
 frames:X.A.frames=some X.stack
 stk:X.stack=X.outer\/(X.stack=X.env::X.outer/\X.env.frame=some X.env.locals)
 rY:∀ b∈X.ex,b≠X.env.locals/\∀ x c,X.env.cells.lookup x=some c->c≠b
 bs:∀ b o,X.base.get? b=some o->X.s₀.heap.get? b=some o/\X.H₀ b=none
 dO:X.base.objs.size<=X.s₀.heap.objs.size
 gF:∀ b o,X.base.get? b=some o->b∉X.ex
 iJ:∀ b∈X.ex,b∉X.fs
 bV:X.s₀.heap.FunFrames X.base X.outer
 d9:∀ b∈X.fs,X.H₀ b=none
structure Inv (X:Cx) (pins:List (Addr×Obj)) (σ:List (Option V)) (H:Hp) (s:Shared):Prop where
 ok:X.Ok
 os:s.os=X.s₀.os
 bare:AllBare s.gens
 base:Un X.fs X.ex X.H₀ H X.s₀.heap s.heap
 loc:∃ m,s.heap.Ns X.env.locals m/\∀ (i:Nat) (x:Str) (v:V),X.N[i]?=some x->σ[i]?=some (some v)->lU X.env.scope x->∃ u,YF v u/\Look X.env s.heap m x u
 cell:∀ x c,X.env.cells.lookup x=some c->∃ v,s.heap.IsCell c v
 free:H X.env.locals=none
 aV:∀ x c,X.env.cells.lookup x=some c->H c=none
 pin:∀ p∈X.pn++pins,s.heap.get? p.1=some p.2/\H p.1=none/\p.1≠X.env.locals/\p.1∉X.fs/\∀ v,p.2.data ≠ .cell v
 hok:bf X.prog X.w H s.heap
 len:σ.length=X.N.length
section
variable {X:Cx} {pins:List (Addr×Obj)} {σ:List (Option V)} {H H':Hp} {s:Shared} {h':Heap}
theorem Cx.Ok.Mf (ok:X.Ok) {b:Addr} {o:Obj} (e:X.base.get? b=some o):b∉X.fs:=fun hb=>by
 have:=(ok.bV.mem hb).1;rw [e] at this;cases this
theorem Inv.bs (I:Inv X pins σ H s):∀ b o,X.base.get? b=some o->s.heap.get? b=some o/\H b=none:=fun b o e =>
 ⟨I.base.keep b o (I.ok.bs b o e).1 (I.ok.bs b o e).2 (I.ok.Mf e) (I.ok.gF b o e),I.base.free b o (I.ok.bs b o e).1 (I.ok.bs b o e).2 (I.ok.gF b o e)⟩
theorem Inv.bk (I:Inv X pins σ H s):∀ b o,X.base.get? b=some o->s.heap.get? b=some o:=fun b o e=>(I.bs b o e).1
theorem Inv.mod (I:Inv X pins σ H s):Mod X.K X.mg X.base:=I.ok.mod
theorem Inv.bA (I:Inv X pins σ H s):X.K.In s.heap:=I.ok.mod.eZ.keeps I.bk
theorem Inv.lt (I:Inv X pins σ H s):X.env.locals<s.heap.objs.size:=let ⟨_,hn,_⟩:=I.loc;hn.lt
theorem Inv.sz (I:Inv X pins σ H s):X.s₀.heap.objs.size<=s.heap.objs.size:=Nat.le_trans I.ok.above (Nat.le_of_lt I.lt)
theorem Inv.Mg (I:Inv X pins σ H s) {a:Addr} (h:s.heap.objs.size<=a):a∉X.fs:=fun hb=>by
 obtain ⟨_,o,ho,_⟩:=I.ok.bV.mem hb;exact absurd (Nat.lt_of_lt_of_le (Heap.lt_size ho) (Nat.le_trans I.sz h)) (Nat.lt_irrefl _)
theorem Inv.iT (I:Inv X pins σ H s):∀ x c,X.env.cells.lookup x=some c->c≠X.env.locals:=fun x c e z=>by
 obtain ⟨v,o,ho,hd⟩:=I.cell x c e;obtain ⟨m,⟨o',es,ep,ho',hd',_⟩,_⟩:=I.loc;rw [z,ho'] at ho;cases ho;rw [hd'] at hd;cases hd
theorem Inv.bV (I:Inv X pins σ H s):s.heap.FunFrames X.base X.outer:=by
 have all:∀ (l:List Env),(∀ b∈frs l,b∈X.fs)->X.s₀.heap.FunFrames X.base l->s.heap.FunFrames X.base l:=by
  intro l
  induction l with
  | nil=>intro _ _;trivial
  | cons env r ih =>
   intro hs hl;obtain ⟨hk,⟨L,o,hf,hn,ho,hd⟩,hr⟩:=hl;have hL:L∈X.fs:=hs L (by unfold frs;rw [List.filterMap_cons,hf];exact List.mem_cons_self);obtain ⟨sl,e⟩:=I.base.slot L o ho (I.ok.d9 L hL) hL fun z=>I.ok.iJ L z hL
   exact ⟨hk,⟨L,_,hf,hn,e,hd⟩,ih (fun b hb=>hs b (by unfold frs;rw [List.filterMap_cons,hf];exact List.mem_cons_of_mem _ hb)) hr⟩
 exact all X.outer (fun _ hb=>hb) I.ok.bV
theorem Inv.stack (I:Inv X pins σ H s):s.heap.FunFrames X.base X.stack:=by
 rcases I.ok.stk with e | ⟨e,hf⟩
 ·rw [e];exact I.bV
 ·rw [e]
  obtain ⟨m,hn,_⟩:=I.loc;refine .cons (by rw [I.ok.kind];decide) hf hn ?_ I.bV;exact Heap.get?_none_of_le (Nat.le_trans I.ok.dO I.ok.above)
theorem Inv.fJ (I:Inv X pins σ H s):∀ b∈frs X.stack,b∈X.env.locals::X.fs:=fun b hb=>by
 rcases I.ok.stk with e | ⟨e,hf⟩
 ·rw [e] at hb;exact List.mem_cons_of_mem _ hb
 ·rw [e] at hb
  unfold frs at hb;rw [List.filterMap_cons,hf] at hb
  exact hb
theorem Inv.fU (I:Inv X pins σ H s):∀ b∈frs X.stack,H b=none:=fun b hb=>by
 rcases List.mem_cons.mp (I.fJ b hb) with e | hb
 ·rw [e];exact I.free
 ·obtain ⟨_,o,ho,_⟩:=I.ok.bV.mem hb
  exact I.base.free b o ho (I.ok.d9 b hb) fun z=>I.ok.iJ b z hb
theorem Inv.step {g':Array GenState} {t':Nat} {d':Drawn} {ch:List Addr} (I:Inv X pins σ H s)
  (hch:∀ b∈ch,(b∈X.ex\/X.s₀.heap.objs.size<=b)/\b≠X.env.locals/\(∀ x c,X.env.cells.lookup x=some c->c≠b)/\∀ p∈X.pn++pins,p.1≠b)
  (keep:∀ b o,b≠X.env.locals->b∉X.fs->b∉ch->s.heap.get? b=some o->H b=none->h'.get? b=some o)
  (slot:∀ b o,b≠X.env.locals->b∈X.fs->b∉ch->s.heap.get? b=some o->H b=none->∃ sl,h'.get? b=some { o with slots:=sl }) (free:∀ b o,b∉ch->s.heap.get? b=some o->H b=none->H' b=none)
  (there:∀ b o,b∉ch->s.heap.get? b=some o->∃ o',h'.get? b=some o')
  (tups:∀ b xs,H b=some (.tup xs)->H' b=some (.tup xs)) (bF:∀ b o u,H b=some (.bH o u)->H' b=some (.bH o u)) (bR:∀ b ps,H b=some (.aU ps)->∃ more,H' b=some (.aU (ps++more)))
  (ns:∀ m,s.heap.Ns X.env.locals m->h'.Ns X.env.locals m) (hok:bf X.prog X.w H' h') (hg:AllBare g') :
  Inv X pins σ H' { s with heap:=h',gens:=g',drawn:=d',toks:=t' }:=by
 have Fp:∀ b o,X.s₀.heap.get? b=some o->b≠X.env.locals:=fun b o e=>Nat.ne_of_lt (Nat.lt_of_lt_of_le (Heap.lt_size e) I.ok.above)
 have rZ:∀ b o,X.s₀.heap.get? b=some o->b∉X.ex->b∉ch:=fun b o e hx hb=>by
  rcases (hch b hb).1 with z | z
  ·exact hx z
  ·exact absurd (Nat.lt_of_lt_of_le (Heap.lt_size e) z) (Nat.lt_irrefl _)
 have cellK:∀ x c,X.env.cells.lookup x=some c->∀ v,s.heap.IsCell c v->h'.IsCell c v:=fun x c e v ⟨o,ho,hd⟩=>by
  have oH:c∉ch:=fun z=>(hch c z).2.2.1 x c e rfl
  by_cases hc:c∈X.fs
  ·obtain ⟨sl,q⟩:=slot c o (I.iT x c e) hc oH ho (I.aV x c e)
   exact ⟨_,q,hd⟩
  ·exact ⟨o,keep c o (I.iT x c e) hc oH ho (I.aV x c e),hd⟩
 refine ⟨I.ok,I.os,hg,⟨fun b o e n hb hx=>?_,fun b o e n hb hx=>?_,fun b o e n hx=>?_,fun b o e hx=>?_,fun b xs e=>tups b xs (I.base.tups b xs e),fun b o xs e=>bF b o xs (I.base.bF b o xs e),fun b ps e=>?_⟩,?_,fun x c e=>?_,?_,fun x c e=>?_,fun p hp=>?_,hok,I.len⟩
 ·exact keep b o (Fp b o e) hb (rZ b o e hx) (I.base.keep b o e n hb hx) (I.base.free b o e n hx)
 ·obtain ⟨sl,e1⟩:=I.base.slot b o e n hb hx
  obtain ⟨sl',e2⟩:=slot b _ (Fp b o e) hb (rZ b o e hx) e1 (I.base.free b o e n hx);exact ⟨sl',e2⟩
 ·obtain ⟨o',e1⟩:=I.base.there b o e hx
  exact free b o' (rZ b o e hx) e1 (I.base.free b o e n hx)
 ·obtain ⟨o',e1⟩:=I.base.there b o e hx
  exact there b o' (rZ b o e hx) e1
 ·obtain ⟨m1,e1⟩:=I.base.bR b ps e
  obtain ⟨m2,e2⟩:=bR b _ e1;exact ⟨m1++m2,by rw [e2,Array.append_assoc]⟩
 ·obtain ⟨m,hn,hl⟩:=I.loc
  refine ⟨m,ns m hn,fun i x v e1 e2 e3=>?_⟩;obtain ⟨u,r,l⟩:=hl i x v e1 e2 e3;refine ⟨u,r,?_⟩;rcases l with l | ⟨k,c,e,z⟩
  ·exact .inl l
  ·exact .inr ⟨k,c,e,cellK x c e _ z⟩
 ·obtain ⟨v,z⟩:=I.cell x c e
  exact ⟨v,cellK x c e v z⟩
 ·obtain ⟨m,⟨o,_,_,ho,_⟩,_⟩:=I.loc
  exact free _ o (fun z=>(hch _ z).2.1 rfl) ho I.free
 ·obtain ⟨v,o,ho,hd⟩:=I.cell x c e
  exact free c o (fun z=>(hch c z).2.2.1 x c e rfl) ho (I.aV x c e)
 ·obtain ⟨e,n,ne,nf,d⟩:=I.pin p hp
  have oH:p.1∉ch:=fun z=>(hch p.1 z).2.2.2 p hp rfl
  exact ⟨keep p.1 p.2 ne nf oH e n,free p.1 p.2 oH e n,ne,nf,d⟩
theorem Inv.un {t':Nat} (I:Inv X pins σ H s) (u:Un X.fs [] H H' s.heap h') (hok:bf X.prog X.w H' h'):Inv X pins σ H' { s with heap:=h',toks:=t' }:=by
 obtain ⟨m,⟨o,es,ep,ho,r⟩,_⟩:=id I.loc;obtain ⟨sl,hL⟩:=u.any ho I.free (by simp);exact I.step (g':=s.gens) (d':=s.drawn) (ch:=[]) (fun _ z=>nomatch z) (fun b o _ hb _ e n=>u.keep b o e n hb (by simp)) (fun b o _ hb _ e n=>u.slot b o e n hb (by simp)) (fun b o _ e n=>u.free b o e n (by simp)) (fun b o _ e=>u.there b o e (by simp)) u.tups u.bF u.bR (fun m' hm=>by
  obtain ⟨o',es',ep',ho',r'⟩:=hm;rw [ho] at ho';cases ho'
  exact ⟨_,es',ep',hL,r'⟩) hok I.bare
theorem Inv.call {g':Array GenState} {t':Nat} {d':Drawn} {ch:List Addr} (I:Inv X pins σ H s) (u:Un (frs X.stack) ch H H' s.heap h') (hok:bf X.prog X.w H' h') (hg:AllBare g')
  (hch:∀ b∈ch,(b∈X.ex\/X.s₀.heap.objs.size<=b)/\b≠X.env.locals/\(∀ x c,X.env.cells.lookup x=some c->c≠b)/\∀ p∈X.pn++pins,p.1≠b) :
  Inv X pins σ H' { s with heap:=h',gens:=g',drawn:=d',toks:=t' }:=by
 obtain ⟨m,⟨o,es,ep,ho,r⟩,_⟩:=id I.loc;obtain ⟨sl,hL⟩:=u.any ho I.free fun z=>(hch _ z).2.1 rfl
 exact I.step (ch:=ch) hch (fun b o hL hb hc e n=>u.keep b o e n (fun z=>(List.mem_cons.mp (I.fJ b z)).elim hL hb) hc) (fun b o _ _ hc e n=>u.any e n hc) (fun b o hc e n=>u.free b o e n hc) (fun b o hc e=>u.there b o e hc) u.tups u.bF u.bR (fun m' hm=>by
  obtain ⟨o',es',ep',ho',r'⟩:=hm;rw [ho] at ho';cases ho'
  exact ⟨_,es',ep',hL,r'⟩) hok hg
theorem Inv.turned {t':Nat} {it:Addr} (I:Inv X pins σ H s) (k:∀ b o,b≠it->s.heap.get? b=some o->h'.get? b=some o) (hn:H it=none) (hL:it≠X.env.locals)
  (h1:it∈X.ex\/X.s₀.heap.objs.size<=it) (h2:∀ x c,X.env.cells.lookup x=some c->c≠it) (h3:∀ p∈X.pn++pins,p.1≠it):Inv X pins σ H { s with heap:=h',toks:=t' }:=by
 have fK:∀ b u,H b=some u->b≠it:=fun b u e z=>by rw [z,hn] at e;cases e
 refine I.step (g':=s.gens) (d':=s.drawn) (ch:=[it]) (fun b hb=>?_) (fun b o _ _ hc e _=>k b o (fun z=>hc (by simp [z])) e) (fun b o _ _ hc e _=>⟨o.slots,k b o (fun z=>hc (by simp [z])) e⟩) (fun _ _ _ _ n=>n)
  (fun b o hc e=>⟨o,k b o (fun z=>hc (by simp [z])) e⟩) (fun _ _ e=>e) (fun _ _ _ e=>e) (fun b ps e=>⟨#[],by rw [e];simp⟩) (fun m hm=>?_) (fun b u e=>?_) I.bare
 ·have e:b=it:=by simpa using hb
  subst e;exact ⟨h1,hL,h2,h3⟩
 ·obtain ⟨o,es,ep,ho,r⟩:=hm
  exact ⟨o,es,ep,k _ o (Ne.symm hL) ho,r⟩
 ·refine (I.hok b u e).stay (fun c v hc q=>k c v ?_ q) (fun _ q=>q) fun _ _ q=>q
  rcases hc with z | z
  ·rw [z];exact fK b u e
  ·exact fK c _ z
theorem Inv.tok (I:Inv X pins σ H s) (t:Nat):Inv X pins σ H { s with toks:=t }:=I.un (h':=s.heap) (t':=t) Un.refl I.hok
theorem Inv.kept {t':Nat} (I:Inv X pins σ H s) (k:∀ b u,s.heap.get? b=some u->h'.get? b=some u):Inv X pins σ H { s with heap:=h',toks:=t' }:=I.un (Un.kept k) (I.hok.kept k)
theorem Inv.laid {a:Addr} {o:HO} {t':Nat} (I:Inv X pins σ H s) (k:∀ b u,s.heap.get? b=some u->h'.get? b=some u) (hp:s.heap.objs.size<=a) (new:YZ X.prog X.w (upd H a o) h' a o) :
  Inv X pins σ (upd H a o) { s with heap:=h',toks:=t' }:=I.un (Un.laid k hp (I.hok.fresh hp)) (I.hok.laid k hp new)
theorem Inv.write {x e:Addr} {o:HO} {t':Nat} (I:Inv X pins σ H s) (mu:oG (H x)) (he:e=x\/H e=some (.own x)) (k:∀ b u,b≠e->s.heap.get? b=some u->h'.get? b=some u) (heo:∃ u,h'.get? e=some u)
  (new:YZ X.prog X.w (upd H x o) h' x o):Inv X pins σ (upd H x o) { s with heap:=h',toks:=t' }:=I.un (Un.write mu he k heo) (I.hok.write mu he k heo new)
theorem Inv.lV {eU:List (Addr×Obj)} (I:Inv X pins σ H s) (h:∀ p∈eU,s.heap.get? p.1=some p.2/\H p.1=none/\p.1≠X.env.locals/\p.1∉X.fs/\∀ v,p.2.data ≠ .cell v):Inv X eU σ H s :=
 ⟨I.ok,I.os,I.bare,I.base,I.loc,I.cell,I.free,I.aV,fun p hp=>(List.mem_append.mp hp).elim (fun z=>I.pin p (List.mem_append_left _ z)) (h p),I.hok,I.len⟩
theorem QG {N:List Str} (hN:N.Nodup) {i j:Nat} {x:Str} (a:N[i]?=some x) (b:N[j]?=some x):i=j:=by
 obtain ⟨h1,e1⟩:=List.getElem?_eq_some_iff.mp a;obtain ⟨h2,e2⟩:=List.getElem?_eq_some_iff.mp b;exact (List.getElem_inj hN).mp (e1.trans e2.symm)
theorem N8 {M:Model} {A:Around} {E:Value->Shared->Prop} {i:Nat} {x:Str} {v:V} {u:Value} {Q:Unit->Shared->Prop} (I:Inv X pins σ H s) (hN:X.N.Nodup) (hi:X.N[i]?=some x) (hx:Loc X.env.scope x) (r:YF v u)
  (h:∀ s',Inv X pins (σ.set i (some v)) H s'->(∃ a,Heap.SameBut a s.heap s'.heap/\(a=X.env.locals\/X.env.cells.lookup x=some a))->Q () s') (hf:X.fn x=true\/X.env.scope.names.lookup x=some .local:=by first | exact .inl rfl | exact .inr rfl | assumption):wpAny M A (storeName X.env x u) Q E s:=by
 obtain ⟨m,hn,hl⟩:=id I.loc;have hcls:(X.env.scope.kind == .class||(X.env.scope.kind == .module&&X.env.locals != X.env.globals))=false:=by rw [I.ok.kind];rfl
 have v8:i<σ.length:=by rw [I.len];exact (List.getElem?_eq_some_iff.mp hi).1
 have iT:=I.iT;have tracked:∀ {a:Addr} {h':Heap},(∃ o,s.heap.get? a=some o/\H a=none)->Heap.SameBut a s.heap h'->bf X.prog X.w H h':=fun {a h'} ha hs b ob e=>by
  obtain ⟨_,_,hfree⟩:=ha;refine (I.hok b ob e).stay (fun c w' hc q=>(hs.2 c ?_).trans q) (fun _ q=>q) fun _ _ q=>q
  rintro rfl;rcases hc with rfl | hc
  ·rw [hfree] at e;cases e
  ·rw [hfree] at hc;cases hc
 rcases hx with hk | hk
 ·refine wpAny_storeName_local hk hn (fun h' hn' hs=>?_) hcls
  obtain ⟨oL,_,_,hoL,_⟩:=id hn;refine h _ ⟨I.ok,I.os,I.bare,⟨fun b o e n hb hx=>?_,fun b o e n hb hx=>?_,I.base.free,fun b o e hx=>?_,I.base.tups,I.base.bF,I.base.bR⟩,⟨_,hn',fun j y v' e1 e2 e3=>?_⟩,fun y c e=>?_,I.free,I.aV,fun p hp=>?_,tracked ⟨oL,hoL,I.free⟩ hs,by simpa using I.len⟩ ⟨_,hs,.inl rfl⟩
  ·exact (hs.2 b (Nat.ne_of_lt (Nat.lt_of_lt_of_le (Heap.lt_size e) I.ok.above))).trans (I.base.keep b o e n hb hx)
  ·obtain ⟨sl,e1⟩:=I.base.slot b o e n hb hx
   exact ⟨sl,(hs.2 b (Nat.ne_of_lt (Nat.lt_of_lt_of_le (Heap.lt_size e) I.ok.above))).trans e1⟩
  ·obtain ⟨o',e1⟩:=I.base.there b o e hx
   exact ⟨o',(hs.2 b (Nat.ne_of_lt (Nat.lt_of_lt_of_le (Heap.lt_size e) I.ok.above))).trans e1⟩
  ·by_cases hj:j=i
   ·subst hj
    rw [hi] at e1;cases e1
    rw [List.getElem?_set_self v8] at e2
    cases e2
    exact ⟨u,r,.inl ⟨hk,by simp⟩⟩
   ·rw [List.getElem?_set_ne (Ne.symm hj)] at e2
    obtain ⟨u',r',q⟩:=hl j y v' e1 e2 e3;refine ⟨u',r',?_⟩;rcases q with ⟨k,e⟩ | ⟨k,c,e,z⟩
    ·refine .inl ⟨k,?_⟩
     have:y≠x:=fun e=>hj (QG hN e1 (e▸hi))
     simp [this,e]
    ·exact .inr ⟨k,c,e,z.sameBut hs (iT y c e)⟩
  ·obtain ⟨w',z⟩:=I.cell y c e
   exact ⟨w',z.sameBut hs (iT y c e)⟩
  ·obtain ⟨e,n,ne,nf,d⟩:=I.pin p hp
   exact ⟨(hs.2 p.1 ne).trans e,n,ne,nf,d⟩
 ·have hfn:X.fn x=true:=by
   rcases hf with z | z
   ·exact z
   ·rw [z] at hk;cases hk
  obtain ⟨c,hc⟩:=I.ok.has x (.inl hk);obtain ⟨w',z⟩:=I.cell x c hc;refine wpAny_storeName_cell I.ok.kind hk hc z (fun h' hc' hs=>?_);obtain ⟨oc,hoc,Mh⟩:=id z;refine h { s with heap:=h' } ⟨I.ok,I.os,I.bare,⟨fun b o e n hb hx=>?_,fun b o e n hb hx=>?_,I.base.free,fun b o e hx=>?_,I.base.tups,I.base.bF,I.base.bR⟩,⟨m,hn.sameBut hs (Ne.symm (iT x c hc)),fun j y v' e1 e2 e3=>?_⟩,fun y c' e=>?_,I.free,I.aV,fun p hp=>?_,tracked ⟨oc,hoc,I.aV x c hc⟩ hs,by simpa using I.len⟩ ⟨c,hs,.inr hc⟩
  ·exact (hs.2 b (Nat.ne_of_lt (Nat.lt_of_lt_of_le (Heap.lt_size e) (I.ok.cab x c hfn hc)))).trans (I.base.keep b o e n hb hx)
  ·obtain ⟨sl,e1⟩:=I.base.slot b o e n hb hx
   exact ⟨sl,(hs.2 b (Nat.ne_of_lt (Nat.lt_of_lt_of_le (Heap.lt_size e) (I.ok.cab x c hfn hc)))).trans e1⟩
  ·obtain ⟨o',e1⟩:=I.base.there b o e hx
   exact ⟨o',(hs.2 b (Nat.ne_of_lt (Nat.lt_of_lt_of_le (Heap.lt_size e) (I.ok.cab x c hfn hc)))).trans e1⟩
  ·by_cases hj:j=i
   ·subst hj
    rw [hi] at e1;cases e1
    rw [List.getElem?_set_self v8] at e2
    cases e2
    exact ⟨u,r,.inr ⟨.inl hk,c,hc,hc'⟩⟩
   ·rw [List.getElem?_set_ne (Ne.symm hj)] at e2
    obtain ⟨u',r',q⟩:=hl j y v' e1 e2 e3;refine ⟨u',r',?_⟩;rcases q with q | ⟨k,c',e,z'⟩
    ·exact .inl q
    ·refine .inr ⟨k,c',e,z'.sameBut hs ?_⟩
     rintro rfl;exact hj (QG hN e1 (I.ok.inj _ _ _ e hc▸hi))
  ·by_cases hcc:c'=c
   ·subst hcc;exact ⟨_,hc'⟩
   ·obtain ⟨w2,z2⟩:=I.cell y c' e
    exact ⟨w2,z2.sameBut hs hcc⟩
  ·obtain ⟨e,n,ne,nf,d⟩:=I.pin p hp
   refine ⟨(hs.2 p.1 ?_).trans e,n,ne,nf,d⟩;intro q;rw [q,hoc] at e
   have q':oc=p.2:=Option.some.inj e;exact d w' (by rw [<- q'];exact Mh)
theorem V7 {M:Model} {A:Around} {E:Value->Shared->Prop} {i:Nat} {x:Str} {v:V} {u:Value} {Q:Unit->Shared->Prop} (I:Inv X pins σ H s) (hN:X.N.Nodup) (hi:X.N[i]?=some x) (hx:Loc X.env.scope x) (r:YF v u)
  (h:∀ s',Inv X pins (σ.set i (some v)) H s'->Q () s') (hf:X.fn x=true\/X.env.scope.names.lookup x=some .local:=by first | exact .inl rfl | exact .inr rfl | assumption):wpAny M A (storeName X.env x u) Q E s :=
 N8 I hN hi hx r (fun s' I' _=>h s' I') hf
theorem Inv.call' {s':Shared} {ch:List Addr} (I:Inv X pins σ H s) (ho:s'.os=s.os) (u:Un (frs X.stack) ch H H' s.heap s'.heap) (hok:bf X.prog X.w H' s'.heap) (hg:AllBare s'.gens)
  (hch:∀ b∈ch,(b∈X.ex\/X.s₀.heap.objs.size<=b)/\b≠X.env.locals/\(∀ x c,X.env.cells.lookup x=some c->c≠b)/\∀ p∈X.pn++pins,p.1≠b):Inv X pins σ H' s':=by
 obtain ⟨h',g',d',t',o'⟩:=s';have e:o'=s.os:=ho;subst e;exact I.call (g':=g') (t':=t') (d':=d') u hok hg hch
end
abbrev XK:=Value->Option Addr->Hp->Prop
abbrev St:=List (Option V)
abbrev VK:=V->Hp->Prop
abbrev TE:=St->Hp->VK->Prop
abbrev TT:=St->Hp->(Bool->Hp->Prop)->Prop
abbrev TA:=St->Hp->(List V->Hp->Prop)->Prop
structure Ends where
 nx:St->Hp->Prop
 rt:VK
 bk:St->Hp->Prop:=fun _ _=>False
 ct:St->Hp->Prop:=fun _ _=>False
abbrev TS:=Ends->St->Hp->Prop
def EP (X:Cx) (pins:List (Addr×Obj)) (σ:St) (Q:VK) (u:Value) (s':Shared):Prop:=∃ v H',Inv X pins σ H' s'/\YF v u/\Q v H'
def TP (X:Cx) (pins:List (Addr×Obj)) (σ:St) (Q:Bool->Hp->Prop) (b:Bool) (s':Shared):Prop:=∃ H',Inv X pins σ H' s'/\Q b H'
def AP (X:Cx) (pins:List (Addr×Obj)) (σ:St) (Q:List V->Hp->Prop) (us:List Value) (s':Shared):Prop:=∃ vs H',Inv X pins σ H' s'/\Yw vs us/\Q vs H'
def SP (X:Cx) (pins:List (Addr×Obj)) (D:Ends) (f:Flow) (s':Shared):Prop :=
 match f with
 | .next=>∃ σ' H',Inv X pins σ' H' s'/\D.nx σ' H'
 | .brk=>∃ σ' H',Inv X pins σ' H' s'/\D.bk σ' H'
 | .cont=>∃ σ' H',Inv X pins σ' H' s'/\D.ct σ' H'
 | .ret u=>∃ v σ' H',Inv X pins σ' H' s'/\YF v u/\D.rt v H'
def PE (X:Cx) (e:Expr) (t:TE):Prop :=
 ∀ (pins:List (Addr×Obj)) (s:Shared) (σ:St) (H:Hp) (Q:VK),Inv X pins σ H s->t σ H Q->wpAny (model X.prog X.w) X.A (eval e X.env) (EP X pins σ Q) X.xe s
def PT (X:Cx) (e:Expr) (t:TT):Prop :=
 ∀ (pins:List (Addr×Obj)) (s:Shared) (σ:St) (H:Hp) (Q:Bool->Hp->Prop),Inv X pins σ H s->t σ H Q->wpAny (model X.prog X.w) X.A (isTrue e X.env (eval e X.env)) (TP X pins σ Q) X.xe s
def PW (X:Cx) (e:Expr) (t:TT):Prop :=
 ∀ (whole:Sem Value) (pins:List (Addr×Obj)) (s:Shared) (σ:St) (H:Hp) (Q:Bool->Hp->Prop),Inv X pins σ H s->t σ H Q->wpAny (model X.prog X.w) X.A (isTrue e X.env whole) (TP X pins σ Q) X.xe s
theorem PW.pt {X:Cx} {e:Expr} {t:TT} (h:PW X e t):PT X e t:=h _
def PA (X:Cx) (es:List Expr) (t:TA):Prop :=
 ∀ (pos:Pos) (pins:List (Addr×Obj)) (s:Shared) (σ:St) (H:Hp) (Q:List V->Hp->Prop),Inv X pins σ H s->t σ H Q->wpAny (model X.prog X.w) X.A (spliced (backTo pos (starEach es X.env))) (AP X pins σ Q) X.xe s
def PS (X:Cx) (st:Stmt) (t:TS):Prop :=
 ∀ (pins:List (Addr×Obj)) (s:Shared) (σ:St) (H:Hp) (D:Ends),Inv X pins σ H s->t D σ H->wpAny (model X.prog X.w) X.A (exec st X.env) (SP X pins D) X.xe s
def cM (X:Cx) (st:List Stmt) (t:TS):Prop :=
 ∀ (pins:List (Addr×Obj)) (s:Shared) (σ:St) (H:Hp) (D:Ends),Inv X pins σ H s->t D σ H->wpAny (model X.prog X.w) X.A (execs st X.env) (SP X pins D) X.xe s
theorem aL {α:Type} {t:Sem α} {Q Q':α->Shared->Prop} {M:Model} {A:Around} {E:Value->Shared->Prop} {s:Shared} (h:wpAny M A t Q E s) (hQ:∀ a s,Q a s->Q' a s):wpAny M A t Q' E s:=wpAny_mono h hQ fun _ _ x=>x
section
variable {X:Cx}
def kI (x:V) (k:Int->Prop):Prop:=match x with | .int i=>k i | _=>False
def kB (x:V) (k:Bool->Prop):Prop:=match x with | .bl i=>k i | _=>False
def kR (x:V) (k:Addr->Prop):Prop:=match x with | .ref i=>k i | _=>False
def k1 (l:List V) (k:V->Prop):Prop:=match l with | [x]=>k x | _=>False
def k2 (l:List V) (k:V->V->Prop):Prop:=match l with | [x,y]=>k x y | _=>False
theorem Fq (i:Int) (k:Int->Prop):kI (.int i) k=k i:=rfl
theorem Ft (i:Bool) (k:Bool->Prop):kB (.bl i) k=k i:=rfl
theorem Fv (i:Addr) (k:Addr->Prop):kR (.ref i) k=k i:=rfl
theorem Fw (x:V) (k:V->Prop):k1 [x] k=k x:=rfl
theorem Fx (x y:V) (k:V->V->Prop):k2 [x,y] k=k x y:=rfl
theorem UH {x:V} {k:Int->Prop}:kI x k↔∃ i,x = .int i/\k i:=⟨fun h=>by cases x<;>first | exact ⟨_,rfl,h⟩ | exact h.elim,fun ⟨_,e,h⟩=>e▸h⟩
theorem V8 {x:V} {k:Bool->Prop}:kB x k↔∃ i,x = .bl i/\k i:=⟨fun h=>by cases x<;>first | exact ⟨_,rfl,h⟩ | exact h.elim,fun ⟨_,e,h⟩=>e▸h⟩
theorem WR {x:V} {k:Addr->Prop}:kR x k↔∃ i,x = .ref i/\k i:=⟨fun h=>by cases x<;>first | exact ⟨_,rfl,h⟩ | exact h.elim,fun ⟨_,e,h⟩=>e▸h⟩
theorem v9 {l:List V} {k:V->Prop} (h:k1 l k):∃ x,l=[x]/\k x:=by
 unfold k1 at h
 split at h
 ·exact ⟨_,rfl,h⟩
 ·exact h.elim
theorem qJ {l:List V} {k:V->V->Prop} (h:k2 l k):∃ x y,l=[x,y]/\k x y:=by
 unfold k2 at h
 split at h
 ·exact ⟨_,_,rfl,h⟩
 ·exact h.elim
def gb:Nat->St->(V->Prop)->Prop
 | 0,σ,k=>match σ with | some v::_=>k v | _=>False
 | n+1,σ,k=>match σ with | _::l=>gb n l k | []=>False
theorem Fy (v:V) (l:St) (k:V->Prop):gb 0 (some v::l) k=k v:=rfl
theorem Fz (n:Nat) (a:Option V) (l:St) (k:V->Prop):gb (n+1) (a::l) k=gb n l k:=rfl
theorem FJ:∀ {n:Nat} {σ:St} {k:V->Prop},gb n σ k->∃ v,σ[n]?=some (some v)/\k v
 | 0,σ,k,h=>by
  unfold gb at h
  split at h
  ·exact ⟨_,rfl,h⟩
  ·exact h.elim
 | n+1,σ,k,h=>by
  unfold gb at h
  split at h
  ·exact FJ (n:=n) h
  ·exact h.elim
theorem VO:∀ {n:Nat} {σ:St} {k:V->Prop} {v:V},σ[n]?=some (some v)->k v->gb n σ k
 | _,[],_,_,e,_=>by simp at e
 | 0,a::σ,k,v,e,h=>by
  have:a=some v:=by simpa using e
  subst this;exact h
 | n+1,a::σ,k,v,e,h=>VO (n:=n) (σ:=σ) (by simpa using e) h
def UI (i:Nat):TE:=fun σ H Q=>gb i σ fun v=>Q v H
def tC (v:V):TE:=fun _ H Q=>Q v H
theorem Uj {i:Nat} {x:Str} {pos:Pos} (hN:X.N[i]?=some x) (hv:lU X.env.scope x) (hd:(x==("__debug__":Str))=false:=by decide) (hcd:(x==("__classdict__":Str))=false:=by decide):PE X (.Name x pos) (UI i):=by
 intro pins s σ H Q I h;obtain ⟨v,e,h⟩:=FJ h;obtain ⟨m,hn,hl⟩:=I.loc;obtain ⟨u,r,l⟩:=hl i x v hN e hv;have fin:EP X pins σ Q u s:=⟨v,H,I,r,h⟩;rcases l with ⟨hk,hm⟩ | ⟨hk,c,hc,hcell⟩
 ·exact wpAny_Name (wpAny_loadName_local I.ok.kind hk hn hm fin) hd
 ·rcases hk with hk | hk
  ·exact wpAny_Name (wpAny_loadName_cell I.ok.kind hk hc hcell fin) hd
  ·exact wpAny_Name (wpAny_loadName_free I.ok.kind hk hc hcell fin hcd) hd
theorem Yh {i j pos}:PE X (.Constant (.int i) j pos) (tC (.int i)):=fun _ _ _ H _ I h=>wpAny_Constant_int ⟨.int i,H,I.tok _,⟨_,rfl⟩,h⟩
theorem Wj {b j pos}:PE X (.Constant (.bool b) j pos) (tC (.bl b)):=fun _ _ _ H _ I h=>Constant_bool ⟨.bl b,H,I,rfl,h⟩
theorem YW {j pos}:PE X (.Constant .none j pos) (tC .non):=fun _ _ _ H _ I h=>Constant_none ⟨.non,H,I,rfl,h⟩
theorem YC {x j pos}:PE X (.Constant (.str x) j pos) (tC (.str x)):=fun _ _ _ H _ I h=>Calls.Constant_str ⟨.str x,H,I.tok _,⟨_,rfl⟩,h⟩
def Gl (X:Cx) (x:Str):Prop:=X.env.kindOf x=some .globalImplicit
theorem Wd {E:Value->Shared->Prop} {pins:List (Addr×Obj)} {s:Shared} {σ:St} {H:Hp} {x:Str} {u:Value} {pos:Pos} {Q:Value->Shared->Prop} (I:Inv X pins σ H s) (hg:Gl X x) (hm:X.mg x=some u) (h:Q u s)
  (hd:(x==("__debug__":Str))=false:=by decide):wpAny (model X.prog X.w) X.A (eval (.Name x pos) X.env) Q E s :=
 Calls.Name_function_global I.ok.kind hg (Calls.loadGlobal_global (by rw [I.ok.glob];exact I.mod.glob.keeps I.bk) hm h) hd
theorem X1 {E:Value->Shared->Prop} {pins:List (Addr×Obj)} {s:Shared} {σ:St} {H:Hp} {x:Str} {u:Value} {pos:Pos} {Q:Value->Shared->Prop} (I:Inv X pins σ H s) (hg:Gl X x) (hm:X.mg x=none) (hv:bootBuiltins x=some u) (h:Q u s)
  (hn:x≠"__name__":=by decide) (hd:(x==("__debug__":Str))=false:=by decide):wpAny (model X.prog X.w) X.A (eval (.Name x pos) X.env) Q E s:=by
 obtain ⟨mb,h1,h2⟩:=I.mod.blt;exact Calls.Name_function_global I.ok.kind hg (Calls.loadGlobal_builtin (by rw [I.ok.glob];exact I.mod.glob.keeps I.bk) hm (by rw [I.ok.blt];exact h1.keeps I.bk) ((h2 x hn).trans hv) h) hd
theorem UJ {x:Str} {v:V} {u:Value} {pos:Pos} (hg:Gl X x) (hm:X.mg x=some u) (r:YF v u) (hd:(x==("__debug__":Str))=false:=by decide):PE X (.Name x pos) (tC v) :=
 fun _ _ _ H _ I h=>Wd I hg hm ⟨v,H,I,r,h⟩ hd
theorem Oa {x:Str} {v:V} {u:Value} {pos:Pos} (hg:Gl X x) (hm:X.mg x=none) (hv:bootBuiltins x=some u) (r:YF v u) (hn:x≠"__name__":=by decide) (hd:(x==("__debug__":Str))=false:=by decide):PE X (.Name x pos) (tC v) :=
 fun _ _ _ H _ I h=>X1 I hg hm hv ⟨v,H,I,r,h⟩ hn hd
variable {a b:Expr} {ta tb:TE} {pos:Pos}
def tB (t:TE):TT:=fun σ H Q=>t σ H fun x H1=>kB x fun c=>Q c H1
theorem Xh {e:Expr} {t:TE} (h:PE X e t) (he:∀ whole,isTrue e X.env whole=(do let v <- whole;standAt e.pos;holding [v] (truthy v))):PT X e (tB t):=by
 intro pins s σ H Q I hw;refine isTrue_plain (aL (h pins s σ H _ I hw) fun v s1 ⟨x,H1,I1,r1,q1⟩=>?_) (he _);obtain ⟨d,rfl,q⟩:=V8.mp q1
 cases r1
 exact wpAny_truthy_bool ⟨H1,I1,q⟩
variable {tA sy:TT} {rest:List Expr}
def qK (t u:TT):TT:=fun σ H Q=>t σ H fun c H1=>if c=true then u σ H1 Q else Q false H1
def wg (t u:TT):TT:=fun σ H Q=>t σ H fun c H1=>if c=true then Q true H1 else u σ H1 Q
def qL (t:TT):TT:=fun σ H Q=>t σ H fun c H1=>Q (!c) H1
theorem We (ha:PT X a tA):PW X (.BoolOp .And [a] pos) tA:=by
 intro wh pins s σ H Q I h;refine isTrue_and (aL (ha pins s σ H Q I h) fun c s1 e=>?_)
 cases c with
 | true=>exact isTrue_and_nil e
 | false=>exact e
theorem Wk (ha:PT X a tA):PW X (.BoolOp .Or [a] pos) tA:=by
 intro wh pins s σ H Q I h;refine isTrue_or (aL (ha pins s σ H Q I h) fun c s1 e=>?_)
 cases c with
 | false=>exact isTrue_or_nil e
 | true=>exact e
theorem WB (ha:PT X a tA) (hb:PW X (.BoolOp .And (b::rest) pos) sy):PW X (.BoolOp .And (a::b::rest) pos) (qK tA sy):=by
 intro wh pins s σ H Q I h;refine isTrue_and (aL (ha pins s σ H _ I h) fun c s1 ⟨H1,I1,q1⟩=>?_)
 cases c with
 | true=>exact hb wh pins s1 σ H1 Q I1 q1
 | false=>exact ⟨H1,I1,q1⟩
theorem X4 (ha:PT X a tA) (hb:PW X (.BoolOp .Or (b::rest) pos) sy):PW X (.BoolOp .Or (a::b::rest) pos) (wg tA sy):=by
 intro wh pins s σ H Q I h;refine isTrue_or (aL (ha pins s σ H _ I h) fun c s1 ⟨H1,I1,q1⟩=>?_)
 cases c with
 | true=>exact ⟨H1,I1,q1⟩
 | false=>exact hb wh pins s1 σ H1 Q I1 q1
theorem XR (ha:PT X a tA):PT X (.UnaryOp .Not a pos) (qL tA):=by
 intro pins s σ H Q I h;exact isTrue_not (ha pins s σ H (fun c H1=>Q (!c) H1) I h)
def wj (ta tb:TE):TE:=fun σ H Q=>ta σ H fun x H1=>kB x fun c=>if c=true then tb σ H1 Q else Q (.bl false) H1
def qM (ta tb:TE):TE:=fun σ H Q=>ta σ H fun x H1=>kB x fun c=>if c=true then Q (.bl true) H1 else tb σ H1 Q
def wk (ta:TE):TE:=fun σ H Q=>ta σ H fun x H1=>kB x fun c=>Q (.bl (!c)) H1
theorem XB {op} {t:TE} (h:PE X a t):PE X (.BoolOp op [a] pos) t:=fun pins s σ H Q I hw=>BoolOp_one (h pins s σ H Q I hw)
theorem XS (ha:PE X a ta) (hb:PE X (.BoolOp .And (b::rest) pos) tb):PE X (.BoolOp .And (a::b::rest) pos) (wj ta tb):=by
 intro pins s σ H Q I h;refine BoolOp_and (aL (ha pins s σ H _ I h) fun v s1 ⟨x,H1,I1,r1,q1⟩=>?_)
 replace q1:=V8.mp q1
 obtain ⟨c,rfl,q1⟩:=q1
 cases r1
 refine wpAny_truthy_bool ?_
 cases c with
 | true=>exact hb pins s1 σ H1 Q I1 q1
 | false=>exact ⟨.bl false,H1,I1,rfl,q1⟩
theorem FN (ha:PE X a ta) (hb:PE X (.BoolOp .Or (b::rest) pos) tb):PE X (.BoolOp .Or (a::b::rest) pos) (qM ta tb):=by
 intro pins s σ H Q I h;refine BoolOp_or (aL (ha pins s σ H _ I h) fun v s1 ⟨x,H1,I1,r1,q1⟩=>?_)
 replace q1:=V8.mp q1
 obtain ⟨c,rfl,q1⟩:=q1
 cases r1
 refine wpAny_truthy_bool ?_
 cases c with
 | false=>exact hb pins s1 σ H1 Q I1 q1
 | true=>exact ⟨.bl true,H1,I1,rfl,q1⟩
theorem Ob (ha:PE X a ta):PE X (.UnaryOp .Not a pos) (wk ta):=by
 intro pins s σ H Q I h;refine UnaryOp_ (aL (ha pins s σ H _ I h) fun v s1 ⟨x,H1,I1,r1,q1⟩=>?_)
 replace q1:=V8.mp q1
 obtain ⟨c,rfl,q1⟩:=q1
 cases r1
 exact not_of (wpAny_truthy_bool ⟨.bl (!c),H1,I1,rfl,q1⟩)
def wu (t:TT) (ta tb:TE):TE:=fun σ H Q=>t σ H fun c H1=>if c=true then ta σ H1 Q else tb σ H1 Q
theorem Oc {c:Expr} (hc:PT X c tA) (ha:PE X a ta) (hb:PE X b tb):PE X (.IfExp c a b pos) (wu tA ta tb):=by
 intro pins s σ H Q I h;refine wpAny_IfExp (aL (hc pins s σ H _ I h) fun d s1 ⟨H1,I1,q1⟩=>?_)
 cases d with
 | true=>exact ha pins s1 σ H1 Q I1 q1
 | false=>exact hb pins s1 σ H1 Q I1 q1
end
def aG (K:W.Frag) (H:Hp) (a:Addr) (xs:List V):Prop :=
 Rd H a (.lst xs) \/
  ∃ (o:Obj) (its:Array Value) (n:Nat),K.lookup a=some o/\o.cls = .type "list"/\o.dict=none/\o.data = .seq its n/\its.size<=sizeLine/\Yw xs its.toList
def aJ (K:W.Frag) (H:Hp) (a:Addr) (xs:List V):Prop :=
 Rd H a (.tup xs) \/
  ∃ (o:Obj) (its:Array Value) (n:Nat),K.lookup a=some o/\o.cls = .type "tuple"/\o.data = .seq its n/\its.size<=sizeLine/\Yw xs its.toList
def Mi:Value->Option V
 | .none=>some .non
 | .bool b=>some (.bl b)
 | .int i _=>some (.int i)
 | .str x _=>some (.str x)
 | .bytes b _=>some (.eY b)
 | .float b _=>some (.flt b)
 | .ref a=>some (.ref a)
 | .type n=>some (.ty n)
 | _=>none
theorem YF.abs {x:V} {u:Value} (r:YF x u):Mi u=some x:=by
 cases x with
 | non=>cases r;rfl
 | bl _=>cases r;rfl
 | int _=>obtain ⟨t,rfl⟩:=r;rfl
 | str _=>obtain ⟨t,rfl⟩:=r;rfl
 | eY _=>obtain ⟨t,rfl⟩:=r;rfl
 | flt _=>obtain ⟨t,rfl⟩:=r;rfl
 | ref _=>cases r;rfl
 | ty _=>cases r;rfl
theorem YF.inj {x y:V} {u:Value} (r:YF x u) (q:YF y u):x=y:=Option.some.inj (r.abs.symm.trans q.abs)
theorem Yw.inj:∀ {xs ys:List V} {us:List Value},Yw xs us->Yw ys us->xs=ys
 | _,_,_,.nil,.nil=>rfl
 | _,_,_,.cons r t,.cons r' t'=>by rw [r.inj r',Yw.inj t t']
section
variable {X:Cx} {pins:List (Addr×Obj)} {σ:St} {H:Hp} {s:Shared} {a:Addr} {xs ys:List V}
theorem aG.of {K:W.Frag} (h:H a=some (.lst xs)):aG K H a xs := .inl (.inl h)
theorem aJ.of {K:W.Frag} (h:H a=some (.tup xs)):aJ K H a xs := .inl (.inl h)
theorem Inv.list (I:Inv X pins σ H s) (h:aG X.K H a xs):∃ its:List Value,Yw xs its/\PlainL s.heap a its.toArray/\xs.length<=sizeLine:=by
 rcases h with h | ⟨o,its,n,hk,hc,hd,hs,hz,r⟩
 ·obtain ⟨z,its,n,r,e⟩:=h.ok I.hok
  exact ⟨its,r,⟨_,n,e,rfl,rfl,rfl⟩,z⟩
 ·refine ⟨its.toList,r,⟨o,n,I.bA a o hk,hc,hd,by simpa using hs⟩,?_⟩
  have e:=r.length;simp only [Array.length_toList] at e;omega
theorem Inv.tuple (I:Inv X pins σ H s) (h:aJ X.K H a xs):∃ its:List Value,Yw xs its/\IsTup s.heap a its.toArray/\xs.length<=sizeLine:=by
 rcases h with h | ⟨o,its,n,hk,hc,hs,hz,r⟩
 ·obtain ⟨z,its,r,p⟩:=h.ok I.hok
  exact ⟨its,r,p,z⟩
 ·refine ⟨its.toList,r,⟨o,I.bA a o hk,hc,n,by simpa using hs⟩,?_⟩
  have e:=r.length;simp only [Array.length_toList] at e;omega
theorem Inv.jK (I:Inv X pins σ H s) (h:aG X.K H a xs) (h':aG X.K H a ys):xs=ys:=by
 obtain ⟨its,r,⟨o,n,e,_,_,d⟩,_⟩:=I.list h;obtain ⟨its',r',⟨o',n',e',_,_,d'⟩,_⟩:=I.list h';rw [e] at e';cases e'
 rw [d] at d'
 injection d' with d1 _
 have:its=its':=by simpa using congrArg Array.toList d1
 subst this;exact r.inj r'
theorem Inv.iU (I:Inv X pins σ H s) (h:aJ X.K H a xs) (h':aJ X.K H a ys):xs=ys:=by
 obtain ⟨its,r,⟨o,e,_,n,d⟩,_⟩:=I.tuple h;obtain ⟨its',r',⟨o',e',_,n',d'⟩,_⟩:=I.tuple h';rw [e] at e';cases e'
 rw [d] at d'
 injection d' with d1 _
 have:its=its':=by simpa using congrArg Array.toList d1
 subst this;exact r.inj r'
end
abbrev Cx.wish (X:Cx) (E:Value->Shared->Prop):Cx:={ X with xe:=E }
abbrev Cx.cN (X:Cx):Cx:=X.wish fun _ _=>False
theorem Cx.Ok.wish {X:Cx} (ok:X.Ok) (E:Value->Shared->Prop):(X.wish E).Ok :=
 ⟨ok.mod,ok.kind,ok.glob,ok.blt,ok.above,ok.inj,ok.has,ok.cab,ok.hd,ok.frames,ok.stk,ok.rY,ok.bs,ok.dO,ok.gF,ok.iJ,ok.bV,ok.d9⟩
theorem Cx.Ok.cA {X:Cx} {E:Value->Shared->Prop} (ok:(X.wish E).Ok):X.Ok :=
 ⟨ok.mod,ok.kind,ok.glob,ok.blt,ok.above,ok.inj,ok.has,ok.cab,ok.hd,ok.frames,ok.stk,ok.rY,ok.bs,ok.dO,ok.gF,ok.iJ,ok.bV,ok.d9⟩
section
variable {X:Cx} {pins:List (Addr×Obj)} {σ:St} {H:Hp} {s:Shared} {E:Value->Shared->Prop}
theorem Inv.wish (I:Inv X pins σ H s) (E:Value->Shared->Prop):Inv (X.wish E) pins σ H s:=⟨I.ok.wish E,I.os,I.bare,I.base,I.loc,I.cell,I.free,I.aV,I.pin,I.hok,I.len⟩
theorem Inv.cA (I:Inv (X.wish E) pins σ H s):Inv X pins σ H s:=⟨I.ok.cA,I.os,I.bare,I.base,I.loc,I.cell,I.free,I.aV,I.pin,I.hok,I.len⟩
theorem SP.cA {D:Ends} {f:Flow} {s':Shared} (h:SP (X.wish E) pins D f s'):SP X pins D f s':=by
 cases f with
 | next=>obtain ⟨σ',H',I,q⟩:=h;exact ⟨σ',H',I.cA,q⟩
 | brk=>obtain ⟨σ',H',I,q⟩:=h;exact ⟨σ',H',I.cA,q⟩
 | cont=>obtain ⟨σ',H',I,q⟩:=h;exact ⟨σ',H',I.cA,q⟩
 | ret u=>obtain ⟨v,σ',H',I,r,q⟩:=h;exact ⟨v,σ',H',I.cA,r,q⟩
theorem cM.cN {st:List Stmt} {t:TS} (h:cM X.cN st t):cM X st t:=fun pins s σ H D I hw =>
 wpAny_mono (h pins s σ H D (I.wish _) hw) (fun _ _ q=>q.cA) fun _ _ z=>False.elim z
end
section
variable {X:Cx} {st:Stmt} {rest:List Stmt} {t u:TS} {e:Expr} {te:TE} {pos:Pos}
def Uk:TS:=fun D σ H=>D.nx σ H
def UK (t u:TS):TS:=fun D σ H=>t { D with nx:=u D } σ H
theorem Yq:cM X [] Uk:=fun _ _ σ H _ I h=>wpAny_execs_nil ⟨σ,H,I,h⟩
theorem Yd (h1:PS X st t) (h2:cM X rest u):cM X (st::rest) (UK t u):=by
 intro pins s σ H D I h;refine wpAny_execs_cons (aL (h1 pins s σ H { D with nx:=u D } I h) fun f s1 q=>?_)
 cases f with
 | next =>
  obtain ⟨σ',H',I',q⟩:=q;exact h2 pins s1 σ' H' D I' q
 | ret v=>exact q
 | brk=>exact q
 | cont=>exact q
theorem Ye (h1:PS X st t):cM X [st] t:=by
 intro pins s σ H D I h;refine wpAny_execs_cons (aL (h1 pins s σ H D I h) fun f s1 q=>?_)
 cases f with
 | next=>exact wpAny_execs_nil q
 | ret v=>exact q
 | brk=>exact q
 | cont=>exact q
def FP:TS:=fun D σ H=>D.bk σ H
def FQ:TS:=fun D σ H=>D.ct σ H
theorem Inv.quiet {pins:List (Addr×Obj)} {σ:St} {H:Hp} {s:Shared} (I:Inv X pins σ H s):interactive X.env=false:=by simp [interactive,I.ok.kind]
def wz (te:TE):TS:=fun D σ H=>te σ H fun _ H1=>D.nx σ H1
theorem Y4 (he:PE X e te) (hs:swapsWith e none pos.line X.env=pure false):PS X (.Expr e pos) (wz te):=by
 intro pins s σ H D I h;exact wpAny_Expr_any (aL (he pins s σ H _ I h) fun v s1 ⟨x,H1,I1,r1,q1⟩=>⟨σ,H1,I1,q1⟩) I.quiet hs
def qN (te:TE):TS:=fun D σ H=>te σ H D.rt
theorem Yn (he:PE X e te):PS X (.Return (some e) pos) (qN te):=by
 intro pins s σ H D I h;exact wpAny_Return_some (aL (he pins s σ H _ I h) fun v s1 ⟨x,H1,I1,r1,q1⟩=>⟨x,σ,H1,I1,r1,q1⟩)
def FT:TS:=fun D _ H=>D.rt .non H
def QH (c:TT) (t u:TS):TS:=fun D σ H=>c σ H fun b H1=>if b=true then t D σ H1 else u D σ H1
theorem Yu {c:Expr} {a b:List Stmt} {tc:TT} (hc:PT X c tc) (ha:cM X a t) (hb:cM X b u):PS X (.If c a b pos) (QH tc t u):=by
 intro pins s σ H D I h;refine wpAny_If (aL (hc pins s σ H _ I h) fun d s1 ⟨H1,I1,q1⟩=>?_)
 cases d with
 | true=>exact ha pins s1 σ H1 D I1 q1
 | false=>exact hb pins s1 σ H1 D I1 q1
def QI:TS:=fun _ _ _=>False
theorem YB:PS X st QI:=fun _ _ _ _ _ _ h=>h.elim
end
abbrev TG:=V->St->Hp->(St->Hp->Prop)->Prop
abbrev jL:=List V->St->Hp->(St->Hp->Prop)->Prop
def PG (X:Cx) (target:Expr) (t:TG):Prop :=
 ∀ (pins:List (Addr×Obj)) (s:Shared) (σ:St) (H:Hp) (v:V) (u:Value) (Q:St->Hp->Prop),Inv X pins σ H s->YF v u->t v σ H Q ->
  wpAny (model X.prog X.w) X.A (assign target X.env u) (fun _ s'=>∃ σ' H',Inv X pins σ' H' s'/\Q σ' H') X.xe s
def sE (X:Cx) (ts:List Expr) (t:jL):Prop :=
 ∀ (pins:List (Addr×Obj)) (s:Shared) (σ:St) (H:Hp) (vs:List V) (us:List Value) (Q:St->Hp->Prop),Inv X pins σ H s->Yw vs us->t vs σ H Q ->
  wpAny (model X.prog X.w) X.A (assignInOrder ((assignEach ts X.env).map (·.2)) us) (fun _ s'=>∃ σ' H',Inv X pins σ' H' s'/\Q σ' H') X.xe s
abbrev qO:=V->V->V->Hp->(Hp->Prop)->Prop
def wA (X:Cx) (t:qO):Prop :=
 ∀ (pins:List (Addr×Obj)) (s:Shared) (σ:St) (H:Hp) (o i v:V) (ov iv u:Value) (Q:Hp->Prop),Inv X pins σ H s->YF o ov->YF i iv->YF v u->t o i v H Q ->
  wpAny (model X.prog X.w) X.A (setItem ov iv u) (fun _ s'=>∃ H',Inv X pins σ H' s'/\Q H') X.xe s
abbrev FW:=V->V->Hp->VK->Prop
section
variable {X:Cx} {pos:Pos}
def YT (i:Nat):TG:=fun v σ H Q=>Q (σ.set i (some v)) H
theorem Yz {i:Nat} {x:Str} (hN:X.N.Nodup) (hi:X.N[i]?=some x) (hx:Loc X.env.scope x) (hf:X.fn x=true\/X.env.scope.names.lookup x=some .local:=by first | exact .inl rfl | exact .inr rfl | assumption):PG X (.Name x pos) (YT i):=by
 intro pins s σ H v u Q I r h;exact wpAny_assign_Name (V7 I hN hi hx r (fun s' I'=>⟨_,H,I',h⟩) hf)
def wB:jL:=fun vs σ H Q=>vs=[]/\Q σ H
def FZ (t:TG) (u:jL):jL:=fun vs σ H Q=>∃ v r,vs=v::r/\t v σ H fun σ' H'=>u r σ' H' Q
theorem XZ:sE X [] wB:=by
 intro pins s σ H vs us Q I r h;obtain ⟨e,h⟩:=h;subst e
 cases r
 exact assignInOrder_nil ⟨σ,H,I,h⟩
theorem Y5 {e:Expr} {es:List Expr} {t:TG} {u:jL} (h1:PG X e t) (h2:sE X es u)
  (hs:(assignEach (e::es) X.env).map (·.2)=assign e X.env::(assignEach es X.env).map (·.2)):sE X (e::es) (FZ t u):=by
 intro pins s σ H vs us Q I r h;obtain ⟨v,vr,e1,h⟩:=h;subst e1
 cases r with
 | cons r rr =>
  rw [hs];refine assignInOrder_cons (aL (h1 pins s σ H _ _ _ I r h) fun _ s1 ⟨σ1,H1,I1,q1⟩=>?_);exact h2 pins s1 σ1 H1 _ _ Q I1 rr q1
def qP (K:W.Frag) (n:Nat) (t:jL):TG:=fun v σ H Q=>∃ a xs,v = .ref a/\aJ K H a xs/\xs.length=n/\t xs σ H Q
theorem Wl {es:List Expr} {k:Nat} {t:jL} {n:Nat} (hc:X.calm=true) (h:sE X es t)
  (hn:(assignEach es X.env).length=n) (hst:(assignEach es X.env).findIdx? (·.1)=none):PG X (.Tuple es k pos) (qP X.K n t):=by
 intro pins s σ H v u Q I r hw;obtain ⟨a,xs,e1,hq,hl,hw⟩:=hw;subst e1
 cases r
 obtain ⟨its,rv,ht,hz⟩:=I.tuple hq;refine assign_Tuple_tuple (I.ok.hd hc) ht (by simp [hn,<- hl,rv.length]) hst fun h' hx=>?_
 have I1:Inv X pins σ H { s with heap:=h' }:=I.kept (t':=s.toks) fun b o e=>hx b o (Nat.ne_of_lt (Heap.lt_size e)) e
 exact h pins _ σ H xs _ Q I1 (by simpa using rv) hw
def qQ (to ti:TE) (t:qO):TG:=fun v σ H Q=>to σ H fun o H1=>ti σ H1 fun i H2=>t o i v H2 fun H3=>Q σ H3
theorem Od {o i:Expr} {to ti:TE} {t:qO} (ho:PE X o to) (hi:PE X i ti) (hs:wA X t)
  (ha:∀ v,assign (.Subscript o i pos) X.env v=(do
   let ov <- holding [v] (eval o X.env)
   let iv <- holding [v,ov] (eval i X.env)
   standAt pos
   holding [v,ov,iv] (setItem ov iv v)
   release [v,ov,iv] [])):PG X (.Subscript o i pos) (qQ to ti t):=by
 intro pins s σ H v u Q I r h;rw [ha];refine wpAny_bind (wpAny_holding (aL (ho pins s σ H _ I h) fun ov s1 ⟨x,H1,I1,r1,q1⟩=>?_));refine wpAny_bind (wpAny_holding (aL (hi pins s1 σ H1 _ I1 q1) fun iv s2 ⟨y,H2,I2,r2,q2⟩=>?_));refine wpAny_bind (wpAny_standAt (wpAny_bind (wpAny_holding (aL (hs pins s2 σ H2 x y v ov iv u _ I2 r1 r2 r q2) fun _ s3 ⟨H3,I3,q3⟩=>?_))));exact wpAny_release ⟨σ,H3,I3,q3⟩
def QJ (te:TE) (g:TG):TS:=fun D σ H=>te σ H fun x H1=>g x σ H1 D.nx
theorem QK {tg e:Expr} {te:TE} {g:TG} (he:PE X e te) (hg:PG X tg g) (hs:swapsWithSole [tg] e pos.line X.env=pure false) (hw:swappedStores [tg] e X.env=pure none)
  (h1:(assignEach [tg] X.env).map (·.2)=[assign tg X.env]):PS X (.Assign [tg] e pos) (QJ te g):=by
 intro pins s σ H D I h;refine wpAny_Assign_stores (aL (he pins s σ H _ I h) fun v s1 ⟨x,H1,I1,r1,q1⟩=>?_) hs hw;rw [h1];exact aL (hg pins s1 σ H1 x v _ I1 r1 q1) fun _ s2 q=>q
theorem Yr {i:Nat} {x:Str} {e:Expr} {te:TE} {pos':Pos} (hN:X.N.Nodup) (hi:X.N[i]?=some x) (hx:Loc X.env.scope x) (he:PE X e te) (hs:swapsWith e (some (.Name x pos')) pos.line X.env=pure false) (hf:X.fn x=true\/X.env.scope.names.lookup x=some .local) :
  PS X (.Assign [.Name x pos'] e pos) (QJ te (YT i)):=by
 intro pins s σ H D I h;refine wpAny_Assign_Name (aL (he pins s σ H _ I h) fun v s1 ⟨y,H1,I1,r1,q1⟩=>?_) hs;exact V7 I1 hN hi hx r1 (fun s2 I2=>⟨_,H1,I2,q1⟩) hf
def wC (i:Nat) (te:TE) (ti:FW):TS:=fun D σ H=>gb i σ fun x=>te σ H fun y H1=>ti x y H1 fun z H2=>D.nx (σ.set i (some z)) H2
def Ga (f:Int->Int->Int):FW:=fun x y H Q=>kI x fun i=>kI y fun j=>Q (.int (f i j)) H
theorem oJ {x y:V} {k:Int->Int->Prop} (h:kI x fun i=>kI y fun j=>k i j):∃ i j,x = .int i/\y = .int j/\k i j:=by
 obtain ⟨i,e,h⟩:=UH.mp h;obtain ⟨j,e',h⟩:=UH.mp h;exact ⟨i,j,e,e',h⟩
def Gb (c:TT) (tb:TS):TS:=fun D σ H=>∃ W:Nat->St->Hp->Prop,(∃ m,W m σ H)/\∀ m σ H,W m σ H ->
 c σ H fun b H1=>if b=true then ∃ N:St->Hp->Prop,(∀ σ' H',N σ' H'->∃ m',m'<m/\W m' σ' H')/\tb { D with nx:=N,ct:=N,bk:=D.nx } σ H1 else D.nx σ H1
theorem X8 {c:Expr} {body:List Stmt} {tc:TT} {tb:TS} (hp:PassesOwn (model X.prog X.w) X.A X.env X.xe) (hc:PT X c tc) (hb:cM X body tb):PS X (.While c body [] pos) (Gb tc tb):=by
 intro pins s σ H D I h;obtain ⟨W,⟨m0,w0⟩,turn⟩:=h;refine wpAny_While (codeAny_whileLoop (fun n s'=>∃ σ' H',Inv X pins σ' H' s'/\W n σ' H') ?_ m0 ⟨σ,H,I,w0⟩);rintro n s1 ⟨σ1,H1,I1,w1⟩;refine wpAny_passesOwn hp (aL (hc pins s1 σ1 H1 _ I1 (turn n σ1 H1 w1)) fun b s2 ⟨H2,I2,q2⟩=>?_)
 cases b with
 | true =>
  obtain ⟨N,hN,q2⟩:=q2;rw [if_pos rfl];refine wpAny_passesOwn hp (aL (hb pins s2 σ1 H2 _ I2 q2) fun f s3 q3=>?_)
  cases f with
  | next =>
   obtain ⟨σ3,H3,I3,n3⟩:=q3;obtain ⟨m',hm,w3⟩:=hN σ3 H3 n3;exact ⟨m',hm,σ3,H3,I3,w3⟩
  | cont =>
   obtain ⟨σ3,H3,I3,n3⟩:=q3;obtain ⟨m',hm,w3⟩:=hN σ3 H3 n3;exact ⟨m',hm,σ3,H3,I3,w3⟩
  | brk=>exact q3
  | ret v=>exact q3
 | false =>
  rw [if_neg Bool.false_ne_true];exact wpAny_execs_nil ⟨σ1,H2,I2,q2⟩
end
structure It where
 go:Nat->Hp->Prop
 iV:Nat->Hp->V->Hp->Prop
 stop:Nat->Hp->Prop
def Wm (X:Cx) (pins:List (Addr×Obj)) (H:Hp) (b:Addr):Prop :=
 H b=none/\b≠X.env.locals/\b∉X.fs/\(b∈X.ex\/X.s₀.heap.objs.size<=b)/\(∀ x c,X.env.cells.lookup x=some c->c≠b)/\∀ p∈X.pn++pins,p.1≠b
theorem Inv.eV {X:Cx} {pins:List (Addr×Obj)} {σ:St} {H H':Hp} {s:Shared} {b:Addr} (I:Inv X pins σ H s) (hb:s.heap.objs.size<=b) (hn:H' b=none):Wm X pins H' b:=by
 refine ⟨hn,Nat.ne_of_gt (Nat.lt_of_lt_of_le I.lt hb),I.Mg hb,.inr (Nat.le_trans I.sz hb),fun x c e z=>?_,fun p hp z=>?_⟩
 ·obtain ⟨v,q⟩:=I.cell x c e
  exact absurd (Nat.lt_of_lt_of_le q.lt (by rw [z];exact hb)) (Nat.lt_irrefl _)
 ·exact absurd (Nat.lt_of_lt_of_le (Heap.lt_size (I.pin p hp).1) (by rw [z];exact hb)) (Nat.lt_irrefl _)
structure Turn (P:Program) (w:World) (K:W.Frag) (tg:Expr) (J:It) (fp:List Addr) (it:Addr) (tn:Nat->Heap->Prop):Prop where
 mem:it∈fp
 obj:∀ i h,tn i h->∀ b∈fp,∃ o,h.get? b=some o/\∀ v,o.data ≠ .cell v
 keep:∀ i h h',tn i h->(∀ b∈fp,∀ o,h.get? b=some o->h'.get? b=some o)->tn i h'
 item:∀ (X:Cx),X.prog=P->X.w=w->X.K=K->X.calm=true->∀ (i:Nat) (pins:List (Addr×Obj)) (s:Shared) (σ:St) (H:Hp) (E:Value->Shared->Prop),Inv X pins σ H s->(∀ b∈fp,Wm X pins H b)->tn i s.heap->J.go i H ->
  wpAny (model P w) X.A (pyNext (.ref it)) (fun r s1=>∃ u,r=some u /\
   wpAny (model P w) X.A (letOwnedTupleGo tg (.ref it) u) (fun _ s2=>∃ x H',Inv X pins σ H' s2/\YF x u/\J.iV i H x H'/\tn (i+1) s2.heap/\∀ b∈fp,H' b=none) E s1) E s
 done:∀ (X:Cx),X.prog=P->X.w=w->X.K=K->X.calm=true->∀ (i:Nat) (pins:List (Addr×Obj)) (s:Shared) (σ:St) (H:Hp) (E:Value->Shared->Prop),Inv X pins σ H s->(∀ b∈fp,Wm X pins H b)->tn i s.heap->J.stop i H ->
  wpAny (model P w) X.A (pyNext (.ref it)) (fun r s1=>r=none/\Inv X pins σ H s1) E s
 self:∀ (A:Around) (i:Nat) (s:Shared) (Q:Value->Shared->Prop) (E:Value->Shared->Prop),tn i s.heap->Q (.ref it) s->wpAny (model P w) A (pyIter (.ref it)) Q E s
abbrev TI:=St->Hp->(It->Hp->Prop)->Prop
def PIE (X:Cx) (pins:List (Addr×Obj)) (σ:St) (tg:Expr) (R:It->Hp->Prop) (itv:Value) (s2:Shared):Prop :=
 ∃ (it:Addr) (fp:List Addr) (tn:Nat->Heap->Prop) (J:It) (H':Hp),itv = .ref it/\Inv X pins σ H' s2/\Turn X.prog X.w X.K tg J fp it tn/\tn 0 s2.heap/\(∀ b∈fp,Wm X pins H' b)/\R J H'
def PI (X:Cx) (tg iter:Expr) (wi:TI):Prop :=
 ∀ (pins:List (Addr×Obj)) (s:Shared) (σ:St) (H:Hp) (R:It->Hp->Prop),Inv X pins σ H s->wi σ H R ->
  wpAny (model X.prog X.w) X.A (eval iter X.env) (fun v s1=>wpAny (model X.prog X.w) X.A (pyIter v) (PIE X pins σ tg R) X.xe s1) X.xe s
theorem Ul {M:Model} {A:Around} {E:Value->Shared->Prop} {s:Shared} {tg:Expr} {it:Addr} {u:Value} {o:Obj} {n:String} {vs:Array Value} {Q:Unit->Shared->Prop} (ho:s.heap.get? it=some o) (hc:o.cls = .type n) (hd:o.data = .fields vs)
  (hn:["enumerate","zip","dict_itemiterator","dict_reverseitemiterator","odict_iterator","itertools.zip_longest","itertools.pairwise"].contains n=false) (hQ:Q () s):wpAny M A (letOwnedTupleGo tg (.ref it) u) Q E s:=by
 unfold letOwnedTupleGo
 cases tg<;>first
  | exact wpAny_pure hQ
  | (cases u<;>first
    | exact wpAny_pure hQ
    | (refine wpAny_bind (wpAny_load ho ?_)
       rw [hc,hd]
       show wpAny M A (if (["enumerate","zip","dict_itemiterator","dict_reverseitemiterator","odict_iterator","itertools.zip_longest","itertools.pairwise"].contains n&&vs[0]?==some (rawInt _))=true then _ else _) Q E s
       rw [if_neg (by intro h;rw [hn,Bool.false_and] at h;cases h)];exact wpAny_pure hQ))
def lW (K:W.Frag) (a:Addr):It :=
 ⟨fun i H=>∃ xs x,aG K H a xs/\xs[i]?=some x,fun i H x H'=>H'=H/\∀ xs,aG K H a xs->xs[i]?=some x,fun i H=>∃ xs,aG K H a xs/\xs.length<=i⟩
def lX (K:W.Frag) (a:Addr):It :=
 ⟨fun i H=>∃ xs x,aJ K H a xs/\xs[i]?=some x,fun i H x H'=>H'=H/\∀ xs,aJ K H a xs->xs[i]?=some x,fun i H=>∃ xs,aJ K H a xs/\xs.length<=i⟩
def jM (lo:Int) (n:Nat):It:=⟨fun i _=>i<n,fun i H x H'=>H'=H/\x = .int (lo+i),fun i _=>n<=i⟩
theorem Oe {P:Program} {w:World} {K:W.Frag} {tg:Expr} (a it:Addr):Turn P w K tg (lW K a) [it] it (fun i h=>h.IsListIter it a i) where
 mem:=by simp
 obj:=fun i h st b hb=>by
  have e:b=it:=by simpa using hb
  subst e;obtain ⟨o,e,c,d⟩:=st;exact ⟨o,e,fun v z=>by rw [d] at z;cases z⟩
 keep:=fun i h h' st k=>st.at fun o e=>k it (by simp) o e
 item:=by
  intro X hP hw hK hc i pins s σ H E I hf st hg;subst hP hw hK;obtain ⟨xs,x,hq,hx⟩:=hg;obtain ⟨its,rv,p,hz⟩:=I.list hq;obtain ⟨u,hu,ru⟩:=rv.get hx;obtain ⟨f0,f1,f2,f3,f4,f5⟩:=hf it (by simp);refine wpAny_pyNext_list_item st p.isList (x:=u) (by simpa using hu) fun h' st' sb=>?_
  have I1:Inv X pins σ H { s with heap:=h' }:=I.turned (t':=s.toks) (fun b o hb e=>(sb.2 b hb).trans e) f0 f1 f3 f4 f5;obtain ⟨o,e,c,d⟩:=id st';exact ⟨u,rfl,Ul (s:={ s with heap:=h' }) e c d (by decide) ⟨x,H,I1,ru,⟨rfl,fun ys hy=>by rw [I.jK hy hq];exact hx⟩,st',fun b hb=>(hf b hb).1⟩⟩
 done:=by
  intro X hP hw hK hc i pins s σ H E I hf st hg;subst hP hw hK;obtain ⟨xs,hq,hx⟩:=hg;obtain ⟨its,rv,p,hz⟩:=I.list hq;obtain ⟨f0,f1,f2,f3,f4,f5⟩:=hf it (by simp);have hl:=rv.length;exact wpAny_pyNext_list_end (I.ok.hd hc) st p.isList (by simp;omega) fun h' eb=>⟨rfl,I.turned (t':=s.toks) (fun b o hb e=>eb b o hb e) f0 f1 f3 f4 f5⟩
 self:=fun _ _ _ _ _ st h=>wpAny_pyIter_listiter st h
theorem Og {P:Program} {w:World} {K:W.Frag} {tg:Expr} (a it:Addr):Turn P w K tg (lX K a) [it] it (fun i h=>h.IsTupleIter it a i) where
 mem:=by simp
 obj:=fun i h st b hb=>by
  have e:b=it:=by simpa using hb
  subst e;obtain ⟨o,e,c,d⟩:=st;exact ⟨o,e,fun v z=>by rw [d] at z;cases z⟩
 keep:=fun i h h' st k=>st.at fun o e=>k it (by simp) o e
 item:=by
  intro X hP hw hK hc i pins s σ H E I hf st hg;subst hP hw hK;obtain ⟨xs,x,hq,hx⟩:=hg;obtain ⟨its,rv,p,hz⟩:=I.tuple hq;obtain ⟨u,hu,ru⟩:=rv.get hx;obtain ⟨f0,f1,f2,f3,f4,f5⟩:=hf it (by simp);refine wpAny_pyNext_tuple_item st (show s.heap.IsTuple a its.toArray from p) (x:=u) (by simpa using hu) fun h' st' sb=>?_
  have I1:Inv X pins σ H { s with heap:=h' }:=I.turned (t':=s.toks) (fun b o hb e=>(sb.2 b hb).trans e) f0 f1 f3 f4 f5;obtain ⟨o,e,c,d⟩:=id st';exact ⟨u,rfl,Ul (s:={ s with heap:=h' }) e c d (by decide) ⟨x,H,I1,ru,⟨rfl,fun ys hy=>by rw [I.iU hy hq];exact hx⟩,st',fun b hb=>(hf b hb).1⟩⟩
 done:=by
  intro X hP hw hK hc i pins s σ H E I hf st hg;subst hP hw hK;obtain ⟨xs,hq,hx⟩:=hg;obtain ⟨its,rv,p,hz⟩:=I.tuple hq;obtain ⟨f0,f1,f2,f3,f4,f5⟩:=hf it (by simp);have hl:=rv.length;exact wpAny_pyNext_tuple_end (I.ok.hd hc) st (show s.heap.IsTuple a its.toArray from p) (by simp;omega) fun h' eb=>⟨rfl,I.turned (t':=s.toks) (fun b o hb e=>eb b o hb e) f0 f1 f3 f4 f5⟩
 self:=fun _ _ _ _ _ st h=>wpAny_pyIter_tupleiter st h
theorem Oh {P:Program} {w:World} {K:PySem.W.Frag} {tg:Expr} (it:Addr) (lo:Int) (n:Nat):Turn P w K tg (jM lo n) [it] it (fun i h=>IsRangeIter h it (lo+(i:Nat)*1) ((n:Int) - (i:Nat)) 1) where
 mem:=by simp
 obj:=fun i h st b hb=>by
  have e:b=it:=by simpa using hb
  subst e;exact ⟨_,st,fun v z=>by
   have z':Data.fields _=Data.cell v:=z
   cases z'⟩
 keep:=fun i h h' st k=>k it (by simp) _ st
 item:=by
  intro X hP hw hK hc i pins s σ H E I hf st hg;subst hP hw hK;obtain ⟨f0,f1,f2,f3,f4,f5⟩:=hf it (by simp);have W:=Walks.range (prog:=X.prog) (w:=X.w) (I.ok.hd hc) it lo 1 n;refine W.item i s _ _ hg st fun v h' tk hv st' kk=>?_
  obtain ⟨t,rfl⟩:=hv;have I1:Inv X pins σ H { s with heap:=h',toks:=tk }:=I.turned (fun b o hb e=>kk b o (by simpa using hb) e) f0 f1 f3 f4 f5;refine ⟨_,rfl,Ul (s:={ s with heap:=h',toks:=tk }) (n:="range_iterator") st' rfl rfl (by decide) ⟨.int (lo+i),H,I1,⟨t,?_⟩,⟨rfl,rfl⟩,st',fun b hb=>(hf b hb).1⟩⟩;rw [Int.mul_one]
 done:=by
  intro X hP hw hK hc i pins s σ H E I hf st hg;subst hP hw hK;obtain ⟨f0,f1,f2,f3,f4,f5⟩:=hf it (by simp);exact wpAny_pyNext_range_end (I.ok.hd hc) st (by have:n<=i:=hg;omega) fun h' eb=>⟨rfl,I.turned (t':=s.toks) (fun b o hb e=>eb b o hb e) f0 f1 f3 f4 f5⟩
 self:=fun _ _ _ _ _ st h=>wpAny_pyIter_rangeiter st h
section
variable {X:Cx} {tg:Expr}
def WG (K:W.Frag) (tl:TE):TI:=fun σ H R=>tl σ H fun x H1=>∃ a,x = .ref a/\(∃ xs,aG K H1 a xs)/\R (lW K a) H1
def qR (K:W.Frag) (tl:TE):TI:=fun σ H R=>tl σ H fun x H1=>∃ a,x = .ref a/\(∃ xs,aJ K H1 a xs)/\R (lX K a) H1
theorem Xj {l:Expr} {tl:TE} (hl:PE X l tl):PI X tg l (WG X.K tl):=by
 intro pins s σ H R I h;refine aL (hl pins s σ H _ I h) fun v s1 ⟨x,H1,I1,r1,q1⟩=>?_
 obtain ⟨a,e,⟨xs,hq⟩,q⟩:=q1;subst e
 cases r1
 obtain ⟨its,rv,p,hz⟩:=I1.list hq;refine wpAny_pyIter_list p.isList ?_;refine ⟨s1.heap.objs.size,[s1.heap.objs.size],_,_,H1,rfl,I1.kept (t':=s1.toks) fun b o e=>Heap.get?_push_of_some _ e,Oe a _,⟨_,Heap.get?_push_size _ rfl,rfl,rfl⟩,fun b hb=>?_,q⟩;have e:b=s1.heap.objs.size:=by simpa using hb
 subst e;exact I1.eV (Nat.le_refl _) (I1.hok.fresh (Nat.le_refl _))
theorem Gd {l:Expr} {tl:TE} (hl:PE X l tl):PI X tg l (qR X.K tl):=by
 intro pins s σ H R I h;refine aL (hl pins s σ H _ I h) fun v s1 ⟨x,H1,I1,r1,q1⟩=>?_
 obtain ⟨a,e,⟨xs,hq⟩,q⟩:=q1;subst e
 cases r1
 obtain ⟨its,rv,p,hz⟩:=I1.tuple hq;refine wpAny_pyIter_tuple (show s1.heap.IsTuple a its.toArray from p) ?_;refine ⟨s1.heap.objs.size,[s1.heap.objs.size],_,_,H1,rfl,I1.kept (t':=s1.toks) fun b o e=>Heap.get?_push_of_some _ e,Og a _,⟨_,Heap.get?_push_size _ rfl,rfl,rfl⟩,fun b hb=>?_,q⟩;have e:b=s1.heap.objs.size:=by simpa using hb
 subst e;exact I1.eV (Nat.le_refl _) (I1.hok.fresh (Nat.le_refl _))
theorem Oi {pins:List (Addr×Obj)} {σ:St} {H:Hp} {s:Shared} {R:It->Hp->Prop} {E:Value->Shared->Prop} {lo hi:Int} {t u v:Tok} {tk:Nat} (I:Inv X pins σ H s) (h1 : -(2^62)<=lo) (h2:lo<2^62) (h3 : -(2^62)<=hi) (h4:hi<2^62)
  (q:R (jM lo (hi - lo).toNat) H):wpAny (model X.prog X.w) X.A (pyIter (.ref s.heap.objs.size)) (PIE X pins σ tg R) E { s with heap:=s.heap.push { cls := .type "range",data := .fields #[.int lo t,.int hi u,.int 1 v] },toks:=tk }:=by
 refine wpAny_pyIter_range (IsRange.new ..) (small_one h1 h2 h3 h4) ?_;have I1:Inv X pins σ H { s with heap:=s.heap.push { cls := .type "range",data := .fields #[.int lo t,.int hi u,.int 1 v] },toks:=tk }:=I.kept fun b o e=>Heap.get?_push_of_some _ e
 refine ⟨(s.heap.push { cls := .type "range",data := .fields #[.int lo t,.int hi u,.int 1 v] }).objs.size,[(s.heap.push { cls := .type "range",data := .fields #[.int lo t,.int hi u,.int 1 v] }).objs.size],_,_,H,rfl,
  I1.kept (t':=tk) fun b o e=>Heap.get?_push_of_some _ e,Oh _ lo (hi - lo).toNat,?_,fun b hb=>?_,q⟩
 ·have e1:lo+((0:Nat):Int)*1=lo:=by simp
  have e2:(((hi - lo).toNat:Nat):Int) - ((0:Nat):Int)=Builtin.Range.rangeSize lo hi 1:=by rw [rangeSize_one];split<;>omega
  show IsRangeIter _ _ (lo+((0:Nat):Int)*1) ((((hi - lo).toNat:Nat):Int) - ((0:Nat):Int)) 1
  rw [e1,e2];exact Heap.get?_push_size _ rfl
 ·have e:b=(s.heap.push { cls := .type "range",data := .fields #[.int lo t,.int hi u,.int 1 v] }).objs.size:=by simpa using hb
  subst e;exact I1.eV (Nat.le_refl _) (I1.hok.fresh (Nat.le_refl _))
def Qz (ta:TA):TI:=fun σ H R=>ta σ H fun vs H1=>∃ j:Int,vs=[.int j] /\ -(2^62)<=j/\j<2^62/\R (jM 0 j.toNat) H1
theorem Wf {a:Expr} {ta:TA} {p pos:Pos} (hg:Gl X "range") (hm:X.mg "range"=none) (ha:PA X [a] ta) (hs:starEach [a] X.env=[(false,eval a X.env)]):PI X tg (.Call (.Name "range" p) [a] [] pos) (Qz ta):=by
 intro pins s σ H R I h;refine Call_ (X1 I hg hm boot_range (PyProof.Rows.callWith_type1 (aL (ha pos pins s σ H _ I h) fun us s1 ⟨vs,H1,I1,r1,q1⟩=>?_) hs rfl));obtain ⟨j,e,q1,q2,q⟩:=q1;subst e
 cases r1 with
 | cons r rr =>
  cases rr
  obtain ⟨t,rfl⟩:=r;exact call_range_1 (Oi I1 (by omega) (by omega) q1 q2 (by simpa using q))
def Vj (wi:TI) (g:TG) (tb:TS):TS:=fun D σ H=>wi σ H fun J H1=>∃ W:Nat->Nat->St->Hp->Prop,(∃ m,W 0 m σ H1)/\∀ i m σ H,W i m σ H ->
 (J.stop i H/\D.nx σ H)\/(J.go i H/\∃ N:St->Hp->Prop,(∀ σ' H',N σ' H'->∃ m',m'<m/\W (i+1) m' σ' H')/\∀ x H',J.iV i H x H'->g x σ H' fun σ2 H2=>tb { D with nx:=N,ct:=N,bk:=D.nx } σ2 H2)
def Vv (fp:List Addr) (h:Heap):List (Addr×Obj):=fp.filterMap fun b=>(h.get? b).map fun o=>(b,o)
theorem Wn {fp:List Addr} {h:Heap} {b:Addr} {o:Obj} (hb:b∈fp) (e:h.get? b=some o):(b,o)∈Vv fp h:=List.mem_filterMap.mpr ⟨b,hb,by rw [e];rfl⟩
theorem Oj {fp:List Addr} {h:Heap} {p:Addr×Obj} (hp:p∈Vv fp h):p.1∈fp/\h.get? p.1=some p.2:=by
 obtain ⟨b,hb,e⟩:=List.mem_filterMap.mp hp
 cases q:h.get? b with
 | none=>rw [q] at e;cases e
 | some o =>
  rw [q] at e
  have e':(b,o)=p:=Option.some.inj e;subst e';exact ⟨hb,q⟩
theorem Inv.pinned {pins:List (Addr×Obj)} {σ:St} {H:Hp} {s:Shared} {fp:List Addr} (I:Inv X pins σ H s) (hf:∀ b∈fp,Wm X pins H b) (ho:∀ b∈fp,∃ o,s.heap.get? b=some o/\∀ v,o.data ≠ .cell v):Inv X (pins++Vv fp s.heap) σ H s :=
 I.lV fun p hp=>(List.mem_append.mp hp).elim (fun z=>I.pin p (List.mem_append_right _ z)) fun z=>by
  obtain ⟨hb,e⟩:=Oj z;obtain ⟨f0,f1,f2,_⟩:=hf p.1 hb;obtain ⟨o,e',d⟩:=ho p.1 hb;rw [e] at e';cases e'
  exact ⟨e,f0,f1,f2,d⟩
theorem Inv.dG {pins pl:List (Addr×Obj)} {σ:St} {H:Hp} {s:Shared} (I:Inv X (pins++pl) σ H s):Inv X pins σ H s:=I.lV fun p hp=>I.pin p (List.mem_append_right _ (List.mem_append_left _ hp))
theorem Xo {iter:Expr} {body:List Stmt} {wi:TI} {g:TG} {tb:TS} {pos:Pos} (hp:PassesOwn (model X.prog X.w) X.A X.env X.xe) (hc:X.calm=true) (hi:PI X tg iter wi) (hg:PG X tg g) (hb:cM X body tb)
  (hs:∀ x,foldedSetIterable iter X.env x=pure x):PS X (.For tg iter body [] pos) (Vj wi g tb):=by
 intro pins s σ H D I h;refine wpAny_For (aL (hi pins s σ H _ I h) fun v s1 h1=>aL h1 fun itv s2 h2=>?_) hs;obtain ⟨it,fp,tn,J,H2,e,I2,T,st2,f2,W,⟨m0,w0⟩,turn⟩:=h2;subst e
 -- what stays true of the iterator's objects through the loop
 have stat:∀ {H':Hp},(∀ b∈fp,H' b=none)->∀ b∈fp,Wm X pins H' b:=fun hn b hb=>⟨hn b hb,(f2 b hb).2⟩
 refine codeAny_forLoop_any (fun n s'=>∃ i σ' H',Inv X pins σ' H' s'/\tn i s'.heap/\(∀ b∈fp,H' b=none)/\W i n σ' H') ?_ m0 ⟨0,σ,H2,I2,st2,fun b hb=>(f2 b hb).1,w0⟩;rintro n s3 ⟨i,σ3,H3,I3,st3,lY,w3⟩;rcases turn i n σ3 H3 w3 with ⟨stop,qn⟩ | ⟨go,N,hN,step⟩
 ·refine wpAny_passesOwn hp (aL (T.done X rfl rfl rfl hc i pins s3 σ3 H3 X.xe I3 (stat lY) st3 stop) fun r s4 ⟨hr,I4⟩=>?_)
  subst hr;exact wpAny_execs_nil ⟨σ3,H3,I4,qn⟩
 ·refine wpAny_passesOwn hp (aL (T.item X rfl rfl rfl hc i pins s3 σ3 H3 X.xe I3 (stat lY) st3 go) fun r s4 ⟨u,hr,h4⟩=>?_)
  subst hr;refine wpAny_passesOwn hp (aL h4 fun _ s5 ⟨x,H5,I5,r5,y5,lZ,iW⟩=>?_);have Ol:=I5.pinned (stat iW) (T.obj _ _ lZ);refine wpAny_passesOwn hp (aL (hg _ s5 σ3 H5 x u _ Ol r5 (step x H5 y5)) fun _ s6 ⟨Om,H6,I6,q6⟩=>?_);refine wpAny_passesOwn hp (aL (hb _ s6 Om H6 _ I6 q6) fun f s7 q7=>?_);have again:∀ {eE:St} {H7:Hp},Inv X (pins++Vv fp s5.heap) eE H7 s7->N eE H7->∃ m,m<n/\∃ i σ' H',Inv X pins σ' H' s7/\tn i s7.heap/\(∀ b∈fp,H' b=none)/\W i m σ' H':=fun {eE H7} I7 n7=>by
   obtain ⟨m',hm,w7⟩:=hN eE H7 n7;refine ⟨m',hm,i+1,eE,H7,I7.dG,T.keep _ _ _ lZ fun b hb o e=>(I7.pin (b,o) (List.mem_append_right _ (List.mem_append_right _ (Wn hb e)))).1,fun b hb=>?_,w7⟩;obtain ⟨o,e,d⟩:=T.obj _ _ lZ b hb;exact (I7.pin (b,o) (List.mem_append_right _ (List.mem_append_right _ (Wn hb e)))).2.1
  cases f with
  | next=>obtain ⟨eE,H7,I7,n7⟩:=q7;exact again I7 n7
  | cont=>obtain ⟨eE,H7,I7,n7⟩:=q7;exact again I7 n7
  | brk=>obtain ⟨eE,H7,I7,q7⟩:=q7;exact ⟨eE,H7,I7.dG,q7⟩
  | ret v=>obtain ⟨x7,eE,H7,I7,r7,q7⟩:=q7;exact ⟨x7,eE,H7,I7.dG,r7,q7⟩
end
theorem QL {K:PySem.W.Frag} {a:Addr} {xs:List V} {g:TG} {tb:TS} {D:Ends} {σ:St} {H:Hp} (Pv:Nat->St->Hp->Prop) (h0:Pv 0 σ H) (hl:∀ i σ H,i<=xs.length->Pv i σ H->aG K H a xs)
  (hs:∀ i x σ H,xs[i]?=some x->Pv i σ H->g x σ H fun σ2 H2=>tb { D with nx:=Pv (i+1),ct:=Pv (i+1),bk:=D.nx } σ2 H2) (hd:∀ σ H,Pv xs.length σ H->D.nx σ H) :
  ∃ W:Nat->Nat->St->Hp->Prop,(∃ m,W 0 m σ H)/\∀ i m σ H,W i m σ H ->
   ((lW K a).stop i H/\D.nx σ H)\/((lW K a).go i H/\∃ N:St->Hp->Prop,(∀ σ' H',N σ' H'->∃ m',m'<m/\W (i+1) m' σ' H')/\∀ x H',(lW K a).iV i H x H'->g x σ H' fun σ2 H2=>tb { D with nx:=N,ct:=N,bk:=D.nx } σ2 H2):=by
 refine ⟨fun i m σ H=>m=xs.length - i/\i<=xs.length/\Pv i σ H,⟨xs.length,by simp,Nat.zero_le _,h0⟩,?_⟩;rintro i m σ H ⟨rfl,hi,p⟩;have q:=hl i σ H hi p;by_cases hlt:i<xs.length
 ·refine .inr ⟨⟨xs,xs[i],q,by simp [hlt]⟩,Pv (i+1),fun σ' H' p'=>⟨xs.length - (i+1),by omega,rfl,hlt,p'⟩,fun x H' y=>?_⟩
  obtain ⟨e,y⟩:=y;subst e;exact hs i x σ _ (y xs q) p
 ·have e:i=xs.length:=by omega
  subst e;exact .inl ⟨⟨xs,q,Nat.le_refl _⟩,hd σ H p⟩
theorem Oo {K:PySem.W.Frag} {a:Addr} {xs:List V} {g:TG} {tb:TS} {D:Ends} {σ:St} {H:Hp} (Pv:Nat->St->Hp->Prop) (h0:Pv 0 σ H) (hl:∀ i σ H,i<=xs.length->Pv i σ H->aJ K H a xs)
  (hs:∀ i x σ H,xs[i]?=some x->Pv i σ H->g x σ H fun σ2 H2=>tb { D with nx:=Pv (i+1),ct:=Pv (i+1),bk:=D.nx } σ2 H2) (hd:∀ σ H,Pv xs.length σ H->D.nx σ H) :
  ∃ W:Nat->Nat->St->Hp->Prop,(∃ m,W 0 m σ H)/\∀ i m σ H,W i m σ H ->
   ((lX K a).stop i H/\D.nx σ H)\/((lX K a).go i H/\∃ N:St->Hp->Prop,(∀ σ' H',N σ' H'->∃ m',m'<m/\W (i+1) m' σ' H')/\∀ x H',(lX K a).iV i H x H'->g x σ H' fun σ2 H2=>tb { D with nx:=N,ct:=N,bk:=D.nx } σ2 H2):=by
 refine ⟨fun i m σ H=>m=xs.length - i/\i<=xs.length/\Pv i σ H,⟨xs.length,by simp,Nat.zero_le _,h0⟩,?_⟩;rintro i m σ H ⟨rfl,hi,p⟩;have q:=hl i σ H hi p;by_cases hlt:i<xs.length
 ·refine .inr ⟨⟨xs,xs[i],q,by simp [hlt]⟩,Pv (i+1),fun σ' H' p'=>⟨xs.length - (i+1),by omega,rfl,hlt,p'⟩,fun x H' y=>?_⟩
  obtain ⟨e,y⟩:=y;subst e;exact hs i x σ _ (y xs q) p
 ·have e:i=xs.length:=by omega
  subst e;exact .inl ⟨⟨xs,q,Nat.le_refl _⟩,hd σ H p⟩
theorem Oq {lo:Int} {n:Nat} {g:TG} {tb:TS} {D:Ends} {σ:St} {H:Hp} (Pv:Nat->St->Hp->Prop) (h0:Pv 0 σ H)
  (hs:∀ i σ H,i<n->Pv i σ H->g (.int (lo+i)) σ H fun σ2 H2=>tb { D with nx:=Pv (i+1),ct:=Pv (i+1),bk:=D.nx } σ2 H2) (hd:∀ σ H,Pv n σ H->D.nx σ H) :
  ∃ W:Nat->Nat->St->Hp->Prop,(∃ m,W 0 m σ H)/\∀ i m σ H,W i m σ H ->
   ((jM lo n).stop i H/\D.nx σ H)\/((jM lo n).go i H/\∃ N:St->Hp->Prop,(∀ σ' H',N σ' H'->∃ m',m'<m/\W (i+1) m' σ' H')/\∀ x H',(jM lo n).iV i H x H'->g x σ H' fun σ2 H2=>tb { D with nx:=N,ct:=N,bk:=D.nx } σ2 H2):=by
 refine ⟨fun i m σ H=>m=n - i/\i<=n/\Pv i σ H,⟨n,by simp,Nat.zero_le _,h0⟩,?_⟩;rintro i m σ H ⟨rfl,hi,p⟩;by_cases hlt:i<n
 ·refine .inr ⟨hlt,Pv (i+1),fun σ' H' p'=>⟨n - (i+1),by omega,rfl,hlt,p'⟩,fun x H' y=>?_⟩
  obtain ⟨e,y⟩:=y;subst e y;exact hs i σ _ hlt p
 ·have e:i=n:=by omega
  subst e;exact .inl ⟨Nat.le_refl _,hd σ H p⟩
abbrev R2:=V->V->Hp->VK->Prop
def bI (X:Cx) (f:Value->Value->Sem Value) (r:R2):Prop :=
 ∀ (pins:List (Addr×Obj)) (s:Shared) (σ:St) (H:Hp) (x y:V) (v u:Value) (Q:VK),Inv X pins σ H s->YF x v->YF y u->r x y H Q ->
  wpAny (model X.prog X.w) X.A (f v u) (EP X pins σ Q) X.xe s
def wD (X:Cx) (f:Value->Sem Value) (r:V->Hp->VK->Prop):Prop :=
 ∀ (pins:List (Addr×Obj)) (s:Shared) (σ:St) (H:Hp) (x:V) (v:Value) (Q:VK),Inv X pins σ H s->YF x v->r x H Q ->
  wpAny (model X.prog X.w) X.A (f v) (EP X pins σ Q) X.xe s
def XH (X:Cx) (f:Value) (r:List V->Hp->VK->Prop):Prop :=
 ∀ (pins:List (Addr×Obj)) (s:Shared) (σ:St) (H:Hp) (xs:List V) (us:List Value) (Q:VK),Inv X pins σ H s->Yw xs us->r xs H Q ->
  wpAny (model X.prog X.w) X.A (call f us) (EP X pins σ Q) X.xe s
def iY (r:R2) (ta tb:TE):TE:=fun σ H Q=>ta σ H fun x H1=>tb σ H1 fun y H2=>r x y H2 Q
def wF (r:V->Hp->VK->Prop) (ta:TE):TE:=fun σ H Q=>ta σ H fun x H1=>r x H1 Q
def rI (C:Int->Int->Prop) (g:Int->Int->V):R2:=fun x y H Q=>kI x fun i=>kI y fun j=>C i j/\Q (g i j) H
def gj (g:Int->Int->V):R2:=fun x y H Q=>kI x fun i=>kI y fun j=>Q (g i j) H
def rU (g:Int->V):V->Hp->VK->Prop:=fun x H Q=>kI x fun i=>Q (g i) H
section
variable {X:Cx} {a b c:Expr} {ta tb tc:TE} {pos:Pos}
theorem qT (ha:PE X a ta) (hb:PE X b tb) {pins:List (Addr×Obj)} {s:Shared} {σ:St} {H:Hp} {R:V->V->Hp->Prop} (I:Inv X pins σ H s)
  (h:ta σ H fun x H1=>tb σ H1 fun y H2=>R x y H2) {Q:Value->Shared->Prop} {f:Value->Value->Sem Value}
  (hf:∀ v u s2 x y H2,Inv X pins σ H2 s2->YF x v->YF y u->R x y H2->wpAny (model X.prog X.w) X.A (f v u) Q X.xe s2) :
  wpAny (model X.prog X.w) X.A (eval a X.env) (fun v s₁=>wpAny (model X.prog X.w) X.A (eval b X.env) (fun u s₂=>wpAny (model X.prog X.w) X.A (f v u) Q X.xe s₂) X.xe s₁) X.xe s:=by
 refine aL (ha pins s σ H _ I h) fun v s1 ⟨x,H1,I1,r1,q1⟩=>?_
 refine aL (hb pins s1 σ H1 _ I1 q1) fun u s2 ⟨y,H2,I2,r2,q2⟩=>?_
 exact hf v u s2 x y H2 I2 r1 r2 q2
theorem Yt {op:Operator} {r:R2} (ho:bI X (binaryOp op) r) (ha:PE X a ta) (hb:PE X b tb):PE X (.BinOp a op b pos) (iY r ta tb):=by
 intro pins s σ H Q I h;exact wpAny_BinOp (qT ha hb I h fun v u s2 x y H2 I2 rx ry q=>ho pins s2 σ H2 x y v u Q I2 rx ry q)
theorem VP {op:UnaryOp} {r:V->Hp->VK->Prop} (ho:wD X (unaryOp op) r) (ha:PE X a ta):PE X (.UnaryOp op a pos) (wF r ta):=by
 intro pins s σ H Q I h;exact UnaryOp_ (aL (ha pins s σ H _ I h) fun v s1 ⟨x,H1,I1,r1,q1⟩=>ho pins s1 σ H1 x v Q I1 r1 q1)
theorem mj {f:Value->Value->Sem Value} {C:Int->Int->Prop} {g:Int->Int->Int}
  (rule:∀ (i j:Int) (t u:Tok) (s:Shared) (Q:Value->Shared->Prop) (E:Value->Shared->Prop),C i j->Q (.int (g i j) s.toks) { s with toks:=s.toks+1 }->wpAny (model X.prog X.w) X.A (f (.int i t) (.int j u)) Q E s) :
  bI X f (rI C fun i j => .int (g i j)):=by
 intro pins s σ H x y v u Q I rx ry h
 replace h:=oJ h
 obtain ⟨i,j,rfl,rfl,hc,q⟩:=h;obtain ⟨t,rfl⟩:=rx;obtain ⟨t',rfl⟩:=ry;exact rule i j t t' s _ _ hc ⟨.int (g i j),H,I.tok _,⟨_,rfl⟩,q⟩
theorem wG {f:Value->Value->Sem Value} {g:Int->Int->Int}
  (rule:∀ (i j:Int) (t u:Tok) (s:Shared) (Q:Value->Shared->Prop) (E:Value->Shared->Prop),Q (.int (g i j) s.toks) { s with toks:=s.toks+1 }->wpAny (model X.prog X.w) X.A (f (.int i t) (.int j u)) Q E s) :
  bI X f (gj fun i j => .int (g i j)):=by
 intro pins s σ H x y v u Q I rx ry h
 replace h:=oJ h
 obtain ⟨i,j,rfl,rfl,q⟩:=h;obtain ⟨t,rfl⟩:=rx;obtain ⟨t',rfl⟩:=ry;exact rule i j t t' s _ _ ⟨.int (g i j),H,I.tok _,⟨_,rfl⟩,q⟩
theorem sG {f:Value->Value->Sem Value} {g:Int->Int->Bool}
  (rule:∀ (i j:Int) (t u:Tok) (s:Shared) (Q:Value->Shared->Prop) (E:Value->Shared->Prop),Q (.bool (g i j)) s->wpAny (model X.prog X.w) X.A (f (.int i t) (.int j u)) Q E s) :
  bI X f (gj fun i j => .bl (g i j)):=by
 intro pins s σ H x y v u Q I rx ry h
 replace h:=oJ h
 obtain ⟨i,j,rfl,rfl,q⟩:=h;obtain ⟨t,rfl⟩:=rx;obtain ⟨t',rfl⟩:=ry;exact rule i j t t' s _ _ ⟨.bl (g i j),H,I,rfl,q⟩
def qU (i j:Int):Prop:=0<=j/\j<=1000000/\i.natAbs<2^64
def qW (i j:Int):Prop:=(-(2^64)<i/\i<2^64)\/(-(2^64)<j/\j<2^64)
theorem qW.ok {i j:Int} (h:qW i j):IntMulOk i j:=by
 rcases h with ⟨h1,h2⟩ | ⟨h1,h2⟩
 ·exact .of_left (intBits_le_64 h1 h2)
 ·exact .of_right (intBits_le_64 h1 h2)
theorem Ot (k:Nat):(0:Int)<=2^k:=by
 rw [two_pow_cast];exact Int.natCast_nonneg _
theorem Xi:bI X (binaryOp .Add) (gj fun i j => .int (i+j)):=wG fun _ _ _ _ _ _ _ q=>add_int q
theorem Xz:bI X (binaryOp .Sub) (gj fun i j => .int (i - j)):=wG fun _ _ _ _ _ _ _ q=>sub_int q
theorem XT:bI X (binaryOp .Mod) (rI (fun _ j=>0<j) fun i j => .int (i%j)):=mj fun i j _ _ _ _ _ hc q=>by
 have h1:(0:Int)<j:=hc;exact mod_int' (by omega) (by rw [Int.fmod_eq_emod_of_nonneg i (by omega)];exact q)
theorem Ge:bI X (binaryOp .Pow) (rI qU fun i j => .int (i^j.toNat)):=mj fun _ _ _ _ _ _ _ hc q=>pow_int_small hc.1 hc.2.1 hc.2.2 q
theorem Gf:bI X (binaryOp .LShift) (rI qU fun i j => .int (i*2^j.toNat)):=mj fun _ _ _ _ _ _ _ hc q=>lshift_int_small hc.1 hc.2.1 hc.2.2 q
theorem Gg:bI X (binaryOp .RShift) (rI (fun _ j=>0<=j) fun i j => .int (i / 2^j.toNat)):=mj fun i j _ _ _ _ _ hc q =>
 rshift_int hc (by rw [Int.fdiv_eq_ediv_of_nonneg i (Ot _)];exact q)
theorem Ou {f:Value->Sem Value} {g:Int->Int}
  (rule:∀ (i:Int) (t:Tok) (s:Shared) (Q:Value->Shared->Prop) (E:Value->Shared->Prop),Q (.int (g i) s.toks) { s with toks:=s.toks+1 }->wpAny (model X.prog X.w) X.A (f (.int i t)) Q E s) :
  wD X f (rU fun i => .int (g i)):=by
 intro pins s σ H x v Q I rx h;obtain ⟨i,rfl,q⟩:=UH.mp h;obtain ⟨t,rfl⟩:=rx;exact rule i t s _ _ ⟨.int (g i),H,I.tok _,⟨_,rfl⟩,q⟩
theorem Va:wD X (unaryOp .USub) (rU fun i => .int (-i)):=Ou fun _ _ _ _ _ q=>neg_int q
end
def sH:V->V->Bool
 | .non,.non=>true | .non,.int _=>true | .int _,.non=>true | .non,.bl _=>true | .bl _,.non=>true | .non,.str _=>true | .str _,.non=>true
 | .int _,.int _=>true | .bl _,.bl _=>true | .str _,.str _=>true | .eY _,.eY _=>true
 | .int _,.str _=>true | .str _,.int _=>true | .bl _,.str _=>true | .str _,.bl _=>true
 | _,_=>false
def kEq (x y:V) (k:Bool->Prop):Prop:=match x,y with
 | .int i,.int j=>k (decide (i=j))
 | .str i,.str j=>k (decide (i=j))
 | x,y=>sH x y=true/\k (decide (x=y))
theorem Gh (i j:Int) (k:Bool->Prop):kEq (.int i) (.int j) k=k (decide (i=j)):=rfl
theorem Gi (i j:Str) (k:Bool->Prop):kEq (.str i) (.str j) k=k (decide (i=j)):=rfl
theorem wH {x y:V} {k:Bool->Prop}:kEq x y k↔sH x y=true/\k (decide (x=y)):=by
 unfold kEq
 split
 ·rename_i i j
  rw [show decide (V.int i=V.int j)=decide (i=j) from by simp];exact ⟨fun h=>⟨rfl,h⟩,fun h=>h.2⟩
 ·rename_i i j
  rw [show decide (V.str i=V.str j)=decide (i=j) from by simp];exact ⟨fun h=>⟨rfl,h⟩,fun h=>h.2⟩
 ·exact Iff.rfl
def oK:R2:=fun x y H Q=>kEq x y fun b=>Q (.bl b) H
def wI:R2:=fun x y H Q=>kEq x y fun b=>Q (.bl (!b)) H
theorem Gj {i j:Int}:decide (V.int i=V.int j)=(i==j):=by
 rw [Bool.eq_iff_iff];simp
theorem Gk {i j:Bool}:decide (V.bl i=V.bl j)=(i==j):=by
 rw [Bool.eq_iff_iff];simp
theorem Gm {i j:Str}:decide (V.str i=V.str j)=(i==j):=by
 rw [Bool.eq_iff_iff];simp
theorem Gn {i j:Array UInt8}:decide (V.eY i=V.eY j)=(i.toList==j.toList):=by
 rw [Bool.eq_iff_iff]
 cases i
 cases j
 simp
section
variable {X:Cx} {a b c:Expr} {ta tb tc:TE} {pos:Pos}
theorem YQ {pins:List (Addr×Obj)} {σ:St} {H:Hp} {s:Shared} {Q:VK} {k k':Bool} (I:Inv X pins σ H s) (q:Q (.bl k) H) (e:k=k'):EP X pins σ Q (.bool k') s:=by
 subst e;exact ⟨.bl k,H,I,rfl,q⟩
theorem YJ:bI X (compareOp .Eq) oK:=by
 intro pins s σ H x y v u Q I rx ry h;obtain ⟨hs,q⟩:=wH.mp h
 cases x with
 | non =>
  cases rx
  cases y with
  | non=>cases ry;exact PySem.EqNone.eq_none_none (YQ I q (by simp))
  | bl j=>cases ry;exact PySem.EqNone.eq_none_bool (YQ I q (by simp))
  | int j=>obtain ⟨t',rfl⟩:=ry;exact PySem.EqNone.eq_none_int (YQ I q (by simp))
  | str j=>obtain ⟨t',rfl⟩:=ry;exact PySem.EqNone.eq_none_str (YQ I q (by simp))
  | _=>exact absurd (show false=true from hs) Bool.false_ne_true
 | bl i =>
  cases rx
  cases y with
  | non=>cases ry;exact PySem.EqNone.eq_bool_none (YQ I q (by simp))
  | bl j=>cases ry;exact eq_bool (YQ I q Gk)
  | str j=>obtain ⟨t',rfl⟩:=ry;exact PySem.EqMixed.eq_bool_str (YQ I q (by simp))
  | _=>exact absurd (show false=true from hs) Bool.false_ne_true
 | int i =>
  obtain ⟨t,rfl⟩:=rx
  cases y with
  | non=>cases ry;exact PySem.EqNone.eq_int_none (YQ I q (by simp))
  | int j=>obtain ⟨t',rfl⟩:=ry;exact eq_int (YQ I q Gj)
  | str j=>obtain ⟨t',rfl⟩:=ry;exact PySem.EqMixed.eq_int_str (YQ I q (by simp))
  | _=>exact absurd (show false=true from hs) Bool.false_ne_true
 | str i =>
  obtain ⟨t,rfl⟩:=rx
  cases y with
  | non=>cases ry;exact PySem.EqNone.eq_str_none (YQ I q (by simp))
  | bl j=>cases ry;exact PySem.EqMixed.eq_str_bool (YQ I q (by simp))
  | int j=>obtain ⟨t',rfl⟩:=ry;exact PySem.EqMixed.eq_str_int (YQ I q (by simp))
  | str j=>obtain ⟨t',rfl⟩:=ry;exact eq_str (YQ I q Gm)
  | _=>exact absurd (show false=true from hs) Bool.false_ne_true
 | eY i =>
  obtain ⟨t,rfl⟩:=rx
  cases y with
  | eY j=>obtain ⟨t',rfl⟩:=ry;exact W.eq_bytes (YQ I q Gn)
  | _=>exact absurd (show false=true from hs) Bool.false_ne_true
 | _=>cases y<;>exact absurd (show false=true from hs) Bool.false_ne_true
theorem VQ:bI X (compareOp .NotEq) wI:=by
 intro pins s σ H x y v u Q I rx ry h;obtain ⟨hs,q⟩:=wH.mp h
 cases x with
 | non =>
  cases rx
  cases y with
  | non=>cases ry;exact PySem.EqNone.ne_none_none (YQ I q (by simp))
  | bl j=>cases ry;exact PySem.EqNone.ne_none_bool (YQ I q (by simp))
  | int j=>obtain ⟨t',rfl⟩:=ry;exact PySem.EqNone.ne_none_int (YQ I q (by simp))
  | str j=>obtain ⟨t',rfl⟩:=ry;exact PySem.EqNone.ne_none_str (YQ I q (by simp))
  | _=>exact absurd (show false=true from hs) Bool.false_ne_true
 | bl i =>
  cases rx
  cases y with
  | non=>cases ry;exact PySem.EqNone.ne_bool_none (YQ I q (by simp))
  | bl j=>cases ry;exact ne_bool (YQ I q (congrArg not Gk))
  | str j=>obtain ⟨t',rfl⟩:=ry;exact PySem.EqMixed.ne_bool_str (YQ I q (by simp))
  | _=>exact absurd (show false=true from hs) Bool.false_ne_true
 | int i =>
  obtain ⟨t,rfl⟩:=rx
  cases y with
  | non=>cases ry;exact PySem.EqNone.ne_int_none (YQ I q (by simp))
  | int j=>obtain ⟨t',rfl⟩:=ry;exact ne_int (YQ I q (congrArg not Gj))
  | str j=>obtain ⟨t',rfl⟩:=ry;exact PySem.EqMixed.ne_int_str (YQ I q (by simp))
  | _=>exact absurd (show false=true from hs) Bool.false_ne_true
 | str i =>
  obtain ⟨t,rfl⟩:=rx
  cases y with
  | non=>cases ry;exact PySem.EqNone.ne_str_none (YQ I q (by simp))
  | bl j=>cases ry;exact PySem.EqMixed.ne_str_bool (YQ I q (by simp))
  | int j=>obtain ⟨t',rfl⟩:=ry;exact PySem.EqMixed.ne_str_int (YQ I q (by simp))
  | str j=>obtain ⟨t',rfl⟩:=ry;exact ne_str (YQ I q (congrArg not Gm))
  | _=>exact absurd (show false=true from hs) Bool.false_ne_true
 | eY i =>
  obtain ⟨t,rfl⟩:=rx
  cases y with
  | eY j=>obtain ⟨t',rfl⟩:=ry;exact W.ne_bytes (YQ I q (congrArg not Gn))
  | _=>exact absurd (show false=true from hs) Bool.false_ne_true
 | _=>cases y<;>exact absurd (show false=true from hs) Bool.false_ne_true
theorem Gp:bI X (compareOp .Lt) (gj fun i j => .bl (decide (i<j))):=sG fun _ _ _ _ _ _ _ q=>lt_int q
theorem Um:bI X (compareOp .LtE) (gj fun i j => .bl (decide (i<=j))):=sG fun _ _ _ _ _ _ _ q=>le_int q
theorem WX:bI X (compareOp .Gt) (gj fun i j => .bl (decide (j<i))):=sG fun _ _ _ _ _ _ _ q=>gt_int q
theorem wJ:bI X (compareOp .GtE) (gj fun i j => .bl (decide (j<=i))):=sG fun _ _ _ _ _ _ _ q=>ge_int q
theorem XM:bI X (compareOp .Is) (fun x y H Q=>y = .non/\Q (.bl (decide (x = .non))) H):=by
 intro pins s σ H x y v u Q I rx ry h;obtain ⟨rfl,q⟩:=h
 cases ry
 refine is_none_gen (YQ I q ?_)
 cases x<;>first
  | (cases rx;rfl)
  | (obtain ⟨t,rfl⟩:=rx;rfl)
theorem Wg:bI X (compareOp .IsNot) (fun x y H Q=>y = .non/\Q (.bl (!decide (x = .non))) H):=by
 intro pins s σ H x y v u Q I rx ry h;obtain ⟨rfl,q⟩:=h
 cases ry
 refine isnot_none_gen (YQ I q ?_)
 cases x<;>first
  | (cases rx;rfl)
  | (obtain ⟨t,rfl⟩:=rx;rfl)
theorem Yl (b:Expr) {op:CmpOp} (h:op ≠ .In:=by decide) (h2:op ≠ .NotIn:=by decide):behindInMarks op b=false:=by
 have e1:(op==CmpOp.In)=false:=by cases op<;>first | rfl | exact absurd rfl h
 have e2:(op==CmpOp.NotIn)=false:=by cases op<;>first | rfl | exact absurd rfl h2
 cases b<;>simp [behindInMarks,e1,e2]
theorem Y2 {op:CmpOp} {r:R2} (ho:bI X (compareOp op) r) (ha:PE X a ta) (hb:PE X b tb) (hm:behindInMarks op b=false):PE X (.Compare a [op] [b] pos) (iY r ta tb):=by
 intro pins s σ H Q I h;exact wpAny_Compare1 (qT ha hb I h fun v u s2 x y H2 I2 rx ry q=>ho pins s2 σ H2 x y v u Q I2 rx ry q) hm
def Uo (t:TE):TT:=fun σ H Q=>t σ H fun x H'=>kB x fun k=>Q k H'
theorem Yo {op:CmpOp} {r:R2} (ho:bI X (compareOp op) r) (ha:PE X a ta) (hb:PE X b tb) (hm:behindInMarks op b=false):PT X (.Compare a [op] [b] pos) (Uo (iY r ta tb)):=by
 intro pins s σ H Q I h;refine wpAny_isTrue_Compare1 (aL (ha pins s σ H _ I h) fun v s1 ⟨x,H1,I1,r1,q1⟩=>aL (hb pins s1 σ H1 _ I1 q1) fun u s2 ⟨y,H2,I2,r2,q2⟩ =>
  aL (ho pins s2 σ H2 x y v u _ I2 r1 r2 q2) fun c s3 ⟨z,H3,I3,r3,q3⟩=>?_) hm
 replace q3:=V8.mp q3
 obtain ⟨k,e,q3⟩:=q3;subst e
 cases r3
 exact wpAny_truthy_bool ⟨H3,I3,q3⟩
def QM (r r':R2) (ta tb tc:TE):TE:=fun σ H Q=>ta σ H fun x H1=>tb σ H1 fun y H2=>r x y H2 fun z H3=>kB z fun k =>
 (if k=true then tc σ H3 fun w' H4=>r' y w' H4 Q else Q (.bl false) H3)
theorem Ov {op op':CmpOp} {r r':R2} (ho:bI X (compareOp op) r) (ho':bI X (compareOp op') r') (ha:PE X a ta) (hb:PE X b tb) (hc:PE X c tc)
  (hm:lastMarks [op,op'] [b,c]=false):PE X (.Compare a [op,op'] [b,c] pos) (QM r r' ta tb tc):=by
 intro pins s σ H Q I h;refine Compare_chain (aL (ha pins s σ H _ I h) fun v s1 ⟨x,H1,I1,r1,q1⟩=>chain_link (aL (hb pins s1 σ H1 _ I1 q1) fun u s2 ⟨y,H2,I2,r2,q2⟩ =>
  aL (ho pins s2 σ H2 x y v u _ I2 r1 r2 q2) fun d s3 ⟨z,H3,I3,r3,q3⟩=>?_)) hm
 replace q3:=V8.mp q3
 obtain ⟨k,e,q3⟩:=q3;subst e
 cases r3
 refine wpAny_truthy_bool ?_
 cases k with
 | false=>exact ite_ff ⟨.bl false,H3,I3,rfl,q3⟩
 | true=>exact ite_tt (chain_last (aL (hc pins s3 σ H3 _ I3 q3) fun w' s4 ⟨z',H4,I4,r4,q4⟩=>ho' pins s4 σ H4 y z' u w' Q I4 r2 r4 q4))
theorem Up:(sizeLine:Nat)<2^63:=by rw [sizeLine_eq];decide
theorem WH {x:V} {us:List Value} (r:Yw [x] us):∃ u,us=[u]/\YF x u:=by
 cases r with
 | cons r1 r2=>cases r2;exact ⟨_,rfl,r1⟩
theorem wK {x y:V} {us:List Value} (r:Yw [x,y] us):∃ u w',us=[u,w']/\YF x u/\YF y w':=by
 cases r with
 | cons r1 r2 =>
  cases r2 with
  | cons r3 r4=>cases r4;exact ⟨_,_,rfl,r1,r3⟩
def wL:List V->Hp->VK->Prop:=fun xs H Q=>k2 xs fun x y=>kI x fun i=>kI y fun j=>Q (.int (if j>i then j else i)) H
theorem Ow (hc:X.calm=true):XH X (.builtin "max") (wL):=by
 intro pins s σ H xs us Q I r h;obtain ⟨x,y,rfl,h1⟩:=qJ h;obtain ⟨i,j,rfl,rfl,q⟩:=oJ h1;obtain ⟨u,w',rfl,⟨t,rfl⟩,⟨t',rfl⟩⟩:=wK r;refine max_two_ints (I.ok.hd hc) fun h' tk k=>⟨_,H,I.kept k,?_,q⟩
 by_cases hj:j>i
 ·rw [if_pos hj,if_pos hj];exact ⟨_,rfl⟩
 ·rw [if_neg hj,if_neg hj];exact ⟨_,rfl⟩
def wM:List V->Hp->VK->Prop:=fun xs H Q=>k2 xs fun x y=>kI x fun i=>kI y fun j=>Q (.int (if j<i then j else i)) H
theorem Ox (hc:X.calm=true):XH X (.builtin "min") (wM):=by
 intro pins s σ H xs us Q I r h;obtain ⟨x,y,rfl,h1⟩:=qJ h;obtain ⟨i,j,rfl,rfl,q⟩:=oJ h1;obtain ⟨u,w',rfl,⟨t,rfl⟩,⟨t',rfl⟩⟩:=wK r;refine min_two_ints (I.ok.hd hc) fun h' tk k=>⟨_,H,I.kept k,?_,q⟩
 by_cases hj:j<i
 ·rw [if_pos hj,if_pos hj];exact ⟨_,rfl⟩
 ·rw [if_neg hj,if_neg hj];exact ⟨_,rfl⟩
theorem Oz:XH X (.type "int") (fun xs H Q=>(∃ i,xs=[.int i]/\Q (.int i) H)\/∃ k,xs=[.bl k]/\Q (.int (if k then 1 else 0)) H):=by
 intro pins s σ H xs us Q I r h;rcases h with ⟨i,rfl,q⟩ | ⟨k,rfl,q⟩
 ·obtain ⟨u,rfl,t,rfl⟩:=WH r
  exact call_int_int ⟨.int i,H,I,⟨_,rfl⟩,q⟩
 ·obtain ⟨u,rfl,r1⟩:=WH r
  cases r1
  exact call_int_bool ⟨.int (if k then 1 else 0),H,I.tok _,⟨_,rfl⟩,q⟩
theorem QN:XH X (.type "str") (fun xs H Q=>∃ i,xs=[.int i]/\i.natAbs.log2<1920/\Q (.str (toString i)) H):=by
 intro pins s σ H xs us Q I r h;obtain ⟨i,rfl,hz,q⟩:=h;obtain ⟨u,rfl,t,rfl⟩:=WH r;exact PySem.P.str_of_int hz ⟨.str _,H,I.tok _,⟨_,rfl⟩,q⟩
end
structure gG (h:Heap) (x dx C:Addr) (mA:Str->Option Value):Prop where
 obj:h.get? x=some (W.instObj C dx)
 ns:h.Ns1 dx mA
 ne:dx≠x
theorem OD {h:Heap} {dx:Addr} {mA:Str->Option Value} (n:h.Ns1 dx mA):∃ od,h.get? dx=some od/\∀ name,W.lookIn name od=some (mA name):=by
 obtain ⟨o,es,ep,ho,hd,hk,_,hm⟩:=n;refine ⟨o,ho,fun name=>?_⟩;have e:=hm name;unfold nsFind findBy at e;rw [<- Array.find?_toList] at e
 unfold W.lookIn;rw [hd];dsimp only
 split
 ·rename_i y q
  rw [q] at e
  exact congrArg some e
 ·rename_i q
  rw [q] at e
  have a:es.toList.any (·.refKey)=false:=by
   rw [List.any_eq_false];intro y hy;obtain ⟨z,t,hkey⟩:=hk y (Array.mem_toList_iff.mp hy);simp [DictEntry.refKey,hkey]
  have a':¬ es.toList.any (·.refKey)=true:=by rw [a];exact Bool.false_ne_true
  rw [if_neg a'];exact congrArg some e
theorem gG.look {h:Heap} {x dx C:Addr} {mA:Str->Option Value} (I:gG h x dx C mA):∃ od,W.InstAt h x (W.instObj C dx) C (some od)/\∀ name,W.lookIn name od=some (mA name) :=
 let ⟨od,ho,hl⟩:=OD I.ns
 ⟨od,⟨I.obj,rfl,rfl,ho⟩,hl⟩
section
variable {prog:Program} {w:World} {A:Around} {E:Value->Shared->Prop} {s:Shared} {K:W.Frag} {x dx C f:Addr} {mA:Str->Option Value} {name:Str} {v:Value}
theorem OJ {expr:Bool} {Q:Value->Shared->Prop} (X:K.In s.heap) (I:gG s.heap x dx C mA) (hg:W.plainGet K C name=true) (hh:W.hasDictIn K C=true)
  (ha:W.findIn K (.ref C) name=some none) (hv:mA name=some v) (hv':W.handedIn v=true) (h:Q v { s with toks:=s.toks+1 }) :
  wpAny (model prog w) A (getAttr (.ref x) name expr) Q E s:=by
 obtain ⟨od,J,hl⟩:=I.look;exact W.get_value X J (W.plainGet_of hg).1 (W.findObj_own hh ha rfl (by rw [hl,hv])) hv' h
theorem O1 {pl:Sem Bool} {Q:Value×List Value->Shared->Prop} (X:K.In s.heap) (I:gG s.heap x dx C mA) (hg:W.plainGet K C name=true)
  (hf:W.findIn K (.ref C) name=some (some (.ref f))) (ht:W.isFn K (.ref f)=true) (hv:mA name=none) (h:Q (.ref f,[.ref x]) s) :
  wpAny (model prog w) A (getMethod (.ref x) name pl) Q E s:=by
 obtain ⟨od,J,hl⟩:=I.look;exact W.method_fn X J (W.plainGet_of hg).1 (W.plainGet_of hg).2 hf (beq_iff_eq.mp ht) (by show (W.lookIn name od).map (·.isSome)=some false;rw [hl,hv];rfl) h
theorem O2 {ns:List Str} {Q:Unit->Shared->Prop} (X:K.In s.heap) (I:gG s.heap x dx C mA)
  (hs:W.findIn K (.ref C) "__setattr__"=some (some (.builtin "object.__setattr__"))) (hp:W.plainOver K C=true) (ht:W.takerIn K C name=some none) (hh:W.hasDictIn K C=true)
  (hw:PySem.Within mA ns) (hsz:ns.length<=sizeLine)
  (h:∀ h',gG h' x dx C (fun y=>if y=name then some v else mA y)->Heap.SameBut dx s.heap h'->Q () { s with heap:=h',toks:=s.toks+2 }) :
  wpAny (model prog w) A (setAttr (.ref x) name v) Q E s:=by
 obtain ⟨od,J,hl⟩:=I.look;refine W.set_plain X J hs (W.osa_open (s:={ s with toks:=s.toks+1 }) (r:=none) X J hp ht fun b=>?_);obtain ⟨cd,hc,hd'⟩:=W.any_some hh;have hx:s.heap.get? x=some ⟨.ref C,some dx,.plain,#[]⟩:=I.obj;refine wpAny_bind (wpAny_pure (wpAny_bind (wpAny_bind (wpAny_loadPart hx (wpAny_bind (W.Looks.here (s:={ s with toks:=s.toks+1 }) (W.looks_clsIn X hc) ?_))))));rw [hd'];refine wpAny_pure (a:=some dx) (wpAny_bind (wpAny_pure (wpAny_bind ?_)));refine wpAny_nsSet1 (s:={ s with toks:=s.toks+1 }) I.ns fun h' hn2 hs2=>?_
 obtain ⟨oD,esD,epD,hoD,hdD,hcD⟩:=hn2.count (PySem.Within.cons name v hw);refine wpAny_bind (wpAny_lookBehind hoD (by rw [hdD];exact pastItsLine_dict (Nat.le_trans hcD (by rw [List.length_cons];omega))) ?_);exact wpAny_pure (h _ ⟨(hs2.2 _ (Ne.symm I.ne)).trans I.obj,hn2,I.ne⟩ hs2)
theorem O4 {R:Result->Shared->Prop} {vs:List Value} {kw:List (Str×Value)} (X:K.In s.heap) (hm:W.makesIn K C=true)
  (hi:W.findIn K (.ref C) "__init__"=some (some (.ref f))) (hf:W.typeIn K (.ref f)=some (.type "function"))
  (h:codeAny (model prog w) (A.under (.builtin "type.__call__" ⟨.ref C::vs,kw⟩)) (.call (.ref f) ⟨.ref (s.heap.objs.size+1)::vs,kw⟩) (W.InitBack (s.heap.objs.size+1) R)
   { s with heap:=(s.heap.push W.emptyDict).push (W.instObj C s.heap.objs.size) }) :
  codeAny (model prog w) A (.call (.ref C) ⟨vs,kw⟩) R s:=by
 obtain ⟨hh,g,d,t,os⟩:=s;exact W.make_core (W.makes_of X hm) (W.looks_findIn X hi) (fun self=>W.bind_fn X self hf) (.inl rfl) h
end
def Xb (f:Str) (v:V):List (Str×V)->List (Str×V)
 | []=>[(f,v)]
 | (g,x)::r=>if g=f then (g,v)::r else (g,x)::Xb f v r
theorem V3 (f g:Str) (v:V):∀ fs:List (Str×V),(Xb f v fs).lookup g=if g=f then some v else fs.lookup g
 | []=>by
  show List.lookup g [(f,v)]=_
  by_cases h:g=f
  ·have hb:(g==f)=true:=beq_iff_eq.mpr h
   simp only [List.lookup,hb,if_pos h]
  ·have hb:(g==f)=false:=beq_eq_false_iff_ne.mpr h
   simp only [List.lookup,hb,if_neg h]
 | (k,x)::r=>by
  have ih:=V3 f g v r;rw [show Xb f v ((k,x)::r)=(if k=f then (k,v)::r else (k,x)::Xb f v r) from rfl];by_cases hk:k=f
  ·rw [if_pos hk]
   by_cases h:g=k
   ·have hb:(g==k)=true:=beq_iff_eq.mpr h
    simp only [List.lookup,hb,if_pos (h.trans hk)]
   ·have hb:(g==k)=false:=beq_eq_false_iff_ne.mpr h
    simp only [List.lookup,hb,if_neg (fun e:g=f=>h (e.trans hk.symm))]
  ·rw [if_neg hk]
   by_cases h:g=k
   ·have hb:(g==k)=true:=beq_iff_eq.mpr h
    simp only [List.lookup,hb,if_neg (fun e:g=f=>hk (h.symm.trans e))]
   ·have hb:(g==k)=false:=beq_eq_false_iff_ne.mpr h
    simp only [List.lookup,hb];exact ih
theorem Vw (f:Str) (v:V):∀ fs:List (Str×V),f∈(Xb f v fs).map (·.1)/\∀ g,g∈fs.map (·.1)->g∈(Xb f v fs).map (·.1)
 | []=>⟨by simp [Xb],fun g h=>by simp at h⟩
 | (k,x)::r=>by
  obtain ⟨i1,i2⟩:=Vw f v r;rw [show Xb f v ((k,x)::r)=(if k=f then (k,v)::r else (k,x)::Xb f v r) from rfl];by_cases hk:k=f
  ·rw [if_pos hk]
   subst hk;exact ⟨by simp,fun g h=>by simpa using h⟩
  ·rw [if_neg hk]
   refine ⟨?_,fun g h=>?_⟩
   ·rw [List.map_cons]
    exact List.mem_cons_of_mem _ i1
   ·rw [List.map_cons] at h ⊢
    rcases List.mem_cons.mp h with e | e
    ·exact List.mem_cons.mpr (.inl e)
    ·exact List.mem_cons_of_mem _ (i2 g e)
theorem W5 (f:Str) (v:V):∀ fs:List (Str×V),(Xb f v fs).length<=fs.length+1
 | []=>by simp [Xb]
 | (k,x)::r=>by
  have ih:=W5 f v r;rw [show Xb f v ((k,x)::r)=(if k=f then (k,v)::r else (k,x)::Xb f v r) from rfl];by_cases hk:k=f
  ·rw [if_pos hk,List.length_cons,List.length_cons];omega
  ·rw [if_neg hk,List.length_cons,List.length_cons];omega
theorem W4.some_of {v:V} {o:Option Value} (r:W4 (some v) o):∃ u,o=some u/\YF v u:=by
 cases o with
 | none=>exact (show False from r).elim
 | some u=>exact ⟨u,rfl,r⟩
theorem W4.none_of {o:Option Value} (r:W4 none o):o=none:=by
 cases o with
 | none=>rfl
 | some u=>exact (show False from r).elim
theorem O5 {v:V} {u:Value} (r:YF v u):W.handedIn u=true:=by
 cases v with
 | non=>cases (show u=Value.none from r);rfl
 | bl b=>cases (show u=Value.bool b from r);rfl
 | int i=>obtain ⟨t,e⟩:=(show ∃ t,u=Value.int i t from r);cases e;rfl
 | str x=>obtain ⟨t,e⟩:=(show ∃ t,u=Value.str x t from r);cases e;rfl
 | eY b=>obtain ⟨t,e⟩:=(show ∃ t,u=Value.bytes b t from r);cases e;rfl
 | flt b=>obtain ⟨t,e⟩:=(show ∃ t,u=Value.float b t from r);cases e;rfl
 | ref a=>cases (show u=Value.ref a from r);rfl
 | ty n=>cases (show u=Value.type n from r);rfl
section
variable {P:Program} {w:World} {H H':Hp} {h h':Heap} {a C dx:Addr} {fs fs':List (Str×V)}
theorem VR (hok:bf P w H h) (e:H a=some (.ins C dx fs)):∃ mA,gG h a dx C mA/\(∀ f,W4 (fs.lookup f) (mA f))/\PySem.Within mA (fs.map (·.1))/\fs.length<=1000/\H dx=some (.own a):=by
 obtain ⟨d,z,ne,ob,mA,n,r,q⟩:=(show YZ P w H h a (.ins C dx fs) from hok a _ e);exact ⟨mA,⟨ob,n,ne⟩,r,q,z,d⟩
end
structure Cls (K:W.Frag) (C:Addr):Prop where
 pg:W.plainGet K C Str.empty=true
 hd:W.hasDictIn K C=true
 po:W.plainOver K C=true
 sa:W.findIn K (.ref C) "__setattr__"=some (some (.builtin "object.__setattr__"))
theorem Cls.get {K:W.Frag} {C:Addr} (c:Cls K C) (f:Str):W.plainGet K C f=true:=c.pg
def Yp (K:W.Frag) (C:Addr) (f:Str):Prop:=W.findIn K (.ref C) f=some none
theorem Yp.taker {K:W.Frag} {C:Addr} {f:Str} (n:Yp K C f):W.takerIn K C f=some none:=by
 unfold W.takerIn;rw [show W.findIn K (.ref C) f=some none from n];rfl
structure Meth (K:W.Frag) (C:Addr) (m:Str) (f:Addr):Prop where
 at_:W.findIn K (.ref C) m=some (some (.ref f))
 fn:W.isFn K (.ref f)=true
 kp:W.keepIn K (.ref f)=true
section
variable {X:Cx} {pins:List (Addr×Obj)} {σ:St} {H:Hp} {s:Shared} {a C dx:Addr} {fs:List (Str×V)} {f:Str} {v:V} {A:Around} {E:Value->Shared->Prop}
theorem O6 {b:Bool} {Q:Value->Shared->Prop} (I:Inv X pins σ H s) (e:H a=some (.ins C dx fs)) (c:Cls X.K C) (n:Yp X.K C f) (l:fs.lookup f=some v)
  (h:∀ u s',Inv X pins σ H s'->YF v u->Q u s'):wpAny (model X.prog X.w) A (getAttr (.ref a) f b) Q E s:=by
 obtain ⟨mA,O,r,_,_,_⟩:=VR I.hok e;obtain ⟨u,hu,ru⟩:=W4.some_of (v:=v) (o:=mA f) (by rw [<- l];exact r f);exact OJ I.bA O (c.get f) c.hd n hu (O5 ru) (h u _ (I.tok _) ru)
theorem Uq {m:Str} {g:Addr} {pl:Sem Bool} {Q:Value×List Value->Shared->Prop} (I:Inv X pins σ H s) (e:H a=some (.ins C dx fs)) (c:Cls X.K C) (k:Meth X.K C m g) (l:fs.lookup m=none)
  (h:Q (.ref g,[.ref a]) s):wpAny (model X.prog X.w) A (getMethod (.ref a) m pl) Q E s:=by
 obtain ⟨mA,O,r,_,_,_⟩:=VR I.hok e;have hn:mA m=none:=W4.none_of (by rw [<- l];exact r m);exact O1 I.bA O (c.get m) k.at_ k.fn hn h
theorem O7 {y:V} {u:Value} {Q:Unit->Shared->Prop} (I:Inv X pins σ H s) (e:H a=some (.ins C dx fs)) (c:Cls X.K C) (n:Yp X.K C f) (hl:fs.length<1000) (ry:YF y u)
  (h:∀ s',Inv X pins σ (upd H a (.ins C dx (Xb f y fs))) s'->Q () s'):wpAny (model X.prog X.w) A (setAttr (.ref a) f u) Q E s:=by
 obtain ⟨mA,O,r,wi,_,ho⟩:=VR I.hok e;have hz:(fs.map (·.1)).length<=sizeLine:=by rw [List.length_map,sizeLine_eq];omega
 refine O2 I.bA O c.sa c.po n.taker c.hd wi hz fun h' O' sb=>h _ ?_
 have hd:∃ o,h'.get? dx=some o:=let ⟨o,_,_,e',_⟩:=O'.ns;⟨o,e'⟩
 refine I.write (x:=a) (e:=dx) (by rw [e];exact True.intro) (.inr ho) (fun b q hb z=>(sb.2 b hb).trans z) hd ?_;refine ⟨by rw [Yg O.ne];exact ho,?_,O.ne,O'.obj,_,O'.ns,fun g=>?_,fun g hg=>?_⟩
 ·have:=W5 f y fs;omega
 ·show W4 ((Xb f y fs).lookup g) (if g=f then some u else mA g)
  rw [V3];by_cases q:g=f
  ·rw [if_pos q,if_pos q];exact ry
  ·rw [if_neg q,if_neg q];exact r g
 ·by_cases q:g=f
  ·rw [q];exact (Vw f y fs).1
  ·refine (Vw f y fs).2 g (wi g fun z=>hg ?_)
   show (if g=f then some u else mA g)=none
   rw [if_neg q];exact z
theorem Inv.made (I:Inv X pins σ H s):Inv X pins σ (upd (upd H s.heap.objs.size (.own (s.heap.objs.size+1))) (s.heap.objs.size+1) (.ins C s.heap.objs.size []))
  { s with heap:=(s.heap.push W.emptyDict).push (W.instObj C s.heap.objs.size) }:=by
 have e1:(s.heap.push W.emptyDict).get? s.heap.objs.size=some W.emptyDict:=Heap.get?_push_size s.heap rfl;have e2:((s.heap.push W.emptyDict).push (W.instObj C s.heap.objs.size)).get? (s.heap.objs.size+1)=some (W.instObj C s.heap.objs.size):=by
  have:=Heap.get?_push_size (s.heap.push W.emptyDict) (o:=W.instObj C s.heap.objs.size) rfl
  rwa [Heap.size_push] at this
 have e3:(s.heap.push W.emptyDict).Ns s.heap.objs.size (fun _=>none):=⟨W.emptyDict,#[],_,e1,rfl,(fun e he=>absurd he (by simp)),fun _=>rfl⟩;have I1:=I.laid (a:=s.heap.objs.size) (o := .own (s.heap.objs.size+1)) (h':=s.heap.push W.emptyDict) (t':=s.toks) (fun b u q=>Heap.get?_push_of_some _ q) (Nat.le_refl _) ⟨_,e1⟩;refine I1.laid (a:=s.heap.objs.size+1) (o := .ins C s.heap.objs.size []) (t':=s.toks) (fun b u q=>Heap.get?_push_of_some _ q) (Nat.le_of_eq (Heap.size_push _ _)) ?_;have ne:s.heap.objs.size≠s.heap.objs.size+1:=Nat.ne_of_lt (Nat.lt_succ_self _);refine ⟨by rw [Yg ne,Yc],Nat.zero_le _,ne,e2,fun _=>none,(Heap.Ns1.of_empty e3).at fun o q=>Heap.get?_push_of_some _ q,fun _=>True.intro,fun y hy=>absurd rfl hy⟩
theorem O8 {prog:Program} {w:World} {env:Env} {e:Expr} {f:Str} {pos:Pos} {s:Shared} {Q:Value->Shared->Prop} (hb:attributeBase e f env (eval e env)=eval e env)
  (h:wpAny (model prog w) A (eval e env) (fun o s₁=>wpAny (model prog w) A (getAttr o f true) Q E s₁) E s):wpAny (model prog w) A (eval (.Attribute e f pos) env) Q E s :=
 Attribute_any_ h (by rw [arm_eval_Attribute,hb])
end
inductive Mj (K:W.Frag) (H:Hp) (a:Addr) (f:Str) (Q:V->Prop):Prop
 | mk (C dx:Addr) (fs:List (Str×V)) (h:H a=some (.ins C dx fs)) (c:Cls K C) (n:Yp K C f) (v:V) (l:fs.lookup f=some v) (q:Q v)
inductive Ml (K:W.Frag) (H:Hp) (a:Addr) (f:Str) (Q:Addr->Addr->List (Str×V)->Prop):Prop
 | mk (C dx:Addr) (fs:List (Str×V)) (h:H a=some (.ins C dx fs)) (c:Cls K C) (n:Yp K C f) (l:fs.length<1000) (q:Q C dx fs)
def qX (K:W.Frag) (ta:TE) (f:Str):TE:=fun σ H Q=>ta σ H fun x H1=>kR x fun a=>Mj K H1 a f fun v=>Q v H1
def qY (K:W.Frag) (ta tv:TE) (f:Str):TS:=fun D σ H=>tv σ H fun y H1=>ta σ H1 fun x H2=>kR x fun a=>Ml K H2 a f fun C dx fs=>D.nx σ (upd H2 a (.ins C dx (Xb f y fs)))
section
variable {X:Cx} {o e value:Expr} {f:Str} {pos pos' tpos:Pos} {ta tv:TE}
theorem Y6 (he:PE X e ta) (hb:attributeBase e f X.env (eval e X.env)=eval e X.env):PE X (.Attribute e f pos) (qX X.K ta f):=by
 intro pins s σ H Q I h;refine O8 hb (aL (he pins s σ H _ I h) fun u s1 ⟨x,H1,I1,rx,q⟩=>?_)
 replace q:=WR.mp q
 obtain ⟨a,ex,C,dx,fs,ea,c,n,v,l,q⟩:=q;subst ex;obtain rfl:u=Value.ref a:=rx;exact O6 I1 ea c n l fun u' s2 I2 ru=>⟨v,H1,I2,ru,q⟩
theorem XU (ha:PE X o ta) (hv:PE X value tv) (hs:swapsWith value (some (.Attribute o f pos')) pos.line X.env=pure false):PS X (.Assign [.Attribute o f pos'] value pos) (qY X.K ta tv f):=by
 intro pins s σ H D I h;refine plainObj_wpAny_Assign_Attribute (aL (hv pins s σ H _ I h) fun u s1 ⟨y,H1,I1,ry,q⟩=>aL (ha pins s1 σ H1 _ I1 q) fun ov s2 ⟨x,H2,I2,rx,q2⟩=>?_) hs
 replace q2:=WR.mp q2
 obtain ⟨a,ex,C,dx,fs,ea,c,n,l,q2⟩:=q2;subst ex;obtain rfl:ov=Value.ref a:=rx;exact O7 I2 ea c n l ry fun s3 I3=>⟨σ,_,I3,q2⟩
end
section
variable {X:Cx} {pins:List (Addr×Obj)} {σ:St} {H:Hp} {s:Shared} {A:Around} {E:Value->Shared->Prop} {Q:Value->Shared->Prop} {c:Value} {b:Bool}
inductive cX (K:W.Frag) (H:Hp):V->Value->Prop where
 | non:cX K H .non (.type "NoneType")
 | bl (x:Bool):cX K H (.bl x) (.type "bool")
 | int (i:Int):cX K H (.int i) (.type "int")
 | str (x:Str):cX K H (.str x) (.type "str")
 | flt (x:UInt64):cX K H (.flt x) (.type "float")
 | lst {a:Addr} {xs:List V} (e:H a=some (.lst xs)):cX K H (.ref a) (.type "list")
 | bH {a:Addr} {o:Obj} {xs:List V} (e:H a=some (.bH o (.lst xs))):cX K H (.ref a) (.type "list")
 | tup {a:Addr} {xs:List V} (e:H a=some (.tup xs)):cX K H (.ref a) (.type "tuple")
 | dK {a:Addr} {kvs:List (Key×V)} (e:H a=some (.dK kvs)):cX K H (.ref a) (.type "dict")
 | dT {a:Addr} {kvs:List (List Key×V)} (e:H a=some (.dT kvs)):cX K H (.ref a) (.type "dict")
 | ins {a C dx:Addr} {fs:List (Str×V)} (e:H a=some (.ins C dx fs)) (cl:Cls K C) (ha:W.findIn K (.ref C) "__class__"=some (some (.builtin "object.__class__")))
   (hn:W.specialIn K (.builtin "object.__class__") "__get__"=some (some (.builtin "getset_descriptor.__get__"))) (htk:W.takesIn K (.builtin "object.__class__")=some true)
   (hm:W.mroIn K C (.type "object")=some true):cX K H (.ref a) (.ref C)
theorem O9 {x:V} {u t:Value} (I:Inv X pins σ H s) (rx:YF x u) (ty:cX X.K H x t) (e:W.kitOne X.K t c=some b) (h:∀ tk,Q (.bool b) { s with toks:=tk }) :
  wpAny (model X.prog X.w) A (call (.builtin "isinstance") [u,c]) Q E s:=by
 cases ty with
 | non=>cases (show u=Value.none from rx);exact W.kia_one W.kitx_none I.bA True.intro e (fun z=>nomatch z) h
 | bl y=>cases (show u=Value.bool y from rx);exact W.kia_one W.kitx_bool I.bA True.intro e (fun z=>nomatch z) h
 | int i=>obtain ⟨t,q⟩:=(show ∃ t,u=Value.int i t from rx);cases q;exact W.kia_one W.kitx_int I.bA True.intro e (fun z=>nomatch z) h
 | str y=>obtain ⟨t,q⟩:=(show ∃ t,u=Value.str y t from rx);cases q;exact W.kia_one W.kitx_str I.bA True.intro e (fun z=>nomatch z) h
 | flt y=>obtain ⟨t,q⟩:=(show ∃ t,u=Value.float y t from rx);cases q;exact W.kia_one W.kitx_float I.bA True.intro e (fun z=>nomatch z) h
 | @lst a xs ea =>
  cases (show u=Value.ref a from rx)
  obtain ⟨_,_,n,_,h1⟩:=(show YZ X.prog X.w H s.heap a (.lst xs) from I.hok a _ ea);exact W.kia_one W.kitx_list I.bA ⟨_,h1,rfl⟩ e (fun z=>nomatch z) h
 | @bH a ob xs ea =>
  cases (show u=Value.ref a from rx)
  obtain ⟨_,_,_,n,_,h1⟩:=(show YZ X.prog X.w H s.heap a (.bH ob (.lst xs)) from I.hok a _ ea);exact W.kia_one W.kitx_list I.bA ⟨_,h1,rfl⟩ e (fun z=>nomatch z) h
 | @tup a xs ea =>
  cases (show u=Value.ref a from rx)
  obtain ⟨_,_,_,p⟩:=(show YZ X.prog X.w H s.heap a (.tup xs) from I.hok a _ ea);obtain ⟨o,h1,h2,_⟩:=p;exact W.kia_one W.kitx_tuple I.bA ⟨o,h1,h2⟩ e (fun z=>nomatch z) h
 | @dK a kvs ea =>
  cases (show u=Value.ref a from rx)
  obtain ⟨_,_,vs,_,p⟩:=(show YZ X.prog X.w H s.heap a (.dK kvs) from I.hok a _ ea);obtain ⟨o,es,ep,h1,h2,_⟩:=p;exact W.kia_one W.kitx_dict I.bA ⟨o,h1,h2.1⟩ e (fun z=>nomatch z) h
 | @dT a kvs ea =>
  cases (show u=Value.ref a from rx)
  obtain ⟨_,_,xs,_,o,es,ep,h1,h2,_⟩:=(show YZ X.prog X.w H s.heap a (.dT kvs) from I.hok a _ ea);exact W.kia_one W.kitx_dict I.bA ⟨o,h1,h2.1⟩ e (fun z=>nomatch z) h
 | @ins a C dx fs ea cl ha hn htk hm =>
  cases (show u=Value.ref a from rx)
  obtain ⟨mA,O,_⟩:=VR I.hok ea;obtain ⟨od,J,_⟩:=O.look;exact W.kia_one (W.kitx_own (cl.get _) cl.hd ha hn htk hm) I.bA J e (fun z=>nomatch z) h
end
structure aP (k:Nat) (A:Around):Prop where
 hd:A.handled=none
 dp:A.depth+3*k+5<recursionLimit
 un:A.units+16*k+200<cLine
 gd:A.guards=some []
theorem aP.mono {j k:Nat} {A:Around} (r:aP k A) (h:j<=k):aP j A:=⟨r.hd,by have:=r.dp;omega,by have:=r.un;omega,r.gd⟩
theorem aP.deeper {k:Nat} {A:Around} (r:aP (k+1) A) (env:Env):aP k (A.deeper env) :=
 ⟨r.hd,by have:=r.dp;show A.depth+1+3*k+5<_;omega,by have:=r.un;show A.units+3+16*k+200<_;omega,r.gd⟩
theorem Pa {A:Around} {C:Addr} {us:List Value} {kw:List (Str×Value)}:(A.under (.builtin "type.__call__" ⟨.ref C::us,kw⟩)).depth=A.depth+1:=by
 first | rfl | simp [Around.under,Code.weight,Code.isCreation,Code.isGuard,Code.isCaller,Code.frames,Code.isFrame,guardIds]
theorem Pb {A:Around} {C:Addr} {us:List Value} {kw:List (Str×Value)}:(A.under (.builtin "type.__call__" ⟨.ref C::us,kw⟩)).units=A.units+1:=by
 first | rfl | simp [Around.under,Code.cUnits,Code.frames,Code.isFrame]
theorem aP.make {k:Nat} {A:Around} (r:aP (k+1) A) (C:Addr) (us:List Value) (kw:List (Str×Value)):aP k (A.under (.builtin "type.__call__" ⟨.ref C::us,kw⟩)) :=
 ⟨r.hd,by have:=r.dp;rw [Pa];omega,by have:=r.un;rw [Pb];omega,by first | exact r.gd | simpa [Around.under,Code.isGuard,Code.isFrame,guardIds] using r.gd⟩
theorem aP.depth {k:Nat} {A:Around} (r:aP k A):A.depth<recursionLimit:=by have:=r.dp;omega
theorem aP.units {k:Nat} {A:Around} (r:aP k A):A.units+64<cLine:=by have:=r.un;omega
def UL:TA:=fun _ H Q=>Q [] H
def wN (ta:TE) (tr:TA):TA:=fun σ H Q=>ta σ H fun x H1=>tr σ H1 fun xs H2=>Q (x::xs) H2
section
variable {X:Cx} {e:Expr} {es:List Expr} {te:TE} {t:TA} {pos:Pos}
theorem Yb:PA X [] UL:=fun _ _ _ _ H Q I h=>Calls.spliced_nil ⟨[],H,I,.nil,h⟩
theorem Ya (ha:PE X e te) (hr:PA X es t) (hs:starEach (e::es) X.env=(false,eval e X.env)::starEach es X.env):PA X (e::es) (wN te t):=by
 intro pos pins s σ H Q I h;rw [hs]
 show wpAny _ _ (spliced ((false,eval e X.env)::backTo pos (starEach es X.env))) _ _ s
 refine Calls.spliced_cons (aL (ha pins s σ H _ I h) fun u s1 ⟨x,H1,I1,r1,q1⟩=>?_);exact aL (hr pos pins s1 σ H1 _ I1 q1) fun us s2 ⟨xs,H2,I2,r2,q2⟩=>⟨x::xs,H2,I2,.cons r1 r2,q2⟩
def qZ (t:TA):TE:=fun σ H Q=>t σ H fun xs H1=>xs.length<=sizeLine/\∀ p,H1 p=none->Q (.ref p) (upd H1 p (.tup xs))
def rz (t:TA):TE:=fun σ H Q=>t σ H fun xs H1=>xs.length<=sizeLine/\∀ p,H1 p=none->Q (.ref p) (upd H1 p (.lst xs))
theorem YO {x1} (h:PA X es t):PE X (.Tuple es x1 pos) (qZ t):=by
 intro pins s σ H Q I hq;refine wpAny_Tuple_spliced (aL (h pos pins s σ H _ I hq) fun us s1 ⟨xs,H1,I1,r,z,q⟩=>⟨by rw [<- r.length];exact z,?_⟩);have hf:H1 s1.heap.objs.size=none:=I1.hok.fresh (Nat.le_refl _);refine ⟨.ref s1.heap.objs.size,upd H1 s1.heap.objs.size (.tup xs),I1.laid (t':=s1.toks) (fun b u e=>Heap.get?_push_of_some _ e) (Nat.le_refl _) ?_,rfl,q _ hf⟩;exact ⟨z,us,r,⟨_,Heap.get?_push_size _ rfl,rfl,_,rfl⟩⟩
theorem Y3 (h:PA X es t):PE X (.List es pos) (rz t):=by
 intro pins s σ H Q I hq;refine wpAny_List_spliced (aL (h pos pins s σ H _ I hq) fun us s1 ⟨xs,H1,I1,r,z,q⟩=>⟨by rw [<- r.length];exact z,?_⟩);have hf:H1 s1.heap.objs.size=none:=I1.hok.fresh (Nat.le_refl _);refine ⟨.ref s1.heap.objs.size,upd H1 s1.heap.objs.size (.lst xs),I1.laid (t':=s1.toks) (fun b u e=>Heap.get?_push_of_some _ e) (Nat.le_refl _) ?_,rfl,q _ hf⟩;exact ⟨z,us,0,r,Heap.get?_push_size _ rfl⟩
end
abbrev Sp:=List V->Hp->VK->XK->Prop
abbrev dH:=List Env->Hp->Shared->XK->Value->Shared->Prop
structure dB (P:Program) (w:World) (K:W.Frag) (mg:Str->Option Value) (base:Heap) (A:Around) (outer:List Env) (s:Shared) (H:Hp):Prop where
 frames:A.frames=some outer
 mod:Mod K mg base
 bs:∀ b o,base.get? b=some o->s.heap.get? b=some o/\H b=none
 dO:base.objs.size<=s.heap.objs.size
 bV:s.heap.FunFrames base outer
 d9:∀ b∈frs outer,H b=none
 hok:bf P w H s.heap
 bare:AllBare s.gens
def CE (outer:List Env) (P:Program) (w:World) (H:Hp) (s:Shared) (Q:VK) (u:Value) (s':Shared):Prop :=
 ∃ v H',s'.os=s.os/\AllBare s'.gens/\Un (frs outer) [] H H' s.heap s'.heap/\bf P w H' s'.heap/\YF v u/\Q v H'
def CR (CX:dH) (outer:List Env) (P:Program) (w:World) (H:Hp) (s:Shared) (Q:VK) (E:XK) (r:Result) (s':Shared):Prop :=
 match r with
 | .ok (.ret u)=>CE outer P w H s Q u s'
 | .ok _=>False
 | .error e=>CX outer H s E e s'
structure aY (P:Program) (w:World) (K:W.Frag) (mg:Str->Option Value) (base:Heap) (CX:dH) (k:Nat) (f:Addr) (fd:FuncData) (ps:List Str) (sp:Sp):Prop where
 len:∀ vs H Q E,sp vs H Q E->vs.length=ps.length
 run:∀ (A:Around) (outer:List Env) (s:Shared) (H:Hp) (args:Args) (us:List Value) (vs:List V) (Q:VK) (E:XK),aP k A->dB P w K mg base A outer s H->BindsTo s fd args (ps.zip us)->Yw vs us->sp vs H Q E ->
  codeAny (model P w) A (.call (.ref f) args) (CR CX outer P w H s Q E) s
theorem aY.mono {P:Program} {w:World} {K:PySem.W.Frag} {mg:Str->Option Value} {base:Heap} {CX:dH} {j k:Nat} {f:Addr} {fd:FuncData} {ps:List Str} {sp:Sp} (F:aY P w K mg base CX j f fd ps sp) (h:j<=k) :
  aY P w K mg base CX k f fd ps sp:=⟨F.len,fun A outer s H args us vs Q E hr=>F.run A outer s H args us vs Q E (hr.mono h)⟩
theorem dB.make {P:Program} {w:World} {K:W.Frag} {mg:Str->Option Value} {base:Heap} {A:Around} {outer:List Env} {s:Shared} {H:Hp} (e:dB P w K mg base A outer s H) (C:Addr) (us:List Value) (kw:List (Str×Value)) :
  dB P w K mg base (A.under (.builtin "type.__call__" ⟨.ref C::us,kw⟩)) outer s H:=⟨by first | exact e.frames | (simpa [Around.under,Code.envs,Code.isFrame,pushEnvs] using e.frames),e.mod,e.bs,e.dO,e.bV,e.d9,e.hok,e.bare⟩
section
variable {X:Cx} {pins:List (Addr×Obj)} {σ:St} {H:Hp} {s s':Shared}
theorem Inv.env0 (I:Inv X pins σ H s):dB X.prog X.w X.K X.mg X.base X.A X.stack s H :=
 ⟨I.ok.frames,I.ok.mod,I.bs,Nat.le_trans I.ok.dO I.sz,I.stack,I.fU,I.hok,I.bare⟩
theorem Inv.after {Q:VK} {u:Value} (I:Inv X pins σ H s) (h:CE X.stack X.prog X.w H s Q u s'):EP X pins σ Q u s':=by
 obtain ⟨v,H',os,bare,un,hok,r,q⟩:=h;obtain ⟨hh,g,d,t,os'⟩:=s';obtain rfl:os'=s.os:=os;exact ⟨v,H',I.call (h':=hh) (g':=g) (d':=d) (t':=t) (ch:=[]) un hok bare (fun b z=>absurd z (by simp)),r,q⟩
end
def WY (sp:Sp) (bL:List V) (E:XK) (t:TA):TE:=fun σ H Q=>t σ H fun vs H1=>sp (vs++bL) H1 Q E
inductive Pg (H:Hp) (a C:Addr) (m:Str) (Q:Prop):Prop
 | mk (dx:Addr) (fs:List (Str×V)) (h:H a=some (.ins C dx fs)) (l:fs.lookup m=none) (q:Q)
def QA (C:Addr) (m:Str) (sp:Sp) (bL:List V) (E:XK) (ta:TE) (t:TA):TE:=fun σ H Q=>ta σ H fun x H1=>kR x fun a=>Pg H1 a C m (t σ H1 fun vs H2=>sp (.ref a::(vs++bL)) H2 Q E)
def QB (C:Addr) (sp:Sp) (bL:List V) (E:XK) (t:TA):TE:=fun σ H Q=>t σ H fun vs H1=>∀ x dx,H1 x=none->H1 dx=none->dx≠x ->
 sp (.ref x::(vs++bL)) (upd (upd H1 dx (.own x)) x (.ins C dx [])) (fun v H2=>v = .non/\Q (.ref x) H2) E
def Xn (K:W.Frag) (fd:FuncData) (ps:List Str) (ds:List Value):Prop :=
 ∀ (s:Shared) (us:List Value),K.In s.heap->(us++ds).length=ps.length->BindsTo s fd ⟨us,[]⟩ (ps.zip (us++ds))
theorem Xn.all {K:W.Frag} {fd:FuncData} {ps:List Str} (h:∀ us:List Value,us.length=ps.length->bindArgs fd ⟨us,[]⟩=pure (ps.zip us)):Xn K fd ps []:=fun s us _ hl=>by
 rw [List.append_nil] at hl ⊢
 exact .of_eq (h us hl)
def X3 (CX:dH) (X:Cx) (E:XK):Prop:=∀ (pins:List (Addr×Obj)) (σ:St) (H:Hp) (s:Shared) (e:Value) (s':Shared),Inv X pins σ H s->CX X.stack H s E e s'->X.xe e s'
section
variable {X:Cx} {CX:dH} {k:Nat} {f C:Addr} {fd:FuncData} {ps:List Str} {sp:Sp} {bL:List V} {ds:List Value} {E:XK} {x m:Str} {p pos apos:Pos} {e o:Expr} {es:List Expr} {ta:TE} {t:TA}
theorem WC {pins:List (Addr×Obj)} {σ:St} {H:Hp} {s:Shared} {Q:VK} {us:List Value} {vs:List V} (F:aY X.prog X.w X.K X.mg X.base CX k f fd ps sp) (hr:aP k X.A) (hb:Xn X.K fd ps ds) (hd:Yw bL ds) (hx:X3 CX X E)
  (I:Inv X pins σ H s) (r:Yw vs us) (h:sp (vs++bL) H Q E):wpAny (model X.prog X.w) X.A (call (.ref f) us) (EP X pins σ Q) X.xe s:=by
 have r2:Yw (vs++bL) (us++ds):=r.append hd;have hl:(us++ds).length=ps.length:=by rw [<- r2.length];exact F.len _ _ _ _ h
 refine wpAny_call (codeAny_mono (F.run X.A X.stack s H ⟨us,[]⟩ (us++ds) (vs++bL) Q E hr I.env0 (hb s us I.bA hl) r2 h) fun r s' hq=>?_)
 cases r with
 | error e=>exact hx pins σ H s e s' I hq
 | ok fl =>
  cases fl with
  | ret u=>exact I.after hq
  | next=>exact False.elim hq
  | brk=>exact False.elim hq
  | cont=>exact False.elim hq
theorem Gq (F:aY X.prog X.w X.K X.mg X.base CX k f fd ps sp) (hr:aP k X.A) (hg:Gl X x) (hm:X.mg x=some (.ref f)) (hk:PySem.W.keepIn X.K (.ref f)=true) (hb:Xn X.K fd ps ds) (hd:Yw bL ds) (hx:X3 CX X E)
  (ha:PA X (e::es) t) (hdb:(x==("__debug__":Str))=false:=by decide) (he:starEach (e::es) X.env=(false,eval e X.env)::starEach es X.env:=by rfl) (hpl:(backTo pos (starEach es X.env)).any (·.1)=false:=by rfl) :
  PE X (.Call (.Name x p) (e::es) [] pos) (WY sp bL E t):=by
 intro pins s σ H Q I h;refine wpAny_Call_Name_kw (Wd I hg hm ?_ hdb);refine PySem.W.callWith_K (h₀:=X.base) I.ok.mod.eZ hk (aL (ha pos pins s σ H _ I h) fun us s1 ⟨vs,H1,I1,r,q⟩=>⟨I1.bA,?_⟩) he hpl;exact WC F hr hb hd hx I1 r q
theorem Ph (F:aY X.prog X.w X.K X.mg X.base CX k f fd ps sp) (hr:aP k X.A) (hg:Gl X x) (hm:X.mg x=some (.ref f)) (hk:PySem.W.keepIn X.K (.ref f)=true) (hb:Xn X.K fd ps ds) (hd:Yw bL ds) (hx:X3 CX X E)
  (hdb:(x==("__debug__":Str))=false:=by decide):PE X (.Call (.Name x p) [] [] pos) (WY sp bL E UL):=by
 intro pins s σ H Q I h;refine wpAny_Call_Name_kw (Wd I hg hm ?_ hdb);exact PySem.W.callWith_K0 I.bA hk (WC (us:=[]) F hr hb hd hx I .nil h)
theorem Pj {pl:Sem Bool} (he:PE X o ta) (c:Cls X.K C) (hm:Meth X.K C m f) (F:aY X.prog X.w X.K X.mg X.base CX k f fd ps sp) (hr:aP k X.A) (hb:Xn X.K fd ps ds) (hd:Yw bL ds) (hx:X3 CX X E) (ha:PA X (e::es) t)
  (hst:starEach (e::es) X.env=(false,eval e X.env)::starEach es X.env:=by rfl) (hpl:(backTo pos (starEach es X.env)).any (·.1)=false:=by rfl)
  (ht:eval (.Call (.Attribute o m apos) (e::es) [] pos) X.env=(do
   let ov <- eval o X.env
   standAt apos.atName
   let (f,first) <- holding [ov] (getMethod ov m pl)
   callWith pos f first (backTo pos (starEach (e::es) X.env)) (backToKw pos (keywordEach [] X.env))):=by rfl) :
  PE X (.Call (.Attribute o m apos) (e::es) [] pos) (QA C m sp bL E ta t):=by
 intro pins s σ H Q I h;refine PySem.W.methodCall_KW (pl:=pl) (aL (he pins s σ H _ I h) fun u s1 ⟨x,H1,I1,rx,q⟩=>?_) ht
 replace q:=WR.mp q
 obtain ⟨a,ex,dx,fs,ea,l,q⟩:=q;subst ex;obtain rfl:u=Value.ref a:=rx;refine Uq I1 ea c hm l ?_;refine PySem.W.callWith_K (first:=[.ref a]) (h₀:=X.base) I.ok.mod.eZ hm.kp (aL (ha pos pins s1 σ H1 _ I1 q) fun us s2 ⟨vs,H2,I2,r,q2⟩=>⟨I2.bA,?_⟩) hst hpl;exact WC (us := .ref a::us) (vs := .ref a::vs) F hr hb hd hx I2 (.cons rfl r) q2
structure Mk (K:W.Frag) (C f:Addr):Prop where
 makes:W.makesIn K C=true
 init:W.findIn K (.ref C) "__init__"=some (some (.ref f))
 fn:W.isFn K (.ref f)=true
 kp:W.keepIn K (.ref C)=true
theorem Pk {pins:List (Addr×Obj)} {σ:St} {H:Hp} {s:Shared} {Q:VK} {us:List Value} {vs:List V} (M:Mk X.K C f) (F:aY X.prog X.w X.K X.mg X.base CX k f fd ps sp) (hr:aP (k+1) X.A) (hb:Xn X.K fd ps ds) (hd:Yw bL ds)
  (hx:X3 CX X E) (I:Inv X pins σ H s) (r:Yw vs us)
  (h:∀ x dx,H x=none->H dx=none->dx≠x->sp (.ref x::(vs++bL)) (upd (upd H dx (.own x)) x (.ins C dx [])) (fun v H2=>v = .non/\Q (.ref x) H2) E) :
  wpAny (model X.prog X.w) X.A (call (.ref C) us) (EP X pins σ Q) X.xe s:=by
 have hq:=h (s.heap.objs.size+1) s.heap.objs.size (I.hok.fresh (Nat.le_succ _)) (I.hok.fresh (Nat.le_refl _)) (Nat.ne_of_lt (Nat.lt_succ_self _));have I2:=Inv.made (C:=C) I;have r2:Yw (V.ref (s.heap.objs.size+1)::(vs++bL)) (Value.ref (s.heap.objs.size+1)::(us++ds)) := .cons rfl (r.append hd);have hl:(Value.ref (s.heap.objs.size+1)::us++ds).length=ps.length:=by
  have e:=r2.length;rw [F.len _ _ _ _ hq] at e
  exact e.symm
 refine wpAny_call (O4 (f:=f) I.bA M.makes M.init (beq_iff_eq.mp M.fn) (codeAny_mono (F.run _ X.stack _ _ ⟨Value.ref (s.heap.objs.size+1)::us,[]⟩ (Value.ref (s.heap.objs.size+1)::(us++ds)) _ _ E (hr.make C us [])
  (I2.env0.make C us []) (hb _ (Value.ref (s.heap.objs.size+1)::us) I2.bA hl) r2 hq) fun r s' hq'=>?_))
 cases r with
 | error e=>exact hx pins σ _ _ e s' I2 hq'
 | ok fl =>
  cases fl with
  | ret u =>
   obtain ⟨v,H',I3,rv,ev,q3⟩:=I2.after hq';subst ev;exact ⟨rv,⟨V.ref (s.heap.objs.size+1),H',I3,rfl,q3⟩⟩
  | next=>exact False.elim hq'
  | brk=>exact False.elim hq'
  | cont=>exact False.elim hq'
theorem Pn (M:Mk X.K C f) (F:aY X.prog X.w X.K X.mg X.base CX k f fd ps sp) (hr:aP (k+1) X.A) (hg:Gl X x) (hm:X.mg x=some (.ref C)) (hb:Xn X.K fd ps ds) (hd:Yw bL ds) (hx:X3 CX X E)
  (ha:PA X (e::es) t) (hdb:(x==("__debug__":Str))=false:=by decide) (he:starEach (e::es) X.env=(false,eval e X.env)::starEach es X.env:=by rfl) (hpl:(backTo pos (starEach es X.env)).any (·.1)=false:=by rfl) :
  PE X (.Call (.Name x p) (e::es) [] pos) (QB C sp bL E t):=by
 intro pins s σ H Q I h;refine wpAny_Call_Name_kw (Wd I hg hm ?_ hdb);refine PySem.W.callWith_K (h₀:=X.base) I.ok.mod.eZ M.kp (aL (ha pos pins s σ H _ I h) fun us s1 ⟨vs,H1,I1,r,q⟩=>⟨I1.bA,?_⟩) he hpl;exact Pk M F hr hb hd hx I1 r q
end
structure aH (N P:List Str) (sc:Scope):Prop where
 kind:sc.kind = .function
 co:sc.isCoroutine=false
 gen:sc.isGenerator=false
 nd:N.Nodup
 pre:N.take P.length=P
 par:∀ x∈P,sc.names.lookup x=some .local\/sc.names.lookup x=some .cell
 wO:∀ y∈sc.names,y.2 ≠ .free
theorem U7 {kindOf:Str->Option NameKind} {x:Str}:∀ {binds:List (Str×Value)} {m:Str->Option Value},(∀ v,(x,v)∉binds)->bindL kindOf binds m x=m x
 | [],_,_=>rfl
 | (n,v)::r,m,h=>by
  unfold bindL;rw [U7 fun w hw=>h w (List.mem_cons_of_mem _ hw)]
  split
  ·have:x≠n:=by rintro rfl;exact h v List.mem_cons_self
   simp [this]
  ·rfl
theorem U8 {kindOf:Str->Option NameKind} {x:Str}:∀ {binds:List (Str×Value)} {m:Str->Option Value},(∀ v,(x,v)∉binds)->bindC kindOf binds m x=m x
 | [],_,_=>rfl
 | (n,v)::r,m,h=>by
  unfold bindC;rw [U8 fun w hw=>h w (List.mem_cons_of_mem _ hw)]
  split
  ·rfl
  ·have:x≠n:=by rintro rfl;exact h v List.mem_cons_self
   simp [this]
theorem U9 {kindOf:Str->Option NameKind} {x:Str} {v:Value}:∀ {P:List Str} {vs:List Value} {i:Nat} {m:Str->Option Value},P.Nodup->P[i]?=some x->vs[i]?=some v->kindOf x=some .local ->
  bindL kindOf (P.zip vs) m x=some v
 | [],_,_,_,_,h,_,_=>by simp at h
 | _::_,[],_,_,_,_,h,_=>by simp at h
 | p::P,w::vs,0,m,nd,h1,h2,hk=>by
  simp at h1 h2;subst h1;subst h2
  show bindL kindOf ((p,w)::P.zip vs) m p=_
  unfold bindL;rw [U7 fun v hv=>(List.nodup_cons.mp nd).1 (List.of_mem_zip hv).1,if_pos hk];simp
 | p::P,w::vs,i+1,m,nd,h1,h2,hk=>by
  show bindL kindOf ((p,w)::P.zip vs) m x=_
  unfold bindL;exact U9 (i:=i) (List.nodup_cons.mp nd).2 (by simpa using h1) (by simpa using h2) hk
theorem Qa {kindOf:Str->Option NameKind} {x:Str} {v:Value}:∀ {P:List Str} {vs:List Value} {i:Nat} {m:Str->Option Value},P.Nodup->P[i]?=some x->vs[i]?=some v->kindOf x≠some .local ->
  bindC kindOf (P.zip vs) m x=some v
 | [],_,_,_,_,h,_,_=>by simp at h
 | _::_,[],_,_,_,_,h,_=>by simp at h
 | p::P,w::vs,0,m,nd,h1,h2,hk=>by
  simp at h1 h2;subst h1;subst h2
  show bindC kindOf ((p,w)::P.zip vs) m p=_
  unfold bindC;rw [U8 fun v hv=>(List.nodup_cons.mp nd).1 (List.of_mem_zip hv).1,if_neg hk];simp
 | p::P,w::vs,i+1,m,nd,h1,h2,hk=>by
  show bindC kindOf ((p,w)::P.zip vs) m x=_
  unfold bindC;exact Qa (i:=i) (List.nodup_cons.mp nd).2 (by simpa using h1) (by simpa using h2) hk
def XA (N:List Str) (vs:List V):St:=vs.map some++List.replicate (N.length - vs.length) none
def WE (CX:dH) (P:Program) (w:World) (K:W.Frag) (mg:Str->Option Value) (base:Heap) (N:List Str) (qual:Str) (scope:Scope) (f:Addr) (cd:Value) (A:Around) (outer:List Env) (s:Shared) (H:Hp) (E:XK):Cx where
 prog:=P
 w:=w
 K:=K
 mg:=mg
 base:=base
 A:=A.deeper (envOfC qual scope s.heap.objs.size f cd)
 N:=N
 s₀:=s
 H₀:=H
 env:=envOfC qual scope s.heap.objs.size f cd
 outer:=outer
 stack:=envOfC qual scope s.heap.objs.size f cd::outer
 ex:=[]
 calm:=true
 fn:=fun _=>true
 pn:=[]
 xe:=fun e s'=>wpAny (model P w) (A.deeper (envOfC qual scope s.heap.objs.size f cd)) (leaving (envOfC qual scope s.heap.objs.size f cd) e) (fun _ s''=>CX outer H s E e s'') (fun e' s''=>CX outer H s E e' s'') s'
theorem QO {sc:Scope} {n:Nat} {x:Str} (h:sc.names.lookup x=some .cell):∃ c,(cellsFrom n sc.names []).lookup x=some c:=by
 have q:=W.cellsFrom_some sc.names n [] (.inl h);exact Option.isSome_iff_exists.mp q
theorem Qb {CX:dH} {P:Program} {w:World} {K:W.Frag} {mg:Str->Option Value} {base:Heap} {N ps:List Str} {qual:Str} {scope:Scope} {f:Addr} {cd:Value} {A:Around} {outer:List Env} {s s1:Shared} {H:Hp} {E:XK} {us:List Value} {vs:List V}
  (S:aH N ps scope) (hd:A.handled=none) (e0:dB P w K mg base A outer s H) (hl:vs.length=ps.length) (r:Yw vs us)
  (x:InCallC s s.heap.objs.size (bindL (envOfC qual scope s.heap.objs.size f cd).kindOf (ps.zip us) fun _=>none) (cellsFrom (s.heap.objs.size+1) scope.names []) (bindC (envOfC qual scope s.heap.objs.size f cd).kindOf (ps.zip us) fun _=>none) s1) :
  Inv (WE CX P w K mg base N qual scope f cd A outer s H E) [] (XA N vs) H s1:=by
 have hpl:ps.length<=N.length:=by have:=congrArg List.length S.pre;rw [List.length_take] at this;omega
 obtain ⟨h1,tk,rfl,hk⟩:=x.done;have gM:∀ b:Addr,b∉(WE CX P w K mg base N qual scope f cd A outer s H E).ex:=fun b z=>absurd (show b∈([]:List Addr) from z) (by simp)
 refine ⟨⟨e0.mod,S.kind,rfl,rfl,Nat.le_refl _,fun y z c h1 h2=>?_,fun y hy=>?_,fun y c _ h=>?_,fun _=>hd,Around.frames_deeper e0.frames,.inr ⟨rfl,rfl⟩,fun b z=>absurd z (gM b),e0.bs,e0.dO,fun b _ _=>gM b,fun b z=>absurd z (gM b),e0.bV,e0.d9⟩,
  rfl,e0.bare,Un.kept hk,⟨_,x.toInCall.ns,fun i y v h1 h2 h3=>?_⟩,fun y c h=>⟨_,x.cell y c h⟩,e0.hok.fresh (Nat.le_refl _),fun y c h=>?_,fun p hp=>absurd (show p∈([]:List (Addr×Obj)) from hp) (by simp),e0.hok.kept hk,?_⟩
 ·exact name_of_addr x.apart (PySem.mem_of_lookup h1) (PySem.mem_of_lookup h2)
 ·have hy:scope.names.lookup y=some .cell\/scope.names.lookup y=some .free:=hy
  rcases hy with hy | hy
  ·exact QO hy
  ·exact absurd rfl (S.wO _ (PySem.mem_of_lookup hy))
 ·exact Nat.le_of_lt (x.above y c (PySem.mem_of_lookup h))
 ·have hi:i<vs.length:=by
   unfold XA at h2;by_cases hi:i<vs.length
   ·exact hi
   ·rw [List.getElem?_append_right (by simpa using hi)] at h2
    rw [List.getElem?_replicate] at h2
    split at h2<;>cases h2
  have ha:vs[i]?=some v:=by
   unfold XA at h2;rw [List.getElem?_append_left (by simpa using hi),List.getElem?_map] at h2
   cases e:vs[i]? with
   | none=>rw [e] at h2;cases h2
   | some a=>rw [e] at h2;cases h2;rfl
  obtain ⟨u,hu,rv⟩:=r.get ha;have hp:ps[i]?=some y:=by
   rw [<- S.pre,List.getElem?_take_of_lt (by omega)];exact h1
  have sJ:ps.Nodup:=by rw [<- S.pre];exact S.nd.sublist (List.take_sublist _ _)
  refine ⟨u,rv,?_⟩;rcases S.par y (List.mem_of_getElem? hp) with k | k
  ·exact .inl ⟨k,U9 sJ hp hu k⟩
  ·obtain ⟨c,e⟩:=QO (n:=s.heap.objs.size+1) k
   refine .inr ⟨.inl k,c,e,?_⟩;have q:=x.cell y c e;rw [Qa sJ hp hu (by show scope.names.lookup y≠_;rw [k];decide)] at q
   exact q
 ·exact e0.hok.fresh (Nat.le_of_lt (x.above y c (PySem.mem_of_lookup h)))
 ·unfold XA
  show _=N.length
  rw [List.length_append,List.length_map,List.length_replicate];omega
theorem wQ {CX:dH} {P:Program} {w:World} {K:W.Frag} {mg:Str->Option Value} {base:Heap} {k:Nat} {f:Addr} {name qual:Str} {params:Arguments} {body:List Stmt} {scope:Scope} {dV kV doc pm cdv ct oc:Value} {an od:Option Addr}
  {osl:Array (Option Value)} {N ps:List Str} {sp:Sp} (lk:K.lookup f=some ⟨oc,od,.func (W.fnOf name qual params body scope dV kV doc pm an cdv ct),osl⟩) (hcd:W.codeIn K cdv qual=true) (S:aH N ps scope)
  (len:∀ vs H Q E,sp vs H Q E->vs.length=ps.length)
  (hbody:∀ (A:Around) (outer:List Env) (s:Shared) (H:Hp) (vs:List V) (Q:VK) (E:XK),aP k (A.deeper (envOfC qual scope s.heap.objs.size f cdv))->sp vs H Q E ->
   ∃ t,cM (WE CX P w K mg base N qual scope f cdv A outer s H E) body t/\t { nx:=fun _ H'=>Q .non H',rt:=Q } (XA N vs) H) :
  aY P w K mg base CX (k+1) f (W.fnOf name qual params body scope dV kV doc pm an cdv ct) ps sp:=by
 refine ⟨len,fun A outer s H args us vs Q E hr e0 hb r hsp=>?_⟩;have hl:=len _ _ _ _ hsp;have KX:K.In s.heap:=e0.mod.eZ.keeps fun b o e=>(e0.bs b o e).1
 have lim:s.heap.NoLimit:=e0.mod.nolimit.keeps fun b o e=>(e0.bs b o e).1
 have hkind:∀ y∈ps.zip us,scope.names.lookup y.1=some .local\/(scope.names.lookup y.1=some .cell/\((cellsFrom (s.heap.objs.size+1) scope.names []).lookup y.1).isSome=true):=fun ⟨n,v⟩ hy=>by
  rcases S.par n (List.of_mem_zip hy).1 with q | q
  ·exact .inl q
  ·exact .inr ⟨q,W.cellsFrom_some _ _ _ (.inl q)⟩
 refine codeAny_call_function hr.depth (KX _ _ lk) rfl S.co S.gen rfl (W.codeRec_of KX hcd) (hb _ _ _ _ ?_);refine wpAny_newFunctionEnv_cells S.kind hkind fun env he s1 x=>?_
 subst he;refine ⟨lim.keeps x.toInCall.keep,codeAny_func ?_⟩;obtain ⟨t,ht,hq⟩:=hbody A outer s H vs Q E (hr.deeper _) hsp;have I:Inv (WE CX P w K mg base N qual scope f cdv A outer s H E) [] (XA N vs) H s1:=Qb S hr.hd e0 hl r x;refine wpAny_mono (ht [] s1 (XA N vs) H _ I hq) (fun fl s' hs=>?_) fun e s' hs=>hs
 have fin:∀ {σ':St} {H':Hp} {v:V} {u:Value},Inv (WE CX P w K mg base N qual scope f cdv A outer s H E) [] σ' H' s'->YF v u->Q v H'->CE outer P w H s Q u s' :=
  fun {σ' H' v u} J rv q=>⟨v,H',J.os,J.bare,J.base,J.hok,rv,q⟩
 cases fl with
 | ret u =>
  obtain ⟨v,σ',H',J,rv,q⟩:=hs;exact fin J rv q
 | next =>
  obtain ⟨σ',H',J,q⟩:=hs;exact fin (v:=V.non) (u:=Value.none) J rfl q
 | brk =>
  obtain ⟨_,_,_,q⟩:=hs;exact False.elim q
 | cont =>
  obtain ⟨_,_,_,q⟩:=hs;exact False.elim q
section
variable {X:Cx} {x:Str} {p pos:Pos} {e:Expr} {es:List Expr} {t:TA} {id T:String} {r:List V->Hp->VK->Prop}
def mq (r:List V->Hp->VK->Prop) (t:TA):TE:=fun σ H Q=>t σ H fun vs H1=>r vs H1 Q
theorem Pq (hc:XH X (.builtin id) r) (hg:Gl X x) (hm:X.mg x=none) (hv:bootBuiltins x=some (.builtin id)) (ha:PA X (e::es) t) (hn:x≠"__name__":=by decide) (hdb:(x==("__debug__":Str))=false:=by decide)
  (he:starEach (e::es) X.env=(false,eval e X.env)::starEach es X.env:=by rfl) (hpl:(backTo pos (starEach es X.env)).any (·.1)=false:=by rfl):PE X (.Call (.Name x p) (e::es) [] pos) (mq r t):=by
 intro pins s σ H Q I h;refine wpAny_Call_Name_kw (X1 I hg hm hv ?_ hn hdb);exact PyProof.Rows.callWith_builtin1 (aL (ha pos pins s σ H _ I h) fun us s1 ⟨vs,H1,I1,r1,q1⟩=>hc pins s1 σ H1 vs us Q I1 r1 q1) he hpl
theorem Pr (hc:XH X (.type T) r) (hg:Gl X x) (hm:X.mg x=none) (hv:bootBuiltins x=some (.type T)) (ha:PA X (e::es) t) (hn:x≠"__name__":=by decide) (hdb:(x==("__debug__":Str))=false:=by decide)
  (he:starEach (e::es) X.env=(false,eval e X.env)::starEach es X.env:=by rfl) (hpl:(backTo pos (starEach es X.env)).any (·.1)=false:=by rfl):PE X (.Call (.Name x p) (e::es) [] pos) (mq r t):=by
 intro pins s σ H Q I h;refine wpAny_Call_Name_kw (X1 I hg hm hv ?_ hn hdb);exact PyProof.Rows.callWith_type1 (aL (ha pos pins s σ H _ I h) fun us s1 ⟨vs,H1,I1,r1,q1⟩=>hc pins s1 σ H1 vs us Q I1 r1 q1) he hpl
end
end L2
namespace HT
open PySem PyProof.Rows
section
variable {prog:Program} {w:World} {A:Around} {E:Value->Shared->Prop} {s:Shared}
def aQ (n d:Nat):Option Int->Nat
 | none=>d
 | some v=>if v<0 then (v+(n:Int)).toNat else min v.toNat n
theorem jN (n d:Nat):aQ n d none=d:=rfl
theorem mz (n d k:Nat):aQ n d (some (k:Int))=min k n:=by
 show (if (k:Int)<0 then ((k:Int)+(n:Int)).toNat else min (k:Int).toNat n)=min k n
 rw [if_neg (by omega),Int.toNat_natCast]
theorem Pu (n d:Nat) (hd:d<=n) (o:Option Int):aQ n d o<=n:=by
 cases o with
 | none=>exact hd
 | some v =>
  show (if v<0 then (v+(n:Int)).toNat else min v.toNat n)<=n
  by_cases hv:v<0
  ·rw [if_pos hv];omega
  ·rw [if_neg hv];exact Nat.min_le_right _ _
theorem Gs (v:Int) (n d:Nat):(if v<0 then max (v+(n:Int)) 0 else min v (n:Int))=((aQ n d (some v):Nat):Int):=by
 show (if v<0 then max (v+(n:Int)) 0 else min v (n:Int))=(((if v<0 then (v+(n:Int)).toNat else min v.toNat n):Nat):Int)
 by_cases hv:v<0
 ·simp only [if_pos hv];omega
 ·simp only [if_neg hv];omega
theorem Px (lo hi:Option Int) (n:Nat):Builtin.Slice.sliceAdjust lo hi 1 (n:Int)=(((aQ n 0 lo:Nat):Int),((aQ n n hi:Nat):Int)):=by
 have h1:¬ ((1:Int)<0):=by omega
 unfold Builtin.Slice.sliceAdjust;simp only [h1,if_false];refine Prod.ext ?_ ?_
 ·cases lo with
  | none=>rfl
  | some v=>exact Gs v n 0
 ·cases hi with
  | none=>rfl
  | some v=>exact Gs v n n
theorem Py (i j:Nat):Builtin.Slice.slicePlaces (i:Int) (j:Int) 1=j - i:=by
 unfold Builtin.Slice.slicePlaces;have h1:(1:Int)>0:=by omega
 simp only [h1,if_true,Int.ediv_one]
 split<;>omega
theorem Ur {v:Value} {o:Option Int} {Q:Option Int->Shared->Prop} (p:IsPart v o) (h:Q o s):wpAny (model prog w) A (Builtin.Slice.slicePartIndex v) Q E s:=by
 cases p with
 | none=>exact slicePart_none h
 | int i t=>exact slicePart_int h
theorem V9 {sl:Addr} {vl vu:Value} {lo hi:Option Int} {n:Nat} {Q:Int×Int×Nat->Shared->Prop} (hs:s.heap.IsSliceOf sl vl vu .none) (pl:IsPart vl lo) (pu:IsPart vu hi)
  (h:Q (((aQ n 0 lo:Nat):Int),1,aQ n n hi - aQ n 0 lo) s):wpAny (model prog w) A (Builtin.Slice.sliceApplied (.ref sl) (pure (n:Int))) Q E s:=by
 obtain ⟨os,hos,hcs,hds⟩:=id hs;unfold Builtin.Slice.sliceApplied Builtin.Slice.sliceFields;refine wpAny_bind (wpAny_bind (wpAny_field hos hds (x:=vl) rfl (wpAny_bind (wpAny_field hos hds (x:=vu) rfl (wpAny_bind (wpAny_field hos hds (x := .none) rfl (wpAny_pure ?_)))))));refine wpAny_bind (slicePart_none ?_)
 show wpAny _ _ (if ((1:Int)==0)=true then _ else _) _ _ s
 rw [if_neg (by decide)];refine wpAny_bind (Ur pl (wpAny_bind (Ur pu (wpAny_bind (wpAny_pure ?_)))))
 show wpAny _ _ (match Builtin.Slice.sliceAdjust lo hi 1 (n:Int) with | (lo,hi)=>pure (lo,(1:Int),Builtin.Slice.slicePlaces lo hi 1)) _ _ s
 rw [Px lo hi n]
 show wpAny _ _ (pure (((aQ n 0 lo:Nat):Int),(1:Int),Builtin.Slice.slicePlaces ((aQ n 0 lo:Nat):Int) ((aQ n n hi:Nat):Int) 1)) _ _ s
 rw [Py];exact wpAny_pure h
theorem Pz (xs:Array Value) (i k:Nat):((List.range k).filterMap fun (m:Nat)=>xs[((i:Int)+(m:Int)*1).toNat]?).toArray=((xs.toList.drop i).take k).toArray:=by
 have e:(fun (m:Nat)=>xs[((i:Int)+(m:Int)*1).toNat]?)=fun m=>xs[i+m]?:=by
  funext m
  have:((i:Int)+(m:Int)*1).toNat=i+m:=by omega
  rw [this]
 rw [e];have:=pick_run xs i k;rw [List.filterMap_map] at this
 have e2:((fun x=>xs[x]?) ∘ fun x=>i+x)=fun m=>xs[i+m]?:=rfl
 rw [e2] at this
 rw [this]
theorem f9 {t sl:Addr} {items:Array Value} {vl vu:Value} {lo hi:Option Int} {Q:Value->Shared->Prop} (ht:IsTup s.heap t items) (hs:s.heap.IsSliceOf sl vl vu .none) (pl:IsPart vl lo) (pu:IsPart vu hi)
  (hw:¬ (aQ items.size 0 lo=0/\aQ items.size items.size hi=items.size))
  (h:Q (.ref s.heap.objs.size) { s with heap:=s.heap.push { cls := .type "tuple",data := .seq ((items.toList.drop (aQ items.size 0 lo)).take (aQ items.size items.size hi - aQ items.size 0 lo)).toArray } })
  (hsz:items.size<=sizeLine):wpAny (model prog w) A (getItem (.ref t) (.ref sl)) Q E s:=by
 have jE:sizeOk (.seq ((items.toList.drop (aQ items.size 0 lo)).take (aQ items.size items.size hi - aQ items.size 0 lo)).toArray):=by
  show ((items.toList.drop (aQ items.size 0 lo)).take (aQ items.size items.size hi - aQ items.size 0 lo)).toArray.size<=sizeLine
  rw [List.size_toArray,List.length_take,List.length_drop,Array.length_toList];omega
 have hj:aQ items.size items.size hi<=items.size:=Pu _ _ (Nat.le_refl _) hi;obtain ⟨os,hos,hcs,hds⟩:=id hs;have hTs:s.TypeIs (.ref sl) "slice":=⟨os,hos,hcs⟩;unfold getItem
 try with_reducible refine wpAny_holding ?_
 first | refine wpAny_bind (wpAny_pure ?_) | skip
 refine wpAny_bind (wpAny_sequenceKey ht.typeIs (by decide) ?_);refine wpAny_bind (wpAny_callSpecial?_slot (name:=Str.ofString "__getitem__") ht.typeIs PyProof.Rows.slot_tuple_getitem
  (wpAny_call_entry PyProof.Rows.slot_tuple_getitem ht.typeIs entry_tuple_getitem ?_ (args_tuple_getitem _ _)))
 show wpAny _ _ (Builtin.Tuple.tupleItemsOf (.ref t) >>= _) _ _ s
 refine wpAny_bind (tupleItemsOf_ ht ?_);refine wpAny_bind (wpAny_typeOf hTs ?_);rw [if_pos (by decide)];refine wpAny_bind (V9 hs pl pu ?_);have hno:¬ ((((aQ items.size 0 lo:Nat):Int)==0&&(1:Int)==1&&(aQ items.size items.size hi - aQ items.size 0 lo)==items.size)=true):=by
  intro q;rw [Bool.and_eq_true,Bool.and_eq_true] at q
  have q1:((aQ items.size 0 lo:Nat):Int)=0:=eq_of_beq q.1.1;have q2:aQ items.size items.size hi - aQ items.size 0 lo=items.size:=eq_of_beq q.2;exact hw ⟨by omega,by omega⟩
 show wpAny _ _ (if (((aQ items.size 0 lo:Nat):Int)==0&&(1:Int)==1&&(aQ items.size items.size hi - aQ items.size 0 lo)==items.size)=true then _ else _) _ _ s
 rw [if_neg hno,Pz]
 first
  | exact wpAny_bind (m:=Builtin.Tuple.tupleExact _) (wpAny_newObj_type (wpAny_pure ⟨_,rfl,wpAny_pure h⟩) jE)
  | exact wpAny_bind (m:=Builtin.Tuple.tupleExact _) (wpAny_newObj_type (wpAny_bind (wpAny_pure (wpAny_pure ⟨_,rfl,wpAny_pure h⟩))) jE)
  | exact wpAny_bind (wpAny_bind (m:=Builtin.Tuple.tupleExact _) (wpAny_newObj_type (wpAny_pure (wpAny_pure ⟨_,rfl,wpAny_pure h⟩)) jE))
  | exact wpAny_bind (wpAny_bind (m:=Builtin.Tuple.tupleExact _) (wpAny_newObj_type (wpAny_pure ⟨_,rfl,wpAny_pure h⟩) jE))
end
end HT
namespace L2
open PySem PySem.Spec PyProof.Rows
abbrev TO:=St->Hp->(Option Int->Hp->Prop)->Prop
def PO (X:Cx) (e:Option Expr) (t:TO):Prop :=
 ∀ (pins:List (Addr×Obj)) (s:Shared) (σ:St) (H:Hp) (Q:Option Int->Hp->Prop),Inv X pins σ H s->t σ H Q ->
  wpAny (model X.prog X.w) X.A (evalPart e X.env) (fun u s'=>∃ o H',Inv X pins σ H' s'/\IsPart u o/\Q o H') X.xe s
def UM:TO:=fun _ H Q=>Q none H
def wR (t:TE):TO:=fun σ H Q=>t σ H fun x H1=>kI x fun i=>Q (some i) H1
theorem PB {ns:List Int}:∀ {us:List Value},Yw (ns.map V.int) us->IntsAre us ns:=by
 induction ns with
 | nil=>intro us r;rw [List.map_nil] at r;cases r;exact .nil
 | cons n ns ih =>
  intro us r;rw [List.map_cons] at r
  cases r with
  | cons r1 r2 =>
   obtain ⟨t,e⟩:=r1;subst e;exact .cons n t (ih r2)
section
variable {X:Cx} {e:Expr} {te:TE} {lo hi:Option Expr} {tl th:TO} {pos p2:Pos}
theorem Xw:PO X none UM:=by
 intro pins s σ H Q I h;rw [evalPart_none];exact wpAny_pure ⟨none,H,I,.none,h⟩
theorem Xx (h:PE X e te):PO X (some e) (wR te):=by
 intro pins s σ H Q I hw;rw [evalPart_some];refine aL (h pins s σ H _ I hw) fun u s1 ⟨x,H1,I1,r1,q1⟩=>?_
 obtain ⟨i,rfl,q⟩:=UH.mp q1;obtain ⟨t,rfl⟩:=r1;exact ⟨some i,H1,I1,.int i t,q⟩
def sO (X:Cx) (r:V->Option Int->Option Int->Hp->VK->Prop):Prop :=
 ∀ (pins:List (Addr×Obj)) (s:Shared) (σ:St) (H:Hp) (x:V) (v vl vu:Value) (lo hi:Option Int) (sl:Addr) (Q:VK),Inv X pins σ H s->YF x v->s.heap.IsSliceOf sl vl vu .none->IsPart vl lo->IsPart vu hi->r x lo hi H Q ->
  ∃ T id,typeLookup (.type T) "__getitem__"=pure (some (.builtin id))/\s.TypeIs v T/\wpAny (model X.prog X.w) X.A (getItem v (.ref sl)) (EP X pins σ Q) X.xe s
def wU (r:V->Option Int->Option Int->Hp->VK->Prop) (te:TE) (tl th:TO):TE:=fun σ H Q=>te σ H fun x H1=>tl σ H1 fun l H2=>th σ H2 fun u H3=>r x l u H3 Q
theorem Xr {r:V->Option Int->Option Int->Hp->VK->Prop} (hr:sO X r) (he:PE X e te) (hl:PO X lo tl) (hu:PO X hi th):PE X (.Subscript e (.Slice lo hi none p2) pos) (wU r te tl th):=by
 intro pins s σ H Q I h;refine Subscript_ (aL (he pins s σ H _ I h) fun v s1 ⟨x,H1,I1,r1,q1⟩=>?_);refine wpAny_Slice (aL (hl pins s1 σ H1 _ I1 q1) fun vl s2 ⟨l,H2,I2,pl,q2⟩=>aL (hu pins s2 σ H2 _ I2 q2) fun vu s3 ⟨u,H3,I3,pu,q3⟩=>?_);rw [evalPart_none];refine wpAny_pure ?_;have I4:Inv X pins σ H3 { s3 with heap:=s3.heap.push { cls := .type "slice",data := .fields #[vl,vu,.none] } }:=I3.kept (t':=s3.toks) fun b ob q=>Heap.get?_push_of_some _ q
 obtain ⟨T,id,hT,ht,hg⟩:=hr pins { s3 with heap:=s3.heap.push { cls := .type "slice",data := .fields #[vl,vu,.none] } } σ H3 x v vl vu l u s3.heap.objs.size Q I4 r1 (Heap.IsSliceOf.new ..) pl pu q3
 show wpAny (model X.prog X.w) X.A (subscriptTail e (.Slice lo hi none p2) v (.ref s3.heap.objs.size)) (EP X pins σ Q) X.xe { s3 with heap:=s3.heap.push { cls := .type "slice",data := .fields #[vl,vu,.none] } }
 exact tail_any (ops:=[.ref s3.heap.objs.size,v]) ht hT hg (by with_unfolding_all rfl)
def WS (xs:List V) (lo hi:Option Int):List V:=(xs.drop (HT.aQ xs.length 0 lo)).take (HT.aQ xs.length xs.length hi - HT.aQ xs.length 0 lo)
theorem V4 (xs:List V) (lo hi:Option Int):(WS xs lo hi).length<=xs.length:=by
 unfold WS;rw [List.length_take,List.length_drop];omega
def Mp (K:W.Frag):V->Option Int->Option Int->Hp->VK->Prop:=fun x lo hi H Q=>∃ a xs,x = .ref a/\aJ K H a xs /\
 ¬ (HT.aQ xs.length 0 lo=0/\HT.aQ xs.length xs.length hi=xs.length)/\∀ p,H p=none->Q (.ref p) (upd H p (.tup (WS xs lo hi)))
theorem PK:sO X (Mp X.K):=by
 intro pins s σ H x v vl vu lo hi sl Q I rx hs pl pu h;obtain ⟨a,xs,rfl,hx,hw,q⟩:=h
 cases rx
 obtain ⟨its,r,ht,hz⟩:=I.tuple hx;have hlen:its.toArray.size=xs.length:=by rw [List.size_toArray];exact r.length.symm
 refine ⟨"tuple",_,PyProof.Rows.slot_tuple_getitem.lookup,ht.typeIs,?_⟩;refine HT.f9 ht hs pl pu (by rw [hlen];exact hw) ?_ (by rw [hlen];exact hz);rw [hlen];refine ⟨.ref s.heap.objs.size,_,I.laid (t':=s.toks) (o := .tup (WS xs lo hi)) (fun b ob q=>Heap.get?_push_of_some _ q) (Nat.le_refl _) ?_,rfl,q _ (I.hok.fresh (Nat.le_refl _))⟩;exact ⟨Nat.le_trans (V4 xs lo hi) hz,_,(r.drop (HT.aQ xs.length 0 lo)).take (HT.aQ xs.length xs.length hi - HT.aQ xs.length 0 lo),IsTup.new _ _⟩
end
def jO (n:Nat) (i:Int):Option Nat:=if 0<=i then (if i<n then some i.toNat else none) else if -(n:Int)<=i then some (i+n).toNat else none
def mC {α:Type} (xs:List α) (i:Int):Option α:=(jO xs.length i).bind fun j=>xs[j]?
theorem Gu {n:Nat} {i:Int} {j:Nat} (h:jO n i=some j):seqIndex? i n=some j/\j<n /\ -(n:Int)<=i/\i<n:=by
 unfold jO at h;by_cases h0:0<=i
 ·rw [if_pos h0] at h
  by_cases h1:i<n
  ·rw [if_pos h1] at h
   have e:i.toNat=j:=Option.some.inj h;exact ⟨by rw [seqIndex_of h0 h1,e],by omega,by omega,h1⟩
  ·rw [if_neg h1] at h;cases h
 ·rw [if_neg h0] at h
  by_cases h1 : -(n:Int)<=i
  ·rw [if_pos h1] at h
   have e:(i+n).toNat=j:=Option.some.inj h;exact ⟨by rw [seqIndex_neg (by omega) h1,e],by omega,h1,by omega⟩
  ·rw [if_neg h1] at h;cases h
theorem Gv {α:Type} {xs:List α} {i:Int} {v:α} (h:mC xs i=some v):∃ j,seqIndex? i xs.length=some j/\xs[j]?=some v/\j<xs.length /\ -(xs.length:Int)<=i/\i<xs.length:=by
 unfold mC at h
 cases e:jO xs.length i with
 | none=>rw [e] at h;cases h
 | some j =>
  rw [e] at h
  obtain ⟨h1,h2,h3,h4⟩:=Gu e;exact ⟨j,h1,h,h2,h3,h4⟩
theorem Yk {α:Type} {xs:List α} {j:Nat} {v:α} (h:xs[j]?=some v):mC xs (j:Int)=some v:=by
 have hj:j<xs.length:=(List.getElem?_eq_some_iff.mp h).1;have e:jO xs.length (j:Int)=some j:=by
  unfold jO;rw [if_pos (by omega),if_pos (by omega)];simp
 unfold mC;rw [e];exact h
def PL (b:Expr):Prop:=∀ o i,subscripted b false o i=operate [o,i] (getItem o i)
def sS (X:Cx) (r:R2):Prop :=
 ∀ (value slice:Expr) (pins:List (Addr×Obj)) (s:Shared) (σ:St) (H:Hp) (x y:V) (v u:Value) (Q:VK),Inv X pins σ H s->YF x v->YF y u->r x y H Q ->
  subscripted slice false v u=operate [v,u] (getItem v u)->wpAny (model X.prog X.w) X.A (subscriptTail value slice v u) (EP X pins σ Q) X.xe s
def sU (X:Cx) (id:String) (r:V->List V->Hp->VK->Prop):Prop :=
 ∀ (pins:List (Addr×Obj)) (s:Shared) (σ:St) (H:Hp) (x:V) (xs:List V) (v:Value) (us:List Value) (Q:VK),Inv X pins σ H s->YF x v->Yw xs us->r x xs H Q ->
  wpAny (model X.prog X.w) X.A (call (.builtin id) (v::us)) (EP X pins σ Q) X.xe s
section
variable {X:Cx} {a b:Expr} {ta tb:TE} {pos:Pos}
theorem Ys {r:R2} (hr:sS X r) (ha:PE X a ta) (hb:PE X b tb) (hs:PL b):PE X (.Subscript a b pos) (iY r ta tb):=by
 intro pins s σ H Q I h;exact Subscript_ (qT ha hb I h fun v u s2 x y H2 I2 rx ry q=>hr a b pins s2 σ H2 x y v u Q I2 rx ry q (hs _ _))
inductive mD (S:List V->Prop) (i:Int) (Q:V->Prop):Prop
 | mk (xs:List V) (h:S xs) (v:V) (e:mC xs i=some v) (q:Q v)
def rA (K:W.Frag):R2:=fun x y H Q=>kR x fun p=>kI y fun i=>mD (aG K H p) i fun v=>Q v H
theorem mD.e {S:Addr->List V->Prop} {x y:V} {Q:V->Prop} (h:kR x fun p=>kI y fun i=>mD (S p) i Q):∃ p xs i v,x = .ref p/\y = .int i/\S p xs/\mC xs i=some v/\Q v:=by
 obtain ⟨p,e1,h⟩:=WR.mp h;obtain ⟨i,e2,xs,h1,v,h2,h3⟩:=UH.mp h;exact ⟨p,xs,i,v,e1,e2,h1,h2,h3⟩
def sV (K:W.Frag):R2:=fun x y H Q=>kR x fun p=>kI y fun i=>mD (aJ K H p) i fun v=>Q v H
theorem YL:sS X (rA X.K):=by
 intro value slice pins s σ H x y v u Q I rx ry h hs
 replace h:=mD.e h
 obtain ⟨p,xs,i,z,rfl,rfl,hq,he,q⟩:=h
 cases rx
 obtain ⟨t,rfl⟩:=ry;obtain ⟨its,r,pl,hz⟩:=I.list hq;obtain ⟨j,h1,h2,h3,h4,h5⟩:=Gv he;obtain ⟨w,ew,iZ⟩:=r.get h2;have hl:=r.length;have hn:=Up;have fin:EP X pins σ Q w s:=⟨z,H,I,iZ,q⟩;by_cases h0:0<=i
 ·have hj:i.toNat=j:=by
   rw [seqIndex_of h0 h5] at h1
   exact Option.some.inj h1
  exact item_listR pl.isList h0 (by omega) (by rw [hj];simpa using ew) fin hs
 ·have hj:(i+(its.toArray.size:Int)).toNat=j:=by
   rw [seqIndex_neg (by omega) h4] at h1
   rw [List.size_toArray,<- hl];exact Option.some.inj h1
  exact subscriptTail_builtinR (x:=w) pl.isList.typeIs slot_list_getitem.lookup
   (wpAny_getItem_list_neg (Q:=fun r s'=>r=w/\EP X pins σ Q r s') pl.isList (by omega) (by rw [List.size_toArray]<;>omega) (by omega) (by rw [hj];simpa using ew) ⟨rfl,fin⟩) hs
theorem YD:sS X (sV X.K):=by
 intro value slice pins s σ H x y v u Q I rx ry h hs
 replace h:=mD.e h
 obtain ⟨p,xs,i,z,rfl,rfl,hq,he,q⟩:=h
 cases rx
 obtain ⟨t,rfl⟩:=ry;obtain ⟨its,r,pl,hz⟩:=I.tuple hq;obtain ⟨j,h1,h2,h3,h4,h5⟩:=Gv he;obtain ⟨w,ew,iZ⟩:=r.get h2;have hl:=r.length;have hn:=Up;have fin:EP X pins σ Q w s:=⟨z,H,I,iZ,q⟩;exact subscriptTail_builtinR (x:=w) pl.typeIs slot_tuple_getitem.lookup
  (getItem_tuple (j:=j) (Q:=fun r s'=>r=w/\EP X pins σ Q r s') pl (by omega) (by omega) (by rw [List.size_toArray,<- hl];exact h1) (by simpa using ew) ⟨rfl,fin⟩) hs
theorem PN (its:List Value) (n j:Nat) (u:Value):Obj.mapSeq (·.setIfInBounds j u) { cls := .type "list",data := .seq its.toArray n }={ cls := .type "list",data := .seq (its.set j u).toArray n }:=by
 simp [Obj.mapSeq]
theorem Inv.lst {pins:List (Addr×Obj)} {σ:St} {H:Hp} {s:Shared} {p:Addr} {xs:List V} (I:Inv X pins σ H s) (h:H p=some (.lst xs)) :
  ∃ (its:List Value) (n:Nat),Yw xs its/\s.heap.get? p=some { cls := .type "list",data := .seq its.toArray n }/\xs.length<=sizeLine:=by
 obtain ⟨z,its,n,r,e⟩:=I.hok p _ h;exact ⟨its,n,r,e,z⟩
theorem Inv.wV {pins:List (Addr×Obj)} {σ:St} {H:Hp} {s:Shared} {p:Addr} {xs ys:List V} {its its':List Value} {n n':Nat} {f:Obj->Obj} (I:Inv X pins σ H s) (h:H p=some (.lst xs))
  (ho:s.heap.get? p=some { cls := .type "list",data := .seq its.toArray n }) (hf:f { cls := .type "list",data := .seq its.toArray n }={ cls := .type "list",data := .seq its'.toArray n' }) (r:Yw ys its') (hz:ys.length<=sizeLine) (t:Nat) :
  Inv X pins σ (upd H p (.lst ys)) { s with heap:=s.heap.update p f,toks:=t }:=by
 have e:(s.heap.update p f).get? p=some { cls := .type "list",data := .seq its'.toArray n' }:=by
  rw [Heap.get?_update_self f ho (by rw [hf]<;>rfl),hf]
 refine I.write (x:=p) (e:=p) (by rw [h];trivial) (.inl rfl) (fun b u hb q=>(Heap.get?_update_other _ _ (Ne.symm hb)).trans q) ⟨_,e⟩ ?_;exact ⟨hz,its',n',r,e⟩
def wW:V->V->V->Hp->(Hp->Prop)->Prop:=fun o i v H Q=>∃ p xs k j,o = .ref p/\i = .int k/\H p=some (.lst xs)/\jO xs.length k=some j/\Q (upd H p (.lst (xs.set j v)))
theorem PX:wA X wW:=by
 intro pins s σ H o i v ov iv u Q I ro ri rv h;obtain ⟨p,xs,k,j,rfl,rfl,hp,hj,q⟩:=h
 cases ro
 obtain ⟨t,rfl⟩:=ri;obtain ⟨its,n,r,ho,hz⟩:=I.lst hp;obtain ⟨h1,h2,h3,h4⟩:=Gu hj;have hl:=r.length;have hn:=Up;have I':Inv X pins σ (upd H p (.lst (xs.set j v))) { s with heap:=s.heap.update p (Obj.mapSeq (·.setIfInBounds j u)) } :=
  I.wV hp ho (PN its n j u) (r.set rv j) (by rw [List.length_set];exact hz) s.toks
 by_cases h0:0<=k
 ·have hk:k.toNat=j:=by
   rw [seqIndex_of h0 h4] at h1
   exact Option.some.inj h1
  exact W.ki_setAt ho h0 (by omega) (by rw [List.size_toArray,<- hl];exact h4) (by rw [hk];exact ⟨_,I',q⟩)
 ·have hk:(k+(its.toArray.size:Int)).toNat=j:=by
   rw [seqIndex_neg (by omega) h3] at h1
   rw [List.size_toArray,<- hl];exact Option.some.inj h1
  exact W.ki_setBack ho (by omega) (by rw [List.size_toArray,<- hl];exact h3) (by omega) (by rw [hk];exact ⟨_,I',q⟩)
theorem QP (lo hi:Option Int) (n:Nat):(sliceBounds lo hi none n).1=((HT.aQ n 0 lo:Nat):Int)/\(sliceBounds lo hi none n).2.1=((HT.aQ n n hi:Nat):Int)/\(sliceBounds lo hi none n).2.2=1:=by
 refine ⟨?_,?_,rfl⟩
 ·cases lo with
  | none=>simp [sliceBounds,HT.aQ]
  | some i =>
   simp only [sliceBounds,HT.aQ,Option.getD_none,show (1:Int)>0 by decide,if_true];by_cases h:i<0
   ·simp only [h,if_true]<;>omega
   ·simp only [h,if_false]<;>omega
 ·cases hi with
  | none=>simp [sliceBounds,HT.aQ]
  | some i =>
   simp only [sliceBounds,HT.aQ,Option.getD_none,show (1:Int)>0 by decide,if_true];by_cases h:i<0
   ·simp only [h,if_true]<;>omega
   ·simp only [h,if_false]<;>omega
theorem Qo (its:List Value) (lo hi:Option Int):slicePick its.toArray lo hi none=((its.drop (HT.aQ its.length 0 lo)).take (HT.aQ its.length its.length hi - HT.aQ its.length 0 lo)).toArray:=by
 obtain ⟨h1,h2,h3⟩:=QP lo hi its.toArray.size;unfold slicePick;rw [h1,h2,h3];simp only [sliceRange_one,pick_run,List.size_toArray]<;>rfl
inductive P0 (K:W.Frag) (H:Hp) (a:Addr) (Q:List V->Prop):Prop
 | mk (xs:List V) (h:aG K H a xs) (q:Q xs)
def tu (K:W.Frag):V->Option Int->Option Int->Hp->VK->Prop:=fun x lo hi H Q=>kR x fun a=>P0 K H a fun xs=>∀ p,H p=none->Q (.ref p) (upd H p (.lst (WS xs lo hi)))
theorem WL:sO X (tu X.K):=by
 intro pins s σ H x v vl vu lo hi sl Q I rx hs pl pu h;obtain ⟨a,rfl,xs,hx,q⟩:=WR.mp h
 cases rx
 obtain ⟨its,r,ht,hz⟩:=I.list hx;have hlen:=r.length;refine ⟨"list",_,slot_list_getitem.lookup,ht.isList.typeIs,?_⟩;refine wpAny_getItem_list_slice ht.isList hs pl pu .none (by simp) ?_ (by rw [List.size_toArray]<;>omega);rw [Qo,<- hlen];refine ⟨.ref s.heap.objs.size,_,I.laid (t':=s.toks) (o := .lst (WS xs lo hi)) (fun b ob q=>Heap.get?_push_of_some _ q) (Nat.le_refl _) ?_,rfl,q _ (I.hok.fresh (Nat.le_refl _))⟩;exact ⟨Nat.le_trans (V4 xs lo hi) hz,_,0,(r.drop (HT.aQ xs.length 0 lo)).take (HT.aQ xs.length xs.length hi - HT.aQ xs.length 0 lo),Heap.get?_push_size _ rfl⟩
def WZ:V->Bool
 | .non=>true
 | .bl _=>true
 | .int _=>true
 | .str _=>true
 | _=>false
def jc:V->V->Bool
 | .non,.non=>true
 | .bl a,.bl b=>a==b
 | .bl a,.int b=>(if a then 1 else 0)==b
 | .int a,.bl b=>a==(if b then 1 else 0)
 | .int a,.int b=>a==b
 | .str a,.str b=>a==b
 | _,_=>false
theorem Ra {A:Around} {s:Shared} {y x:V} {u v:Value} (ry:YF y u) (rx:YF x v) (fy:WZ y=true) (fx:WZ x=true):SeqAt.EqAt A s u v (jc y x):=by
 cases y with
 | non =>
  cases ry
  cases x with
  | non=>cases rx;exact SeqAt.EqAt.same _
  | bl b=>cases rx;exact SeqAt.EqAt.none_bool b
  | int b=>obtain ⟨t,rfl⟩:=rx;exact SeqAt.EqAt.none_int b t
  | str b=>obtain ⟨t,rfl⟩:=rx;exact SeqAt.EqAt.none_str b t
  | _=>exact absurd (show false=true from fx) Bool.false_ne_true
 | bl a =>
  cases ry
  cases x with
  | non=>cases rx;exact SeqAt.EqAt.bool_none a
  | bl b=>cases rx;exact SeqAt.EqAt.bool_bool a b
  | int b=>obtain ⟨t,rfl⟩:=rx;exact SeqAt.EqAt.bool_int a b t
  | str b=>obtain ⟨t,rfl⟩:=rx;exact SeqAt.EqAt.bool_str a b t
  | _=>exact absurd (show false=true from fx) Bool.false_ne_true
 | int a =>
  obtain ⟨t',rfl⟩:=ry
  cases x with
  | non=>cases rx;exact SeqAt.EqAt.int_none a t'
  | bl b=>cases rx;exact SeqAt.EqAt.int_bool a t' b
  | int b=>obtain ⟨t,rfl⟩:=rx;exact SeqAt.EqAt.int_int a t' b t
  | str b=>obtain ⟨t,rfl⟩:=rx;exact SeqAt.EqAt.int_str a t' b t
  | _=>exact absurd (show false=true from fx) Bool.false_ne_true
 | str a =>
  obtain ⟨t',rfl⟩:=ry
  cases x with
  | non=>cases rx;exact SeqAt.EqAt.str_none a t'
  | bl b=>cases rx;exact SeqAt.EqAt.str_bool a t' b
  | int b=>obtain ⟨t,rfl⟩:=rx;exact SeqAt.EqAt.str_int a t' b t
  | str b=>obtain ⟨t,rfl⟩:=rx;exact SeqAt.EqAt.str_str a t' b t
  | _=>exact absurd (show false=true from fx) Bool.false_ne_true
 | _=>exact absurd (show false=true from fy) Bool.false_ne_true
def gO (x:V) (u:Value):Bool:=match u with
 | .none=>jc .non x
 | .bool b=>jc (.bl b) x
 | .int i _=>jc (.int i) x
 | .str z _=>jc (.str z) x
 | _=>false
theorem Gw {x y:V} {u:Value} (r:YF y u) (f:WZ y=true):gO x u=jc y x:=by
 cases y with
 | non=>cases r;rfl
 | bl b=>cases r;rfl
 | int i=>obtain ⟨t,rfl⟩:=r;rfl
 | str z=>obtain ⟨t,rfl⟩:=r;rfl
 | _=>exact absurd (show false=true from f) Bool.false_ne_true
theorem UN {x:V}:∀ {xs:List V} {us:List Value},Yw xs us->xs.all WZ=true->us.any (gO x)=xs.any fun y=>jc y x
 | _,_,.nil,_=>rfl
 | y::xs,u::us,.cons r t,f=>by
  rw [List.all_cons,Bool.and_eq_true] at f
  rw [List.any_cons,List.any_cons,Gw r f.1,UN t f.2]
theorem Ua {A:Around} {s:Shared} {x:V} {v:Value} (rx:YF x v) (fx:WZ x=true):∀ {xs:List V} {us:List Value},Yw xs us->xs.all WZ=true->∀ u∈us,SeqAt.EqAt A s u v (gO x u)
 | _,_,.nil,_=>fun u hu=>by cases hu
 | y::xs,u::us,.cons r t,f=>fun u' hu=>by
  rw [List.all_cons,Bool.and_eq_true] at f
  rcases List.mem_cons.mp hu with rfl | hu
  ·rw [Gw r f.1];exact Ra r rx f.1 fx
  ·exact Ua rx fx t f.2 u' hu
def inV (x:V) (xs:List V):Bool:=xs.any fun y=>jc y x
def wX (K:W.Frag) (neg:Bool):R2:=fun x y H Q=>∃ p xs,y = .ref p/\(aG K H p xs\/aJ K H p xs)/\WZ x=true/\xs.all WZ=true/\Q (.bl (if neg then !inV x xs else inV x xs)) H
theorem Qc:bI X (compareOp .In) (wX X.K false):=by
 intro pins s σ H x y v u Q I rx ry h;obtain ⟨p,xs,rfl,hq,fx,fs,q⟩:=h
 cases ry
 rcases hq with hq | hq
 ·obtain ⟨its,r,pl,hz⟩:=I.list hq
  refine SeqAt.in_listAt (gO x) pl.isList (fun w hw=>Ua rx fx r fs w (by simpa using hw)) ⟨.bl _,H,I,rfl,?_⟩;rw [show its.toArray.any (gO x)=its.any (gO x) by simp,UN r fs];exact q
 ·obtain ⟨its,r,pl,hz⟩:=I.tuple hq
  refine SeqAt.in_tupleAt (gO x) pl (fun w hw=>Ua rx fx r fs w (by simpa using hw)) ⟨.bl _,H,I,rfl,?_⟩;rw [show its.toArray.any (gO x)=its.any (gO x) by simp,UN r fs];exact q
inductive Mq (K:W.Frag) (H:Hp) (p:Addr) (Q:Int->Prop):Prop
 | mk (ys:List V) (h:aG K H p ys\/aJ K H p ys) (q:Q ys.length)
def rB (K:W.Frag):List V->Hp->VK->Prop:=fun xs H Q=>k1 xs fun x=>kR x fun p=>Mq K H p fun n=>Q (.int n) H
theorem Yy:XH X (.builtin "len") (rB X.K):=by
 intro pins s σ H xs us Q I r h;obtain ⟨x,rfl,h1⟩:=v9 h;obtain ⟨p,rfl,ys,hq,q⟩:=WR.mp h1;obtain ⟨u,rfl,rx⟩:=WH r
 cases rx
 have hn:=Up;rcases hq with hq | hq
 ·obtain ⟨its,r',pl,hz⟩:=I.list hq
  have hlen:=r'.length;exact Calls.call_len_list pl.isList (by simp only [List.size_toArray]<;>omega) ⟨.int ys.length,H,I.tok _,⟨s.toks+1,by rw [List.size_toArray,hlen]⟩,q⟩
 ·obtain ⟨its,r',pl,hz⟩:=I.tuple hq
  have hlen:=r'.length;exact len_tuple pl (by simp only [List.size_toArray]<;>omega) ⟨.int ys.length,H,I.tok _,⟨s.toks+1,by rw [List.size_toArray,hlen]⟩,q⟩
theorem Xu:XH X (.type "list") (fun xs H Q=>∃ p ys,xs=[.ref p]/\(aG X.K H p ys\/aJ X.K H p ys)/\∀ l,H l=none->Q (.ref l) (upd H l (.lst ys))):=by
 intro pins s σ H xs us Q I r h;obtain ⟨p,ys,rfl,hq,q⟩:=h;obtain ⟨u,rfl,rx⟩:=WH r
 cases rx
 have fin:∀ (its:List Value),Yw ys its->ys.length<=sizeLine->∀ (h':Heap) (c':Nat),(∀ b o',s.heap.get? b=some o'->h'.get? b=some o') ->
   h'.get? s.heap.objs.size=some { cls := .type "list",dict:=none,data := .seq its.toArray c',slots:=#[] }->EP X pins σ Q (.ref s.heap.objs.size) { s with heap:=h' }:=fun its r' hz h' c' kp e =>
  ⟨.ref s.heap.objs.size,_,I.laid (t':=s.toks) kp (Nat.le_refl _) (show YZ X.prog X.w _ h' _ (.lst ys) from ⟨hz,its,c',r',e⟩),rfl,q _ (I.hok.fresh (Nat.le_refl _))⟩
 rcases hq with hq | hq
 ·obtain ⟨its,r',pl,hz⟩:=I.list hq
  have hlen:=r'.length;obtain ⟨o,ho,hc,n,hd⟩:=pl.isList;exact call_list_seq p (.inl rfl) ho hc hd (fun h' c' kp e=>fin its r' hz h' c' kp e) (by simp only [List.size_toArray]<;>omega)
 ·obtain ⟨its,r',pl,hz⟩:=I.tuple hq
  have hlen:=r'.length;obtain ⟨o,ho,hc,n,hd⟩:=pl;exact call_list_seq p (.inr rfl) ho hc hd (fun h' c' kp e=>fin its r' hz h' c' kp e) (by simp only [List.size_toArray]<;>omega)
theorem Xy:XH X (.type "tuple") (fun xs H Q=>∃ p ys,xs=[.ref p]/\((aG X.K H p ys/\∀ l,H l=none->Q (.ref l) (upd H l (.tup ys)))\/(aJ X.K H p ys/\Q (.ref p) H))):=by
 intro pins s σ H xs us Q I r h;obtain ⟨p,ys,rfl,h⟩:=h;obtain ⟨u,rfl,rx⟩:=WH r
 cases rx
 rcases h with ⟨hq,q⟩ | ⟨hq,q⟩
 ·obtain ⟨its,r',pl,hz⟩:=I.list hq
  have hlen:=r'.length;refine call_tuple_list pl.isList (fun h' kp=>?_) (by simp only [List.size_toArray]<;>omega);have I1:Inv X pins σ H { s with heap:=h' }:=I.kept (t':=s.toks) kp;have I2:Inv X pins σ (upd H h'.objs.size (.tup ys)) { s with heap:=h'.push { cls := .type "tuple",data := .seq its.toArray } } :=
   I1.laid (t':=s.toks) (fun b o e=>Heap.get?_push_of_some _ e) (Nat.le_refl _) (show YZ X.prog X.w _ _ _ (.tup ys) from ⟨hz,its,r',IsTup.new _ _⟩)
  exact ⟨.ref h'.objs.size,_,I2,rfl,q _ (I1.hok.fresh (Nat.le_refl _))⟩
 ·obtain ⟨its,r',pl,hz⟩:=I.tuple hq
  exact call_tuple_same pl ⟨.ref p,H,I,rfl,q⟩
def tD (K:W.Frag) (T:String) (x:V) (H:Hp):Prop:=match x with
 | .str _=>T="str"
 | .int _=>T="int"
 | .ref p=>(T="list"/\∃ xs,aG K H p xs)\/(T="tuple"/\∃ o,K.lookup p=some o/\o.cls = .type "tuple"/\o.dict=none) \/
   (T="dict"/\((∃ kvs,H p=some (.dK kvs))\/∃ kvs,H p=some (.dT kvs)))\/(T="set"/\∃ S n,H p=some (.set S n))
 | _=>False
theorem Gy {pins:List (Addr×Obj)} {σ:St} {H:Hp} {s:Shared} {T:String} {x:V} {v:Value} (I:Inv X pins σ H s) (r:YF x v) (ty:tD X.K T x H) :
  s.TypeIs v T/\∀ a,v = .ref a->∃ ob,s.heap.get? a=some ob/\ob.dict=none:=by
 cases x with
 | str z =>
  obtain ⟨t,rfl⟩:=r
  cases (show T="str" from ty)
  exact ⟨typeIs_str s z t,fun _ e=>nomatch e⟩
 | int i =>
  obtain ⟨t,rfl⟩:=r
  cases (show T="int" from ty)
  exact ⟨typeIs_int s i t,fun _ e=>nomatch e⟩
 | ref p =>
  cases r
  rcases ty with ⟨rfl,xs,hq⟩ | ⟨rfl,o,hk,hc,hd⟩ | ⟨rfl,hk⟩ | ⟨rfl,S,n,hk⟩
  ·obtain ⟨its,_,pl,_⟩:=I.list hq
   refine ⟨pl.isList.typeIs,fun a e=>?_⟩
   cases e
   obtain ⟨o,n,e,c,hd,_⟩:=pl;exact ⟨o,e,hd⟩
  ·refine ⟨⟨o,I.bA p o hk,hc⟩,fun a e=>?_⟩
   cases e
   exact ⟨o,I.bA _ o hk,hd⟩
  ·have z:∃ o,s.heap.get? p=some o/\o.ExactDict:=by
    rcases hk with ⟨kvs,hk⟩ | ⟨kvs,hk⟩
    ·obtain ⟨_,_,_,_,o,_,_,e,ex,_⟩:=I.hok p _ hk
     exact ⟨o,e,ex⟩
    ·obtain ⟨_,_,_,_,o,_,_,e,ex,_⟩:=I.hok p _ hk
     exact ⟨o,e,ex⟩
   obtain ⟨o,e,ex⟩:=z;refine ⟨⟨o,e,ex.1⟩,fun a e2=>?_⟩
   cases e2
   exact ⟨o,e,ex.2.1⟩
  ·obtain ⟨o,_,_,_,e,ex,_⟩:=I.hok p _ hk
   refine ⟨⟨o,e,ex.1⟩,fun a e2=>?_⟩
   cases e2
   exact ⟨o,e,ex.2.1⟩
 | _=>exact False.elim ty
def rD (K:W.Frag) (T:String) (r:V->List V->Hp->VK->Prop) (to:TE):TE:=fun σ H Q=>to σ H fun x H1=>tD K T x H1/\r x [] H1 Q
def wY (K:W.Frag) (T:String) (r:V->List V->Hp->VK->Prop) (to:TE) (t:TA):TE:=fun σ H Q=>to σ H fun x H1=>tD K T x H1/\t σ H1 fun xs H2=>r x xs H2 Q
variable {o e:Expr} {es:List Expr} {to:TE} {t:TA} {name:Str} {apos cpos:Pos} {T id:String} {r:V->List V->Hp->VK->Prop}
theorem QQ (pa:PlainAttrs T) (slot:Slot T name id) (hty:typeOf (.builtin id)=pure (.type "method_descriptor")) (hm:sU X id r) (ho:PE X o to)
  (hbase:attributeBase o name X.env (eval o X.env)=eval o X.env) (hline:(apos.endLine==cpos.line)=true):PE X (.Call (.Attribute o name apos) [] [] cpos) (rD X.K T r to):=by
 intro pins s σ H Q I h;refine wpAny_Call_method0_late hbase hline (aL (ho pins s σ H _ I h) fun v s1 ⟨x,H1,I1,r1,ty,q1⟩=>?_);obtain ⟨h1,h2⟩:=Gy I1 r1 ty;exact ⟨T,id,pa,slot,hty,h1,h2,Calls.callWith_builtin rfl (PySem.evalArgs_none (hm pins s1 σ H1 x [] v [] Q I1 r1 .nil q1))⟩
theorem Xp (pa:PlainAttrs T) (slot:Slot T name id) (hty:typeOf (.builtin id)=pure (.type "method_descriptor")) (hm:sU X id r) (ho:PE X o to) (ha:PA X (e::es) t)
  (hbase:attributeBase o name X.env (eval o X.env)=eval o X.env)
  (hfew:((backTo cpos (starEach (e::es) X.env)).all (fun x => !x.1)&&(backToKw cpos (keywordEach [] X.env)).all (fun x=>x.1.isSome)
   && decide ((e::es).length+([]:List Keyword).length+(if ([]:List Keyword).isEmpty then 0 else 1)<30))=true)
  (hline:(apos.endLine==cpos.line)=true) (hs:starEach (e::es) X.env=(false,eval e X.env)::starEach es X.env) (hplain:(backTo cpos (starEach es X.env)).any (·.1)=false) :
  PE X (.Call (.Attribute o name apos) (e::es) [] cpos) (wY X.K T r to t):=by
 intro pins s σ H Q I h;refine wpAny_Call_method_late hbase hfew hline rfl (aL (ho pins s σ H _ I h) fun v s1 ⟨x,H1,I1,r1,ty,q1⟩=>?_);obtain ⟨h1,h2⟩:=Gy I1 r1 ty;refine ⟨T,id,pa,slot,hty,h1,h2,?_⟩;have hA:=ha cpos pins s1 σ H1 _ I1 q1;rw [hs] at hA ⊢
 refine Calls.callWith_builtin (by show (false||(backTo cpos (starEach es X.env)).any (·.1))=false;rw [hplain]<;>rfl) (Calls.evalArgs_plain ?_);exact aL hA fun us s2 ⟨vs,H2,I2,r2,q2⟩=>hm pins s2 σ H2 x vs v us Q I2 r1 r2 q2
/- xs.append(e),list.index on a module's tuple .. are sU facts of 06m -/
end
def wZ (X:Cx) (id:String) (r:V->List V->Hp->VK->Prop):Prop :=
 ∀ (pins:List (Addr×Obj)) (s:Shared) (σ:St) (H:Hp) (x:V) (xs:List V) (v:Value) (us:List Value) (Q:VK),Inv X pins σ H s->YF x v->Yw xs us->r x xs H Q ->
  wpAny (model X.prog X.w) X.A (call (.builtin id) (v::us)) (EP X pins σ Q) X.xe s
theorem Yw.one:∀ {x:V} {us:List Value},Yw [x] us->∃ u,us=[u]/\YF x u
 | _,_,.cons r .nil=>⟨_,rfl,r⟩
theorem Yw.two:∀ {x y:V} {us:List Value},Yw [x,y] us->∃ u v,us=[u,v]/\YF x u/\YF y v
 | _,_,_,.cons r (.cons q .nil)=>⟨_,_,rfl,r,q⟩
theorem Yw.eraseIdx:∀ {xs:List V} {us:List Value} (i:Nat),Yw xs us->Yw (xs.eraseIdx i) (us.eraseIdx i)
 | _,_,_,.nil => .nil
 | _,_,0,.cons _ t=>t
 | _,_,i+1,.cons r t => .cons r (Yw.eraseIdx i t)
theorem Yw.reverse {xs:List V} {us:List Value} (h:Yw xs us):Yw xs.reverse us.reverse:=by
 induction h with
 | nil=>exact .nil
 | cons r t ih=>rw [List.reverse_cons,List.reverse_cons];exact Yw.append ih (.cons r .nil)
theorem Qd {α:Type}:∀ (l:List α) (i:Nat),(l.eraseIdx i).length<=l.length
 | [],_=>Nat.le_refl _
 | _::_,0=>Nat.le_succ _
 | _::r,i+1=>Nat.succ_le_succ (Qd r i)
section
variable {X:Cx} {pins:List (Addr×Obj)} {σ:St} {H:Hp} {s:Shared} {l b:Addr} {xs ys zs:List V}
theorem Inv.rE {its its':List Value} {n:Nat} {f:Array Value->Array Value} {t':Nat} (I:Inv X pins σ H s) (hH:H l=some (.lst xs))
  (e:s.heap.get? l=some { cls := .type "list",data := .seq its.toArray n }) (hf:f its.toArray=its'.toArray) (hv:Yw ys its') (hz:ys.length<=sizeLine) :
  Inv X pins σ (upd H l (.lst ys)) { s with heap:=s.heap.update l (Obj.mapSeq f),toks:=t' }:=by
 have q:=PySem.IsL.update e f;rw [hf] at q
 refine I.write (x:=l) (e:=l) (by rw [hH];exact trivial) (.inl rfl) (fun b' u hb hu=>(Heap.get?_update_other s.heap (Obj.mapSeq f) (Ne.symm hb)).trans hu) ⟨_,q⟩ ?_;exact ⟨hz,its',_,hv,q⟩
theorem Inv.xg {its:List Value} {t':Nat} (I:Inv X pins σ H s) (hv:Yw ys its) (hz:ys.length<=sizeLine) :
  Inv X pins σ (upd H s.heap.objs.size (.lst ys)) { s with heap:=s.heap.push { cls := .type "list",data := .seq its.toArray },toks:=t' } :=
 I.laid (fun _ _ q=>Heap.get?_push_of_some _ q) (Nat.le_refl _) ⟨hz,its,0,hv,Heap.get?_push_size _ rfl⟩
theorem Inv.fresh (I:Inv X pins σ H s):H s.heap.objs.size=none:=I.hok.fresh (Nat.le_refl _)
theorem Inv.iK (I:Inv X pins σ H s) (hH:H l=some (.lst xs)):xs.length<=sizeLine/\∃ (its:List Value) (n:Nat),Yw xs its/\xs.length=its.length/\s.heap.get? l=some { cls := .type "list",data := .seq its.toArray n }:=by
 obtain ⟨z,its,n,r,e⟩:=I.hok l _ hH;exact ⟨z,its,n,r,r.length,e⟩
theorem Rb {n:Nat} (h:n<=sizeLine):Builtin.List.listTooLong n=false:=by
 unfold Builtin.List.listTooLong;exact decide_eq_false (by omega)
end
section
variable {X:Cx}
inductive Mr (H:Hp) (l:Addr) (Q:List V->Prop):Prop
 | mk (xs:List V) (h:H l=some (.lst xs)) (hz:xs.length<sizeLine) (q:Q xs)
def UO:V->List V->Hp->VK->Prop:=fun x vs H Q=>kR x fun l=>k1 vs fun y=>Mr H l fun xs=>Q .non (upd H l (.lst (xs++[y])))
theorem Y7:wZ X "list.append" UO:=by
 intro pins s σ H x vs v us Q I rx rv h;obtain ⟨l,rfl,h1⟩:=WR.mp h;obtain ⟨y,rfl,xs,hH,hz,q⟩:=v9 h1
 cases rx
 obtain ⟨u,rfl,ru⟩:=rv.one;obtain ⟨z,its,n,r,hl,e⟩:=I.iK hH;refine call_meets F.slot_list_append ⟨_,e,rfl⟩ F.entry_list_append (F.args_list_append_2 _ _) (PySem.list_append l its.toArray n u (by rw [List.size_toArray];omega)) ⟨e,?_⟩;refine ⟨.non,_,I.rE (its':=its++[u]) hH e (by simp) (r.append (.cons ru .nil)) ?_,rfl,q⟩;rw [List.length_append,List.length_singleton];omega
def Rc:V->List V->Hp->VK->Prop:=fun x vs H Q=>∃ l b xs zs,x = .ref l/\vs=[.ref b]/\H l=some (.lst xs)/\H b=some (.lst zs)/\xs.length+zs.length<=sizeLine/\Q .non (upd H l (.lst (xs++zs)))
theorem Qe:wZ X "list.extend" Rc:=by
 intro pins s σ H x vs v us Q I rx rv h;obtain ⟨l,b,xs,zs,rfl,rfl,hH,hB,hz,q⟩:=h
 cases rx
 obtain ⟨u,rfl,ru⟩:=rv.one
 cases ru
 obtain ⟨z,its,n,r,hl,e⟩:=I.iK hH;obtain ⟨z2,its2,n2,r2,hl2,e2⟩:=I.iK hB;have hsz:its.toArray.size+its2.toArray.size<=sizeLine:=by rw [List.size_toArray,List.size_toArray];omega
 have Em:¬ (!its.toArray.isEmpty&&Builtin.List.listTooLong (its.toArray.size+its2.toArray.size))=true:=by
  rw [Rb hsz,Bool.and_false];exact Bool.false_ne_true
 refine call_meets F.slot_list_extend ⟨_,e,rfl⟩ F.entry_list_extend (F.args_list_extend_2 _ _)
  (AutoSeq1.list_extend_list_list_0 l its.toArray n b its2.toArray n2 Em (by rw [List.size_toArray];omega) (by omega)) ⟨e,e2,?_⟩
 refine ⟨.non,_,I.rE (its':=its++its2) hH e (by simp) (r.append r2) ?_,rfl,q⟩;rw [List.length_append];omega
def Gz:V->List V->Hp->VK->Prop:=fun x vs H Q=>∃ l xs i k y,x = .ref l/\vs=[.int i]/\H l=some (.lst xs) /\ -(2^63)<=i/\i<2^63/\seqIndex? i xs.length=some k/\xs[k]?=some y/\Q y (upd H l (.lst (xs.eraseIdx k)))
theorem Vk:wZ X "list.pop" Gz:=by
 intro pins s σ H x vs v us Q I rx rv h;obtain ⟨l,xs,i,k,y,rfl,rfl,hH,h1,h2,hk,hy,q⟩:=h
 cases rx
 obtain ⟨u,rfl,ru⟩:=rv.one;obtain ⟨t,rfl⟩:=ru;obtain ⟨z,its,n,r,hl,e⟩:=I.iK hH;obtain ⟨w,hw,iZ⟩:=r.get hy;refine call_meets F.slot_list_pop ⟨_,e,rfl⟩ F.entry_list_pop (F.args_list_pop_2 _ _)
  (MeetsSeq.list_pop_at l its.toArray n i t k w (fitsIndex_both h1 h2) (by rw [List.size_toArray,<- hl];exact hk) (by rw [<- Array.getElem?_toList];exact hw) (by rw [List.size_toArray];omega)) ⟨e,?_⟩
 refine ⟨y,_,I.rE (its':=its.eraseIdx k) hH e ?_ (r.eraseIdx k) ?_,iZ,q⟩
 ·show its.toArray.eraseIdxIfInBounds k=(its.eraseIdx k).toArray
  rw [List.eraseIdxIfInBounds_toArray]
 ·have:=Qd xs k
  omega
def QR:V->List V->Hp->VK->Prop:=fun x vs H Q=>∃ l xs,x = .ref l/\vs=[]/\H l=some (.lst xs)/\Q .non (upd H l (.lst xs.reverse))
inductive Ms (H:Hp) (l b:Addr) (Q:List V->List V->Prop):Prop
 | mk (xs:List V) (h:H l=some (.lst xs)) (zs:List V) (h':H b=some (.lst zs)) (hz:xs.length+zs.length<=sizeLine) (q:Q xs zs)
def rF:R2:=fun x y H Q=>kR x fun l=>kR y fun b=>Ms H l b fun xs zs=>∀ p,H p=none->Q (.ref p) (upd H p (.lst (xs++zs)))
theorem XC:bI X (binaryOp .Add) rF:=by
 intro pins s σ H x y v u Q I rx ry h;obtain ⟨l,rfl,h1⟩:=WR.mp h;obtain ⟨b,rfl,xs,hH,zs,hB,hz,q⟩:=WR.mp h1
 cases rx
 cases ry
 obtain ⟨z,its,n,r,hl,e⟩:=I.iK hH;obtain ⟨z2,its2,n2,r2,hl2,e2⟩:=I.iK hB;refine PySem.P.add_list e e2 ?_ (by rw [List.size_toArray,List.size_toArray];omega);have ea:its.toArray++its2.toArray=(its++its2).toArray:=by simp
 rw [ea];exact ⟨.ref _,_,I.xg (t':=s.toks) (r.append r2) (by rw [List.length_append];omega),rfl,q _ I.fresh⟩
end
end L2
namespace GC
open PySem PySem.W PySem.Calls PyProof.Rows
theorem Us {P:Params} {h:Heap}:∀ (ns:List Int) (vs:List Value),WellAll P h vs (ns.map WData.int)->IntsAre vs ns:=by
 intro ns
 induction ns with
 | nil =>
  intro vs w;rw [List.map_nil] at w
  cases w
  exact .nil
 | cons n ns ih =>
  intro vs w;rw [List.map_cons] at w
  cases w with
  | cons a b =>
   cases a
   exact .cons _ _ (ih _ b)
theorem Rf {l:OpenLaw} {n:Nat} (hn:l.most=some n) {P:Params} {h:Heap} {args:List WData} {vals:List Value}
  (hpre:l.row.toRowW.claim.pre args=true) (hwl:WellAll P h vals args) :
  ∃ a vs ns,vals=[Value.ref a]/\args=[WData.list (ns.map WData.int)]/\h.get? a=some { cls := .type "list",data := .seq vs.toArray }/\IntsAre vs ns/\ns.length<=n:=by
 have hsh:WShape.hasAll [] args [.list .int]=true:=(pre_splitW hpre).1;have hc:l.pre.holds [] { args:=args }=true:=(pre_splitW hpre).2;obtain ⟨d,r,rfl,h1,h2⟩:=hasAllW_cons hsh;obtain rfl:=hasAllW_nil h2;obtain ⟨xs,rfl,h3⟩:=hasW_list h1;obtain ⟨ns,rfl⟩:=items_int h3;have hlen:ns.length<=n:=by
  unfold OpenLaw.pre at hc;have h4:(WTm.not (.lt (.lit (.int (n:Int))) (.len (.arg 0)))).holds [] { args:=[.list (ns.map .int)] }=true:=by
   have h4:=(holds_andW hc).1;rw [hn] at h4
   exact h4
  have h5:=condW_of h4 (w_not (w_lt w_lit (w_len_list (w_arg rfl))));rw [List.length_map] at h5
  refine Nat.le_of_not_lt fun q=>?_
  have q':(n:Int)<((ns.length:Nat):Int):=by omega
  first
   | (rw [decide_eq_true q'] at h5;exact absurd h5 (by decide))
   | (simp at h5;omega)
 cases hwl with
 | cons w1 w2 =>
  cases w2
  cases w1 with
  | list ho hall=>exact ⟨_,_,ns,rfl,rfl,ho,Us ns _ hall,hlen⟩
theorem Rg (l:OpenLaw) (args:List WData):l.row.toRowW.claim.post args (.bool true) args=true :=
 postW_of (r:=l.row.toRowW) (X:=(true==true))
  (show WShape.has [] (.bool true) .bool=true by first | rfl | decide | simp [WShape.has,WShape.arms,WShape.armsAll])
  (show (WTm.eq .res (.lit (.bool true))).value [] { args:=args,res:=some (.bool true),after:=args }=some (.bool (true==true)) from w_eq_bool (w_res rfl) w_lit) rfl
theorem lG {l:OpenLaw} {n:Nat} {q:Program} {loose:List Str} {XP:(Str->Option Value)->Heap->Prop} {YP:World->Heap->Prop} {d:DefRec}
  (hn:l.most=some n) (hdf:d.params.defaults=[])
  (call:∀ (w:World) (s₀ s₁:Shared) (mg mb:Str->Option Value) (fa:Addr) (o:Obj) (pm cd doc:Value) (a:Addr) (vs:List Value) (ns:List Int),
   Ground q loose [] XP w s₀ mg mb s₁.heap->YP w s₁.heap ->
   s₁.heap.get? fa=some o->o.data = .func (docDef d.name d.params d.body d.scope pm cd doc)->s₁.heap.CodeRec cd d.name->mg d.name=some (.ref fa) ->
   s₁.heap.get? a=some { cls := .type "list",data := .seq vs.toArray }->IntsAre vs ns->ns.length<=n->s₁.gens=#[] ->
   codeAny (model l.prog w) callerA (.call (.ref fa) ⟨[.ref a],[]⟩) (fun r s'=>r = .ok (.ret (.bool true))/\OldK s₁.heap s'.heap/\s'.os=s₁.os/\AllBare s'.gens) s₁) :
  WalkO q loose XP YP l.row.toRowW d [] (fun f vs=>PySem.call f vs):=by
 intro w s₀ s₁ mg mb G Y fa o pm cd doc dV kV ho hd hcd hD hmg hg args vals as hpre hlay hrd hwl hlo;obtain rfl:dV = .none:=Dflts.none hD hdf;obtain rfl:kV = .none:=Dflts.noKw hD;obtain ⟨a,vs,ns,rfl,rfl,hobj,hints,hlen⟩:=Rf hn hpre hwl;refine enter_call (codeAny_mono (call w s₀ s₁ mg mb fa o pm cd doc a vs ns G Y ho (fd_plain hd) hcd hmg hobj hints hlen hg) fun r s' hq=>?_);obtain ⟨rfl,h2,h3,h4⟩:=hq;exact ⟨.inl ⟨.bool true,.bool true,[],rfl,fun _=>rfl,.bool true,Rg l _,fun _=>⟨List.Pairwise.nil,fun _ hm=>(nomatch hm)⟩⟩,h2,h3,h4⟩
section
variable {prog:Program} {w:World} {A:Around} {E:Value->Shared->Prop} {s:Shared} {K:Frag}
def ledger (h:Heap) (L d:Addr):List (Addr×Obj):=(List.range h.objs.size).filterMap fun a=>if a=L\/a=d then none else (h.get? a).map fun o=>(a,o)
end
end GC
namespace L2
open PySem PySem.Spec PyProof.Rows
theorem Qf:∀ {vs:List Value} {ns:List Int},IntsAre vs ns->Yw (ns.map V.int) vs
 | _,_,.nil => .nil
 | _,_,.cons n t h => .cons ⟨t,rfl⟩ (Qf h)
def Xc (s:Stmt) (j:Nat):Stmt:=match s with
 | .ClassDef _ _ _ body _ _ _ _ _ _ _=>body.getD j (.Pass ⟨0,0,0,0⟩)
 | _ => .Pass ⟨0,0,0,0⟩
def Xf (s:Stmt):Arguments:=match s with
 | .FunctionDef _ a _ _ _ _ _ _ _ _=>a
 | _=>{ posonlyargs:=[],args:=[],vararg:=none,kwonlyargs:=[],kw_defaults:=[],kwarg:=none,defaults:=[] }
def YY (s:Stmt):List Stmt:=match s with
 | .FunctionDef _ _ b _ _ _ _ _ _ _=>b
 | _=>[]
def Yi (s:Stmt):Scope:=match s with
 | .FunctionDef _ _ _ _ _ _ sc _ _ _=>sc
 | _=>{ kind := .function,names:=[],isGenerator:=false,isCoroutine:=false }
abbrev cB:dH:=fun _ _ _ _ _ _=>False
abbrev E0:XK:=fun _ _ _=>False
theorem WI {X:Cx}:X3 cB X E0:=fun _ _ _ _ _ _ _ h=>h.elim
structure eF (K:W.Frag) (x qual:Str) (st:Stmt) (f:Addr) (fd:FuncData):Prop where
 ex:∃ (oc:Value) (od:Option Addr) (kV doc pm:Value) (an:Option Addr) (cdv ct:Value) (osl:Array (Option Value)),
  fd=W.fnOf x qual (Xf st) (YY st) (Yi st) .none kV doc pm an cdv ct/\K.lookup f=some ⟨oc,od,.func fd,osl⟩/\W.codeIn K cdv qual=true
 kp:W.keepIn K (.ref f)=true
section
variable {P:Program} {w:World} {K:W.Frag} {mg:Str->Option Value} {base:Heap}
theorem eF.ok {x qual:Str} {st:Stmt} {f:Addr} {fd:FuncData} {N ps:List Str} {k:Nat} {sp:Sp} (F:eF K x qual st f fd) (S:aH N ps (Yi st)) (len:∀ vs H Q E,sp vs H Q E->vs.length=ps.length)
  (hbody:∀ (cdv:Value) (A:Around) (outer:List Env) (s:Shared) (H:Hp) (vs:List V) (Q:VK) (E:XK),aP k (A.deeper (envOfC qual (Yi st) s.heap.objs.size f cdv))->sp vs H Q E ->
   ∃ t,cM (WE cB P w K mg base N qual (Yi st) f cdv A outer s H E).cN (YY st) t/\t { nx:=fun _ H'=>Q .non H',rt:=Q } (XA N vs) H):aY P w K mg base cB (k+1) f fd ps sp:=by
 obtain ⟨oc,od,kV,doc,pm,an,cdv,ct,osl,rfl,lk,hcd⟩:=F.ex;refine wQ lk hcd S len fun A outer s H vs Q E hr hsp=>?_
 obtain ⟨t,h,q⟩:=hbody cdv A outer s H vs Q E hr hsp;exact ⟨t,h.cN,q⟩
theorem eF.binds {x qual:Str} {st:Stmt} {f:Addr} {fd:FuncData} {ps:List Str} (F:eF K x qual st f fd)
  (h:∀ (kV doc pm:Value) (an:Option Addr) (cdv ct:Value) (us:List Value),us.length=ps.length->bindArgs (PySem.W.fnOf x qual (Xf st) (YY st) (Yi st) .none kV doc pm an cdv ct) ⟨us,[]⟩=pure (ps.zip us)):Xn K fd ps []:=by
 obtain ⟨oc,od,kV,doc,pm,an,cdv,ct,osl,rfl,lk,hcd⟩:=F.ex;exact .all (h kV doc pm an cdv ct)
theorem Vb {x qual:Str} {st:Stmt} {f:Addr} {oc:Value} {od an:Option Addr} {osl:Array (Option Value)} {kV doc pm cdv ct:Value} (l:K.lookup f=some ⟨oc,od,.func (W.fnOf x qual (Xf st) (YY st) (Yi st) .none kV doc pm an cdv ct),osl⟩)
  (c:W.codeIn K cdv qual=true) (k:W.keepIn K (.ref f)=true):eF K x qual st f (W.fnOf x qual (Xf st) (YY st) (Yi st) .none kV doc pm an cdv ct):=⟨⟨oc,od,kV,doc,pm,an,cdv,ct,osl,rfl,l,c⟩,k⟩
end
section
variable {X:Cx}
theorem pv (i:Nat) {x:Str} {pos:Pos} (hN:X.N[i]?=some x:=by rfl) (hv:lU X.env.scope x:=by first | exact .inl rfl | exact .inr (.inl rfl) | exact .inr (.inr rfl)) (hd:(x==("__debug__":Str))=false:=by decide)
  (hcd:(x==("__classdict__":Str))=false:=by decide):PE X (.Name x pos) (UI i):=Uj hN hv hd hcd
end
theorem Mt {A B:Prop} (h:B):if false=true then A else B:=by
 rw [if_neg Bool.false_ne_true];exact h
theorem tE {A B:Prop} (h:A):if true=true then A else B:=by
 rw [if_pos rfl];exact h
theorem Mu {c A B:Prop} [Decidable c] (h1:c->A) (h2:¬ c->B):if c then A else B:=by
 by_cases h:c
 ·rw [if_pos h]
  exact h1 h
 ·rw [if_neg h]
  exact h2 h
def Yf (H H':Hp):Prop:=∀ b o,H b=some o->H' b=some o
theorem Yf.refl (H:Hp):Yf H H:=fun _ _ h=>h
theorem Yf.trans {H H1 H2:Hp} (a:Yf H H1) (b:Yf H1 H2):Yf H H2:=fun c o h=>b c o (a c o h)
theorem Yf.free {H H':Hp} (e:Yf H H') {l:Addr} (h:H' l=Option.none):H l=Option.none:=by
 cases q:H l with
 | none=>rfl
 | some o =>
  rw [e l o q] at h
  cases h
theorem Yf.seq {K:W.Frag} {H H':Hp} {a:Addr} {xs:List V} (e:Yf H H') (h:aG K H a xs):aG K H' a xs:=by
 rcases h with (h | ⟨o,h⟩) | h
 ·exact .inl (.inl (e _ _ h))
 ·exact .inl (.inr ⟨o,e _ _ h⟩)
 ·exact .inr h
section
variable {κ:Type} [DecidableEq κ]
def xq (kvs:List (κ×V)) (k:κ):Option V:=(kvs.find? fun kv=>decide (kv.1=k)).map (·.2)
def putK (kvs:List (κ×V)) (k:κ) (v:V):List (κ×V) :=
 if (kvs.any fun kv=>decide (kv.1=k))=true then kvs.map (fun kv=>if kv.1=k then (kv.1,v) else kv) else kvs++[(k,v)]
end
theorem GD {P:Program} {w:World} {k:Key} {u:Value} (r:YF (kV k) u):(XY P w).is k u=true:=by
 cases k with
 | inl i=>obtain ⟨t,e⟩:=(show ∃ t,u=Value.int i t from r);subst e;exact NQ P w i t
 | inr x=>obtain ⟨t,e⟩:=(show ∃ t,u=Value.str x t from r);subst e;exact NT P w x t
def rG (H:Hp) (a:Addr) (y:V) (r:Option V):Prop :=
 (∃ kvs k,Rd H a (.dK kvs)/\y=kV k/\r=xq kvs k)\/∃ kvs k b,Rd H a (.dT kvs)/\y = .ref b/\H b=some (.tup (k.map kV))/\r=xq kvs k
def Mv (H:Hp) (a:Addr) (y v:V) (H':Hp):Prop :=
 (∃ kvs k,H a=some (.dK kvs)/\y=kV k/\kvs.length<sizeLine/\H'=upd H a (.dK (putK kvs k v))) \/
 ∃ kvs k b,H a=some (.dT kvs)/\y = .ref b/\H b=some (.tup (k.map kV))/\kvs.length<sizeLine/\H'=upd H a (.dT (putK kvs k v))
section
variable {X:Cx} {pins:List (Addr×Obj)} {σ:St} {H:Hp} {s:Shared} {a:Addr} {y v:V} {u r:Value} {o:Option V} {A:Around} {E:Value->Shared->Prop}
theorem Inv.big (I:Inv X pins σ H s):sysModules<s.heap.objs.size:=by
 have h:mainGlobals<s.heap.objs.size:=(I.mod.glob.keeps I.bk).lt;exact Nat.lt_trans (by decide) h
theorem Rh {h':Heap} {t':Nat} {ob:HO} (I:Inv X pins σ H s) (mu:oG (H a)) (hs:Heap.SameBut a s.heap h') (he:∃ q,h'.get? a=some q) (new:YZ X.prog X.w (upd H a ob) h' a ob) :
  Inv X pins σ (upd H a ob) { s with heap:=h',toks:=t' } :=
 I.write (x:=a) (e:=a) mu (.inl rfl) (fun b q hb z=>(hs.2 b hb).trans z) he new
end
def xr (i:Expr):Prop:=∀ ov iv,subscripted i false ov iv=operate [ov,iv] (getItem ov iv)
theorem Ri {prog:Program} {w:World} {A:Around} {E:Value->Shared->Prop} {s:Shared} {env:Env} {value slice:Expr} {pos:Pos} {T id:String} {Q:Value->Shared->Prop}
  (hl:typeLookup (.type T) "__getitem__"=pure (some (.builtin id))) (hs:xr slice)
  (h:wpAny (model prog w) A (eval value env) (fun o s₁=>wpAny (model prog w) A (eval slice env) (fun i s₂=>s₂.TypeIs o T/\wpAny (model prog w) A (getItem o i) Q E s₂) E s₁) E s) :
  wpAny (model prog w) A (eval (.Subscript value slice pos) env) Q E s:=by
 refine Subscript_ (wpAny_mono h (fun o s₁ h₁=>wpAny_mono h₁ (fun i s₂ h₂=>?_) fun _ _ x=>x) fun _ _ x=>x);obtain ⟨hT,h₂⟩:=h₂;unfold subscriptTail;refine wpAny_bind ?_;rw [getitemInPython_of_ne hT.not_modules];refine wpAny_bind (wpAny_specialOf hT hl ?_);have fin:wpAny (model prog w) A (subscripted slice false o i) (fun r s₃=>wpAny (model prog w) A (letTemporaryGo value o r >>= fun _=>pure r) Q E s₃) E s₂:=by
  rw [hs o i];exact wpAny_operating (wpAny_mono h₂ (fun r s₃ h₃=>wpAny_bind (wpAny_letTemporaryGo (wpAny_pure h₃))) fun _ _ x=>x)
 first
  | exact wpAny_pure (wpAny_bind fin)
  | exact wpAny_bind (wpAny_pure (wpAny_bind fin))
  | exact wpAny_bind fin
def GF (td ty:TE):TE:=fun σ H Q=>td σ H fun x H1=>ty σ H1 fun y H2=>∃ a v,x = .ref a/\rG H2 a y (some v)/\Q v H2
def GJ (td ty tv:TE):TS:=fun D σ H=>tv σ H fun v H1=>td σ H1 fun x H2=>ty σ H2 fun y H3=>∃ a H4,x = .ref a/\Mv H3 a y v H4/\D.nx σ H4
def GK:TE:=fun _ H Q=>∀ p,H p=none->Q (.ref p) (upd H p (.dT []))
theorem WT (env:Env):∀ (names:List (Str×NameKind)) (cs:List (Str×Addr)),(∀ x,(x,NameKind.free)∈names->∃ c,env.cells.lookup x=some c) ->
  ∃ cl,(forIn names cs fun (p:Str×NameKind) (cs:List (Str×Addr))=>(if (p.2==NameKind.free)=true then (do let c <- cellOf env p.1;pure (ForInStep.yield ((p.1,c)::cs))) else pure (ForInStep.yield cs):Sem (ForInStep (List (Str×Addr)))))=pure cl /\
   (∀ x c,cl.lookup x=some c->env.cells.lookup x=some c\/cs.lookup x=some c)/\(∀ x,(x,NameKind.free)∈names->∃ c,cl.lookup x=some c)/\(∀ x c,cs.lookup x=some c->∃ d,cl.lookup x=some d)
 | [],cs,_=>⟨cs,by simp,fun _ _ h => .inr h,(fun _ h=>nomatch h),fun x c h=>⟨c,h⟩⟩
 | (n,k)::r,cs,h=>by
  by_cases hk:k=NameKind.free
  ·subst hk
   obtain ⟨c,hc⟩:=h n (List.mem_cons_self ..);obtain ⟨cl,e,a,b,d⟩:=WT env r ((n,c)::cs) (fun x hx=>h x (List.mem_cons_of_mem _ hx));have hcell:cellOf env n=pure c:=by unfold cellOf;rw [hc]
   refine ⟨cl,?_,fun x c' hx=>?_,fun x hx=>?_,fun x c' hx=>?_⟩
   ·rw [List.forIn_cons]
    simp only [beq_self_eq_true,if_true,hcell,pure_bind];exact e
   ·rcases a x c' hx with q | q
    ·exact .inl q
    ·rw [List.lookup_cons] at q
     by_cases hxn:(x==n)=true
     ·rw [hxn] at q
      have hx':x=n:=by simpa using hxn
      subst hx';have:c=c':=by simpa using q
      subst this;exact .inl hc
     ·rw [Bool.eq_false_iff.mpr hxn] at q
      exact .inr q
   ·rcases List.mem_cons.mp hx with q | q
    ·have hx':x=n:=congrArg Prod.fst q
     subst hx';exact d x c (by rw [List.lookup_cons];simp)
    ·exact b x q
   ·have:∃ d',((n,c)::cs).lookup x=some d':=by
     rw [List.lookup_cons];by_cases hxn:(x==n)=true
     ·rw [hxn];exact ⟨c,rfl⟩
     ·rw [Bool.eq_false_iff.mpr hxn];exact ⟨c',hx⟩
    obtain ⟨d',hd'⟩:=this;exact d x d' hd'
  ·obtain ⟨cl,e,a,b,d⟩:=WT env r cs (fun x hx=>h x (List.mem_cons_of_mem _ hx))
   have hkf:(k==NameKind.free)=false:=by simpa using hk
   refine ⟨cl,?_,a,fun x hx=>?_,d⟩
   ·rw [List.forIn_cons]
    simp only [hkf,Bool.false_eq_true,if_false,pure_bind];exact e
   ·rcases List.mem_cons.mp hx with q | q
    ·exact absurd (congrArg Prod.snd q).symm hk
    ·exact b x q
theorem Ut (env:Env) (scope:Scope) (h:∀ x,(x,NameKind.free)∈scope.names->∃ c,env.cells.lookup x=some c) :
  ∃ cl,closureFor scope env=pure cl/\(∀ x c,cl.lookup x=some c->env.cells.lookup x=some c)/\(∀ x,(x,NameKind.free)∈scope.names->∃ c,cl.lookup x=some c):=by
 obtain ⟨cl,e,a,b,_⟩:=WT env scope.names [] h;refine ⟨cl,?_,fun x c hx=>(a x c hx).elim id (fun z=>by simp at z),b⟩;unfold closureFor;simp only [bind_pure];exact e
def cH (X:Cx) (scope:Scope) (N':List Str) (cl:List (Str×Addr)) (C:Addr) (s₀:Shared) (H₀:Hp) (fp:List Addr) (pn:List (Addr×Obj)):Cx :=
 { X with N:=N',s₀:=s₀,H₀:=H₀,env:=compEnvC scope cl C X.env,outer:=X.stack,ex:=fp,fn:=fun _=>false,pn:=pn,xe:=fun _ _=>False }
inductive eG (X:Cx) (scope:Scope):List (Option Nat)->List Str->Prop
 | nil:eG X scope [] []
 | own {x src N'}:eG X scope src N'->eG X scope (none::src) (x::N')
 | cap {x i src N'}:X.N[i]?=some x->scope.names.lookup x=some NameKind.free->(X.env.scope.names.lookup x=some NameKind.cell\/X.env.scope.names.lookup x=some NameKind.free)->eG X scope src N'->eG X scope (some i::src) (x::N')
def YN (src:List (Option Nat)) (σ:St):St:=src.map fun o=>match o with | none=>none | some i=>σ.getD i none
theorem eG.length {X:Cx} {scope:Scope}:∀ {src:List (Option Nat)} {N':List Str},eG X scope src N'->src.length=N'.length
 | _,_,.nil=>rfl
 | _,_,.own h=>congrArg (·+1) h.length
 | _,_,.cap _ _ _ h=>congrArg (·+1) h.length
theorem eG.get {X:Cx} {scope:Scope} {σ:St}:∀ {src:List (Option Nat)} {N':List Str},eG X scope src N'->∀ (j:Nat) (x:Str) (v:V),N'[j]?=some x->(YN src σ)[j]?=some (some v) ->
  ∃ i:Nat,X.N[i]?=some x/\σ[i]?=some (some v)/\scope.names.lookup x=some NameKind.free/\(X.env.scope.names.lookup x=some NameKind.cell\/X.env.scope.names.lookup x=some NameKind.free)
 | _,_,.nil,j,x,v,h,_=>by simp at h
 | _,_,.own h,0,x,v,_,e=>by simp [YN] at e
 | _,_,.own h,j+1,x,v,e1,e2=>h.get j x v (by simpa using e1) (by simpa [YN] using e2)
 | _,_,.cap (x:=y) (i:=i) hN hf hk h,0,x,v,e1,e2=>by
  have ex:y=x:=by simpa using e1
  subst ex;refine ⟨i,hN,?_,hf,hk⟩;simp only [YN,List.map_cons,List.getElem?_cons_zero,Option.some.injEq] at e2;rw [List.getD_eq_getElem?_getD] at e2
  cases q:σ[i]? with
  | none=>rw [q] at e2;simp at e2
  | some o=>rw [q] at e2;simp at e2;rw [e2]
 | _,_,.cap hN hf hk h,j+1,x,v,e1,e2=>h.get j x v (by simpa using e1) (by simpa [YN] using e2)
theorem Vc (env:Env) (x:Str):∀ {names:List (Str×NameKind)},
  (names.map fun (n,k)=>if (k==NameKind.free&&env.scope.kind == .function&&env.kindOf n==some .cell) then (n,NameKind.cell) else (n,k)).lookup x =
   (names.lookup x).map fun k=>if (k==NameKind.free&&env.scope.kind == .function&&env.kindOf x==some .cell) then NameKind.cell else k
 | []=>rfl
 | (n,k)::r=>by
  have ih:=@Vc env x r;rw [List.map_cons];dsimp only;by_cases hx:(x==n)=true
  ·have e:x=n:=by simpa using hx
   subst e;by_cases hc:(k==NameKind.free&&env.scope.kind == .function&&env.kindOf x==some .cell)=true
   ·rw [if_pos hc,List.lookup_cons,List.lookup_cons,hx]
    simp only [Option.map_some];rw [if_pos hc]
   ·rw [if_neg hc,List.lookup_cons,List.lookup_cons,hx]
    simp only [Option.map_some];rw [if_neg hc]
  ·have hx':=Bool.eq_false_iff.mpr hx
   by_cases hc:(k==NameKind.free&&env.scope.kind == .function&&env.kindOf n==some .cell)=true
   ·rw [if_pos hc];simp only [List.lookup_cons,hx'];exact ih
   ·rw [if_neg hc];simp only [List.lookup_cons,hx'];exact ih
theorem W0 {names:List (Str×NameKind)} {x:Str} (h:names.lookup x=some NameKind.free):(x,NameKind.free)∈names:=PySem.mem_of_lookup h
section
variable {X:Cx}
theorem Rj {scope:Scope} {N':List Str} {src:List (Option Nat)} {cl:List (Str×Addr)} {pins:List (Addr×Obj)} {σ:St} {H:Hp} {s s':Shared} {h':Heap} {tk:Nat} {fp:List Addr} {m:Str->Option Value}
  (hk:scope.kind = .function) (hcell:∀ y∈scope.names,y.2 ≠ .cell) (hcap:eG X scope src N')
  (a:∀ x c,cl.lookup x=some c->X.env.cells.lookup x=some c) (b:∀ x,(x,NameKind.free)∈scope.names->∃ c,cl.lookup x=some c)
  (I:Inv X pins σ H s) (hf:∀ b∈fp,Wm X pins H b) (hfl:∀ b∈fp,b<s.heap.objs.size) (es':s'={ s with heap:=h',toks:=tk })
  (keep:∀ b o,s.heap.get? b=some o->h'.get? b=some o) (hn:h'.Ns s.heap.objs.size m) :
  Inv (cH X scope N' cl s.heap.objs.size s H fp (X.pn++pins)) [] (YN src σ) H s':=by
 subst es';have kindOf:∀ x,(compEnvC scope cl s.heap.objs.size X.env).kindOf x=(scope.names.lookup x).map fun k=>if (k==NameKind.free&&X.env.scope.kind == .function&&X.env.kindOf x==some .cell) then NameKind.cell else k:=fun x=>Vc X.env x
 have freeOf:∀ x,((compEnvC scope cl s.heap.objs.size X.env).kindOf x=some .cell\/(compEnvC scope cl s.heap.objs.size X.env).kindOf x=some .free)->scope.names.lookup x=some .free:=fun x h=>by
  rw [kindOf] at h
  cases q:scope.names.lookup x with
  | none=>rw [q] at h;simp at h
  | some k =>
   rw [q] at h
   by_cases hkf:k=NameKind.free
   ·rw [hkf]
   ·have Mw:(k==NameKind.free)=false:=by simpa using hkf
    simp only [Option.map_some,Mw,Bool.false_and,Bool.false_eq_true,if_false] at h;rcases h with h | h
    ·exact absurd (Option.some.inj h) (hcell _ (PySem.mem_of_lookup q))
    ·exact absurd (Option.some.inj h) hkf
 refine ⟨⟨I.ok.mod,hk,I.ok.glob,I.ok.blt,Nat.le_refl _,fun x y c h1 h2=>I.ok.inj x y c (a x c h1) (a y c h2),fun x hx=>b x (W0 (freeOf x hx)),(fun x c z _=>nomatch z),I.ok.hd,I.ok.frames,.inl rfl,fun b' hb=>?_,I.bs,Nat.le_trans I.ok.dO I.sz,fun b' o e hb=>?_,fun b' hb z=>?_,I.stack,I.fU⟩,
  rfl,I.bare,Un.kept keep,⟨m,hn,fun j x v h1 h2 h3=>?_⟩,fun x c h=>?_,I.hok.fresh (Nat.le_refl _),fun x c h=>I.aV x c (a x c h),fun p hp=>?_,I.hok.kept keep,?_⟩
 ·obtain ⟨f0,f1,f2,f3,f4,f5⟩:=hf b' hb
  exact ⟨Nat.ne_of_lt (hfl b' hb),fun x c h=>f4 x c (a x c h)⟩
 ·obtain ⟨f0,f1,f2,f3,f4,f5⟩:=hf b' hb
  rcases f3 with z | z
  ·exact I.ok.gF b' o e z
  ·exact absurd (Nat.lt_of_lt_of_le (Heap.lt_size e) (Nat.le_trans I.ok.dO z)) (Nat.lt_irrefl _)
 ·obtain ⟨f0,f1,f2,f3,f4,f5⟩:=hf b' hb
  rcases List.mem_cons.mp (I.fJ b' z) with e | e
  ·exact f1 e
  ·exact f2 e
 ·obtain ⟨i,e1,e2,e3,e4⟩:=hcap.get j x v h1 h2
  obtain ⟨m0,hn0,hl⟩:=I.loc;obtain ⟨u,r,l⟩:=hl i x v e1 e2 (by rcases e4 with e4 | e4;exact .inr (.inl e4);exact .inr (.inr e4));refine ⟨u,r,?_⟩;rcases l with ⟨l,_⟩ | ⟨k,c,e,z⟩
  ·have l':X.env.scope.names.lookup x=some NameKind.local:=l
   rcases e4 with e4 | e4<;>(rw [e4] at l';cases l')
  ·refine .inr ⟨?_,?_⟩
   ·show (compEnvC scope cl s.heap.objs.size X.env).kindOf x=some .cell\/(compEnvC scope cl s.heap.objs.size X.env).kindOf x=some .free
    rw [kindOf,e3];simp only [Option.map_some]
    split
    ·exact .inl rfl
    ·exact .inr rfl
   ·obtain ⟨c',hc'⟩:=b x (W0 e3)
    have:=a x c' hc';rw [e] at this
    cases this
    obtain ⟨o,ho,hd⟩:=z;exact ⟨c,hc',o,keep _ _ ho,hd⟩
 ·obtain ⟨v,o,ho,hd⟩:=I.cell x c (a x c h)
  exact ⟨v,o,keep _ _ ho,hd⟩
 ·have hp':p∈X.pn++pins:=by simpa [cH] using hp
  obtain ⟨e,n,ne,nf,d⟩:=I.pin p hp';refine ⟨keep _ _ e,n,Nat.ne_of_lt (Heap.lt_size e),fun z=>?_,d⟩;rcases List.mem_cons.mp (I.fJ p.1 z) with q | q
  ·exact ne q
  ·exact nf q
 ·show (YN src σ).length=N'.length
  rw [<- hcap.length];simp [YN]
end
section
variable {prog:Program} {w:World} {A:Around} {R:Result->Shared->Prop} {s:Shared}
theorem Rk {elt tg iter:Expr} {ifs:List Expr} {scope:Scope} {pos:Pos} {it acc:Value} {env:Env} (J:Nat->Shared->Prop)
  (turn:∀ n s,J n s->wpAny (model prog w) A (pyNext it) (fun r s₁=>match r with
    | none=>R (.ok .next) s₁
    | some v=>wpAny (model prog w) A (letOwnedTupleGo tg it v) (fun _ z₁=>wpAny (model prog w) A (assign tg env v) (fun _ s₂ =>
      wpAny (model prog w) A (forIn ifs true fun c r=>if r=true then do let ok <- isTrue c env (eval c env);pure (ForInStep.yield ok) else pure (ForInStep.yield r))
       (fun ok s₃=>if ok=true then wpAny (model prog w) A (eval elt env) (fun x s₄=>wpAny (model prog w) A (call (.builtin "list.append") [acc,x]) (fun _ s₅=>∃ m,m<n/\J m s₅) (fun _ _=>False) s₄) (notedBy (model prog w) A env fun e s'=>R (.error e) s') s₃
        else ∃ m,m<n/\J m s₃) (fun _ _=>False) s₂) (fun _ _=>False) z₁) (fun _ _=>False) s₁) (fun _ _=>False) s)
  (n:Nat) (h:J n s):codeAny (model prog w) A (.compLoop (.ListComp elt [⟨tg,iter,ifs,0⟩] scope pos) 0 it acc env) R s:=by
 refine codeAny_loop rfl J (fun n s hJ=>?_) n h
 show wpAny _ A (Sem.onRaise (compTurn (.ListComp elt [⟨tg,iter,ifs,0⟩] scope pos) 0 it acc env) (fun x=>do noteFrame x env;theTreesLotGoes x)) _ _ s
 refine wpAny_noted ?_;rw [compTurn_list];have no:∀ {E:Value->Shared->Prop},∀ (e:Value) (s':Shared),False->E e s':=fun _ _ f=>f.elim
 refine wpAny_bind (wpAny_standAt (wpAny_bind (wpAny_mono (turn n s hJ) (fun r s₁ h₁=>?_) no)))
 cases r with
 | none=>exact wpAny_pure h₁
 | some v =>
  refine wpAny_bind (wpAny_mono h₁ (fun _ z₁ hz=>?_) no);refine wpAny_bind (wpAny_mono hz (fun _ s₂ h₂=>wpAny_bind (wpAny_mono h₂ (fun ok s₃ h₃=>?_) no)) no)
  cases ok with
  | false=>exact wpAny_pure ⟨rfl,h₃⟩
  | true =>
   exact wpAny_bind (wpAny_bind (wpAny_mono h₃ (fun x s₄ h₄=>wpAny_bind (wpAny_mono h₄ (fun _ s₅ h₅=>wpAny_pure (wpAny_pure ⟨rfl,h₅⟩)) no)) fun _ _ z=>z))
end
def oM (X:Cx) (ifs:List Expr) (t:TT):Prop :=
 ∀ (pins:List (Addr×Obj)) (s:Shared) (σ:St) (H:Hp) (Q:Bool->Hp->Prop),Inv X pins σ H s->t σ H Q ->
  wpAny (model X.prog X.w) X.A (forIn ifs true fun c r=>if r=true then do let ok <- isTrue c X.env (eval c X.env);pure (ForInStep.yield ok) else pure (ForInStep.yield r)) (TP X pins σ Q) X.xe s
def X9:TT:=fun _ H Q=>Q true H
theorem Xs {X:Cx}:oM X [] X9:=fun _ _ _ H _ I h=>wpAny_tests_nil ⟨H,I,h⟩
theorem Rn {X:Cx} {c:Expr} {t:TT} (h:PT X c t):oM X [c] t:=fun pins s σ H Q I q=>wpAny_tests_one (h pins s σ H Q I q)
def LC (src:List (Option Nat)) (J:It) (g:TG) (tt:TT) (te:TE) (σ:St) (H1:Hp) (Q:VK) (D:Addr):Prop:=∃ W:Nat->Nat->List V->St->Hp->Prop,(∃ m,W 0 m [] (YN src σ) (upd H1 D (.lst []))) /\
 ∀ i m ys σ' H2,W i m ys σ' H2->H2 D=some (.lst ys)/\((J.stop i H2/\Q (.ref D) H2)\/(J.go i H2/\∃ N:List V->St->Hp->Prop,(∀ ys' σ3 H3,N ys' σ3 H3->∃ m',m'<m/\W (i+1) m' ys' σ3 H3)/\∀ x H3,J.iV i H2 x H3->g x σ' H3 fun σ2 H4=>tt σ2 H4 fun b H5 =>
  if b=true then te σ2 H5 fun y H6=>H6 D=some (.lst ys)/\ys.length<sizeLine/\N (ys++[y]) σ2 (upd H6 D (.lst (ys++[y])))
  else N ys σ2 H5))
def fj (src:List (Option Nat)) (wi:TI) (g:TG) (tt:TT) (te:TE):TE:=fun σ H Q=>wi σ H fun J H1=>∀ D,H1 D=none->LC src J g tt te σ H1 Q D
section
variable {X:Cx}
theorem QS {elt tg iter:Expr} {ifs:List Expr} {scope:Scope} {pos:Pos} {src:List (Option Nat)} {N':List Str} {g:TG} {tt:TT} {te:TE} {cl:List (Str×Addr)} {pins:List (Addr×Obj)} {σ:St} {Q:VK} {itv:Value} {s2:Shared} {Po:Value->Addr->Result->Shared->Prop} {Z:Addr->Shared->Hp->List Addr->List (Addr×Obj)->Value->Shared->Prop}
  (hcap:eG X scope src N') (hc:X.calm=true) (hg:∀ C s₀ H₀ fp pn,PG (cH X scope N' cl C s₀ H₀ fp pn) tg g) (ht:∀ C s₀ H₀ fp pn,oM (cH X scope N' cl C s₀ H₀ fp pn) ifs tt)
  (he:∀ C s₀ H₀ fp pn,PE ((cH X scope N' cl C s₀ H₀ fp pn).wish (Z C s₀ H₀ fp pn)) elt te) (hk:scope.kind = .function) (hcell:∀ y∈scope.names,y.2 ≠ .cell) (a:∀ x c,cl.lookup x=some c->X.env.cells.lookup x=some c) (b:∀ x,(x,NameKind.free)∈scope.names->∃ c,cl.lookup x=some c)
  (h2:PIE X pins σ tg (fun J H1=>∀ D,H1 D=none->LC src J g tt te σ H1 Q D) itv s2)
  (done:∀ (D C:Addr) (s6:Shared) (H5:Hp),(∀ h',Heap.SameBut C s6.heap h'->Inv X pins σ H5 { s6 with heap:=h' })->(∃ m,s6.heap.Ns C m)->H5 C=none->(∀ {H':Hp},H' C=none->Wm X pins H' C)->Q (.ref D) H5->Po (.ref D) C (.ok .next) s6)
  (gone:∀ (D:Addr) (s3:Shared) (H3:Hp) (fp:List Addr),Inv X pins σ H3 s3->(∀ {H':Hp} {s':Shared} {σ':St} {eU:List (Addr×Obj)},Inv (cH X scope N' cl s3.heap.objs.size s3 H3 fp (X.pn++pins)) eU σ' H' s'->∀ h',Heap.SameBut s3.heap.objs.size s'.heap h'->Inv X pins σ H' { s' with heap:=h' }) ->
   ∀ e s',Z s3.heap.objs.size s3 H3 fp (X.pn++pins) e s'->notedBy (model X.prog X.w) X.A (compEnvC scope cl s3.heap.objs.size X.env) (fun e s'=>Po (.ref D) s3.heap.objs.size (.error e) s') e s') :
  wpAny (model X.prog X.w) X.A (newList []) (fun acc s₃=>wpAny (model X.prog X.w) X.A (newFunctionEnv scope X.env.globals cl [] X.env.qual none Value.none (some X.env)) (fun cenv s₄ =>
   codeAny (model X.prog X.w) X.A (.compStart (.ListComp elt [⟨tg,iter,ifs,0⟩] scope pos) 0 itv acc { cenv with scope:=relabel scope X.env }) (Po acc cenv.locals) s₄) X.xe s₃) X.xe s2:=by
 obtain ⟨it,fp,tn,J,H2,e,I2,T,st2,f2,q⟩:=h2;subst e;have hD:H2 s2.heap.objs.size=none:=I2.hok.fresh (Nat.le_refl _);obtain ⟨W,⟨m0,w0⟩,turn⟩:=q s2.heap.objs.size hD;have I3:=I2.xg (t':=s2.toks) (ys:=[]) (its:=[]) .nil (Nat.zero_le _);have Ro:∀ b∈fp,b<s2.heap.objs.size:=fun b hb=>by
  obtain ⟨o,e,_⟩:=T.obj _ _ st2 b hb;exact Heap.lt_size e
 refine wpAny_newObj_type ?_;generalize GP:({ s2 with heap:=s2.heap.push { cls := .type "list",dict:=none,data := .seq ([]:List Value).toArray } }:Shared)=s3;have oN:Inv X pins σ (upd H2 s2.heap.objs.size (.lst [])) s3:=GP▸I3
 have En:∀ b o,s2.heap.get? b=some o->s3.heap.get? b=some o:=fun b o e=>by rw [<- GP];exact Heap.get?_push_of_some _ e
 have st3:tn 0 s3.heap:=T.keep _ _ _ st2 fun b _ o e=>En b o e
 have GQ:∀ b∈fp,b<s3.heap.objs.size:=fun b hb=>by
  obtain ⟨o,e,_⟩:=T.obj _ _ st3 b hb;exact Heap.lt_size e
 have f3:∀ b∈fp,Wm X pins (upd H2 s2.heap.objs.size (.lst [])) b:=fun b hb=>⟨by rw [Yg (Nat.ne_of_lt (Ro b hb))];exact (f2 b hb).1,(f2 b hb).2⟩
 generalize eD:s2.heap.objs.size=D at *;generalize eH3:upd H2 D (.lst [])=H3 at *;refine wpAny_newFunctionEnv hcell (by intro y hy;simp at hy) (fun h₁ hns₁ hsb₁=>?_) hk;have ni:∀ b o,s3.heap.get? b=some o->h₁.get? b=some o:=fun b o e=>hsb₁.extBut b o (Nat.ne_of_lt (Heap.lt_size e)) (Heap.get?_push_of_some _ e)
 have I4:=Rj (N':=N') (src:=src) (tk:=s3.toks+([]:List (Str×Value)).length) hk hcell hcap a b oN f3 GQ rfl ni hns₁;have stat:∀ {H':Hp},(∀ b∈fp,H' b=none)->∀ b∈fp,Wm (cH X scope N' cl s3.heap.objs.size s3 H3 fp (X.pn++pins)) [] H' b:=fun hn b' hb=>by
  obtain ⟨f0,f1,fs,fe,f4,f5⟩:=f3 b' hb;refine ⟨hn b' hb,Nat.ne_of_lt (GQ b' hb),fun z=>?_,.inl hb,fun x c h=>f4 x c (a x c h),fun p hp=>f5 p (by simpa [cH] using hp)⟩;rcases List.mem_cons.mp (oN.fJ b' z) with e | e
  ·exact f1 e
  ·exact fs e
 have fin:∀ {H':Hp} {s':Shared} {σ':St} {eU:List (Addr×Obj)},Inv (cH X scope N' cl s3.heap.objs.size s3 H3 fp (X.pn++pins)) eU σ' H' s'->∀ h',Heap.SameBut s3.heap.objs.size s'.heap h'->Inv X pins σ H' { s' with heap:=h' }:=fun {H' s' σ' eU} J' h' sb=>by
  have same:∀ b o,b≠s3.heap.objs.size->s'.heap.get? b=some o->h'.get? b=some o:=fun b o hb e=>sb.extBut b o hb e
  have u:Un (frs X.stack) fp H3 H' s3.heap s'.heap:=J'.base;refine oN.call' (s':={ s' with heap:=h' }) (ch:=fp) J'.os ⟨fun b o e n hb hx=>?_,fun b o e n hb hx=>?_,u.free,fun b o e hx=>?_,u.tups,u.bF,u.bR⟩ (fun b o e=>?_) J'.bare fun b hb=>?_
  ·exact same b o (Nat.ne_of_lt (Heap.lt_size e)) (u.keep b o e n hb hx)
  ·obtain ⟨sl,z⟩:=u.slot b o e n hb hx
   exact ⟨sl,same b _ (Nat.ne_of_lt (Heap.lt_size e)) z⟩
  ·obtain ⟨o',z⟩:=u.there b o e hx
   exact ⟨o',same b o' (Nat.ne_of_lt (Heap.lt_size e)) z⟩
  ·have nC:∀ c v,H' c=some v->c≠s3.heap.objs.size:=fun c v z q=>by
    have:=J'.free;rw [show (cH X scope N' cl s3.heap.objs.size s3 H3 fp (X.pn++pins)).env.locals=s3.heap.objs.size from rfl,<- q,z] at this
    cases this
   refine (J'.hok b o e).stay (fun c v hc q=>same c v ?_ q) (fun _ q=>q) fun _ _ q=>q
   rcases hc with z | z
   ·rw [z];exact nC b o e
   ·exact nC c _ z
  ·obtain ⟨f0,f1,fs,fe,f4,f5⟩:=f3 b hb
   exact ⟨fe,f1,f4,f5⟩
 have loop:codeAny (model X.prog X.w) X.A (.compLoop (.ListComp elt [⟨tg,iter,ifs,0⟩] scope pos) 0 (.ref it) (.ref D) (compEnvC scope cl s3.heap.objs.size X.env))
   (Po (.ref D) s3.heap.objs.size) { s3 with heap:=h₁,toks:=s3.toks+([]:List (Str×Value)).length }:=by
  refine Rk (fun n s'=>∃ i ys σ' H',Inv (cH X scope N' cl s3.heap.objs.size s3 H3 fp (X.pn++pins)) [] σ' H' s'/\tn i s'.heap/\(∀ b∈fp,H' b=none)/\W i n ys σ' H') ?_ m0 ⟨0,[],YN src σ,H3,I4,T.keep _ _ _ st3 fun b _ o e=>ni b o e,fun b hb=>(f3 b hb).1,w0⟩;rintro n s5 ⟨i,ys,tG,H5,I5,lZ,iW,w5⟩;obtain ⟨hDs,stop | go⟩:=turn i n ys tG H5 w5
  ·obtain ⟨stop,qn⟩:=stop
   refine aL (T.done (cH X scope N' cl s3.heap.objs.size s3 H3 fp (X.pn++pins)) rfl rfl rfl hc i [] s5 tG H5 _ I5 (stat iW) lZ stop) fun r s6 ⟨hr,I6⟩=>?_
   subst hr;obtain ⟨m,hn,_⟩:=id I6.loc;exact done D _ s6 H5 (fun h' sb=>fin I6 h' sb) ⟨m,hn⟩ I6.free (fun z=>oN.eV (Nat.le_refl _) z) qn
  ·obtain ⟨go,N,hN,step⟩:=go
   refine aL (T.item (cH X scope N' cl s3.heap.objs.size s3 H3 fp (X.pn++pins)) rfl rfl rfl hc i [] s5 tG H5 _ I5 (stat iW) lZ go) fun r s6 ⟨u,hr,h6⟩=>?_
   subst hr;refine aL h6 fun _ s7 ⟨x,H7,I7,r7,y7,xu,Rp⟩=>?_
   have Rq:=I7.pinned (stat Rp) (T.obj _ _ xu);have again:∀ {s8:Shared} {jd:St} {H8:Hp} {ys':List V},Inv (cH X scope N' cl s3.heap.objs.size s3 H3 fp (X.pn++pins)) ([]++Vv fp s7.heap) jd H8 s8->(∃ m',m'<n/\W (i+1) m' ys' jd H8) ->
     ∃ m,m<n/\∃ i ys σ' H',Inv (cH X scope N' cl s3.heap.objs.size s3 H3 fp (X.pn++pins)) [] σ' H' s8/\tn i s8.heap/\(∀ b∈fp,H' b=none)/\W i m ys σ' H':=fun {s8 jd H8 ys'} I8 ⟨m',hm,w8⟩=>by
    refine ⟨m',hm,i+1,ys',jd,H8,I8.dG,T.keep _ _ _ xu fun b hb o e=>(I8.pin (b,o) (List.mem_append_right _ (List.mem_append_right _ (Wn hb e)))).1,fun b hb=>?_,w8⟩;obtain ⟨o,e,d⟩:=T.obj _ _ xu b hb;exact (I8.pin (b,o) (List.mem_append_right _ (List.mem_append_right _ (Wn hb e)))).2.1
   refine aL (hg _ s3 H3 fp _ _ s7 tG H7 x u _ Rq r7 (step x H7 y7)) fun _ s8 ⟨jd,H8,I8,q8⟩=>?_
   refine aL (ht _ s3 H3 fp _ _ s8 jd H8 _ I8 q8) fun ok s9 ⟨H9,I9,q9⟩=>?_
   cases ok with
   | false=>exact again I9 (hN _ _ _ q9)
   | true =>
    rw [if_pos rfl];refine wpAny_mono (he _ s3 H3 fp _ _ s9 jd H9 _ (I9.wish _) q9) (fun y Rr ⟨yv,GR,Mx,r10,Rt⟩=>?_) (gone D s3 H3 fp oN fin);have Ru:=Mx.cA;obtain ⟨Rv,hlen,w10⟩:=Rt;refine aL (Y7 (X:=cH X scope N' cl s3.heap.objs.size s3 H3 fp (X.pn++pins)) _ Rr jd GR (.ref D) [yv] (.ref D) [y] (fun _ H'=>H'=upd GR D (.lst (ys++[yv]))) Ru rfl (.cons r10 .nil) ⟨ys,Rv,hlen,rfl⟩) fun _ s11 ⟨_,H11,Rw,_,Rx⟩=>?_
    subst Rx;exact again Rw (hN _ _ _ w10)
 exact codeAny_compStart_list loop (T.self _ 0 _ _ _ (T.keep _ _ _ st3 fun b _ o e=>ni b o e) loop)
theorem X5 {elt tg iter:Expr} {ifs:List Expr} {scope:Scope} {pos:Pos} {src:List (Option Nat)} {N':List Str} {wi:TI} {g:TG} {tt:TT} {te:TE} (hcap:eG X scope src N') (hc:X.calm=true) (hi:PI X tg iter wi)
  (hg:∀ cl C s₀ H₀ fp pn,PG (cH X scope N' cl C s₀ H₀ fp pn) tg g) (ht:∀ cl C s₀ H₀ fp pn,oM (cH X scope N' cl C s₀ H₀ fp pn) ifs tt) (he:∀ cl C s₀ H₀ fp pn,PE (cH X scope N' cl C s₀ H₀ fp pn) elt te)
  (hfree:∀ x,(x,NameKind.free)∈scope.names->X.env.scope.names.lookup x=some NameKind.cell\/X.env.scope.names.lookup x=some NameKind.free)
  (hk:scope.kind = .function) (hcell:∀ y∈scope.names,y.2 ≠ .cell) (hnames:∀ y∈scope.names,y.2 = .local->scope.names.lookup y.1=some .local)
  (hs:∀ x,foldedSetIterable iter X.env x=pure x):PE X (.ListComp elt [⟨tg,iter,ifs,0⟩] scope pos) (fj src wi g tt te):=by
 intro pins s σ H Q I h;obtain ⟨cl,hcl,a,b⟩:=Ut X.env scope fun x hx=>I.ok.has x (hfree x hx)
 rw [eval_ListComp];refine wpAny_comprehension_free (use:=none) rfl hs hcl hk hnames (aL (hi pins s σ H _ I h) fun v s1 h1=>aL h1 fun itv s2 h2=>?_);exact QS (Po:=fun v C=>compPost (model X.prog X.w) X.A X.xe none (EP X pins σ Q) v C) (Z:=fun _ _ _ _ _ _ _=>False) hcap hc (hg cl) (ht cl) (he cl) hk hcell a b h2 (fun D C s6 H5 fi ⟨m,hn⟩ _ _ qn=>⟨m,hn,fun h' sb=>⟨.ref D,H5,fi h' sb,rfl,qn⟩⟩) fun _ _ _ _ _ _ _ _ z=>z.elim
end
section
variable {X:Cx} {tg:Expr}
def X0 (J:It) (P:Hp->Prop) (xs:List V):Prop:=∀ H,P H->∀ i,(∀ x,xs[i]?=some x->J.go i H/\∀ y H',J.iV i H y H'->H'=H/\y=x)/\(xs.length<=i->J.stop i H)
theorem Ry {K:W.Frag} {a:Addr} {xs:List V}:X0 (lX K a) (fun H=>aJ K H a xs) xs:=fun H hq i=>by
 refine ⟨fun x hx=>⟨⟨xs,x,hq,hx⟩,fun y H' ⟨e1,e2⟩=>⟨e1,?_⟩⟩,fun hi=>⟨xs,hq,hi⟩⟩;have:=e2 xs hq;rw [hx] at this
 exact (Option.some.inj this).symm
theorem Wo {K:W.Frag} {a:Addr} {xs:List V}:X0 (lW K a) (fun H=>aG K H a xs) xs:=fun H hq i=>by
 refine ⟨fun x hx=>⟨⟨xs,x,hq,hx⟩,fun y H' ⟨e1,e2⟩=>⟨e1,?_⟩⟩,fun hi=>⟨xs,hq,hi⟩⟩;have:=e2 xs hq;rw [hx] at this
 exact (Option.some.inj this).symm
theorem V5 {lo:Int} {n:Nat} {P:Hp->Prop}:X0 (jM lo n) P ((List.range n).map fun (i:Nat)=>V.int (lo+i)):=fun H hq i=>by
 refine ⟨fun x hx=>?_,fun hi=>by show n<=i;simpa using hi⟩;have hi:i<n:=by
  have:=(List.getElem?_eq_some_iff.mp hx).1;simpa using this
 refine ⟨hi,fun y H' ⟨e1,e2⟩=>⟨e1,?_⟩⟩;rw [List.getElem?_map,List.getElem?_range hi] at hx
 rw [e2];simpa using hx
theorem X0.imp {J:It} {P P':Hp->Prop} {xs:List V} (h:X0 J P xs) (hp:∀ H,P' H->P H):X0 J P' xs:=fun H q=>h H (hp H q)
theorem GX {J:It} {P:Hp->Prop} {xs:List V} (hJ:X0 J P xs) {src:List (Option Nat)} {g:TG} {tt:TT} {te:TE} {σ:St} {H1:Hp} {Q:VK} {D:Addr} (Pv:Nat->List V->St->Hp->Prop)
  (h0:Pv 0 [] (YN src σ) (upd H1 D (.lst []))) (hP:∀ i ys σ' H',Pv i ys σ' H'->P H'/\H' D=some (.lst ys))
  (step:∀ i ys σ' H' x,xs[i]?=some x->Pv i ys σ' H'->g x σ' H' fun σ2 H4=>tt σ2 H4 fun b H5=>if b=true then te σ2 H5 fun y H6=>H6 D=some (.lst ys)/\ys.length<sizeLine/\Pv (i+1) (ys++[y]) σ2 (upd H6 D (.lst (ys++[y]))) else Pv (i+1) ys σ2 H5)
  (fin:∀ ys σ' H',Pv xs.length ys σ' H'->Q (.ref D) H') :
  LC src J g tt te σ H1 Q D:=by
 refine ⟨fun i m ys σ' H'=>m=xs.length - i/\i<=xs.length/\Pv i ys σ' H',⟨xs.length,by simp,Nat.zero_le _,h0⟩,?_⟩;rintro i m ys σ' H2 ⟨rfl,hi,p⟩;obtain ⟨hp,hD⟩:=hP i ys σ' H2 p;refine ⟨hD,?_⟩;by_cases hlt:i<xs.length
 ·obtain ⟨go,yl⟩:=(hJ H2 hp i).1 xs[i] (by simp [hlt])
  refine .inr ⟨go,fun ys' σ3 H3=>Pv (i+1) ys' σ3 H3,fun ys' σ3 H3 p'=>⟨xs.length - (i+1),by omega,rfl,hlt,p'⟩,fun x H3 y=>?_⟩;obtain ⟨e1,e2⟩:=yl x H3 y;subst e1 e2;exact step i ys σ' _ _ (by simp [hlt]) p
 ·have e:i=xs.length:=by omega
  subst e;exact .inl ⟨(hJ H2 hp _).2 (Nat.le_refl _),fin ys σ' H2 p⟩
theorem Yf.aF {H:Hp} {p:Addr} (h:H p=none) (o:HO):Yf H (upd H p o):=fun b u q=>by rw [Yg (Yj q h)];exact q
theorem Yf.bT {H H':Hp} {p:Addr} (h:H p=none) (e:Yf H H') (o:HO):Yf H (upd H' p o):=fun b u q=>by rw [Yg (Yj q h)];exact e b u q
theorem Yf.tup {K:W.Frag} {H H':Hp} {a:Addr} {xs:List V} (e:Yf H H') (h:aJ K H a xs):aJ K H' a xs:=by
 rcases h with (h | ⟨o,h⟩) | h
 ·exact .inl (.inl (e _ _ h))
 ·exact .inl (.inr ⟨o,e _ _ h⟩)
 ·exact .inr h
end
section
variable {X:Cx}
def tH:V->Option Value
 | .ty n=>some (.type n)
 | .ref a=>some (.ref a)
 | _=>none
inductive Mz (K:W.Frag) (t cv:Value) (Q:Bool->Prop):Prop
 | mk (b:Bool) (h3:W.kitOne K t cv=some b) (q:Q b)
inductive Rz (K:W.Frag) (H:Hp) (x c:V) (Q:Bool->Prop):Prop
 | mk (cv:Value) (h1:tH c=some cv) (t:Value) (h2:cX K H x t) (q:Mz K t cv Q)
def xG (K:W.Frag):List V->Hp->VK->Prop:=fun xs H Q=>k2 xs fun x c=>Rz K H x c fun b=>Q (.bl b) H
theorem YK:XH X (.builtin "isinstance") (xG X.K):=by
 intro pins s σ H xs us Q I r h;obtain ⟨x,c,rfl,cv,ec,t,ty,b,e,q⟩:=qJ h;obtain ⟨u,w',rfl,ru,iZ⟩:=wK r;have ew:w'=cv:=by
  cases c with
  | ty n=>cases (show w'=Value.type n from iZ);simpa [tH] using ec
  | ref a=>cases (show w'=Value.ref a from iZ);simpa [tH] using ec
  | _=>simp [tH] at ec
 subst ew;exact O9 I ru ty e fun tk=>⟨.bl b,H,I.tok tk,rfl,q⟩
end
structure Sub (P:Program) (w:World) (i:Addr) (St:Nat->Heap->Prop) (Ready:Heap->(Nat->Option Value)->Prop):Prop where
 obj:∀ k h,St k h->∃ o,h.get? i=some o/\∀ v,o.data ≠ .cell v
 keep:∀ k h h',St k h->(∀ o,h.get? i=some o->h'.get? i=some o)->St k h'
 item:∀ (A:Around) (k:Nat) (s:Shared) (get:Nat->Option Value) (x:Value) (Q:Value->Shared->Prop) (E:Value->Shared->Prop),St k s.heap->Ready s.heap get->get k=some x ->
  (∀ h' tk,St (k+1) h'->Heap.SameBut i s.heap h'->Q x { s with heap:=h',toks:=tk })->wpAny (model P w) A (Builtin.SmallTypes.nextOf (.ref i)) Q E s
 fin:∀ (A:Around) (k:Nat) (s:Shared) (get:Nat->Option Value) (Q:Value->Shared->Prop) (E:Value->Shared->Prop),A.handled=none->St k s.heap->Ready s.heap get->get k=none ->
  (∀ h' e,Heap.ExtBut i s.heap h'->(∃ o,h'.get? e=some o/\o.cls = .type "StopIteration")->E (.ref e) { s with heap:=h' })->wpAny (model P w) A (Builtin.SmallTypes.nextOf (.ref i)) Q E s
section
variable {prog:Program} {w:World} {A:Around} {E:Value->Shared->Prop} {s:Shared}
theorem V1 {it t:Addr} {i:Nat} {items:Array Value} {x:Value} {Q:Value->Shared->Prop} (hit:s.heap.IsTupleIter it t i) (ht:s.heap.IsTuple t items) (hx:items[i]?=some x)
  (hQ:∀ h',h'.IsTupleIter it t (i+1)->Heap.SameBut it s.heap h'->Q x { s with heap:=h' }):wpAny (model prog w) A (Builtin.SmallTypes.nextOf (.ref it)) Q E s:=by
 obtain ⟨o,ho,hc,hd⟩:=id hit;obtain ⟨ol,hol,_,nl,hdl⟩:=ht;unfold Builtin.SmallTypes.nextOf;refine wpAny_bind (wpAny_callSpecial?_slot (name:=Str.ofString "__next__") hit.typeIs F.slot_tuple_iterator_next (wpAny_call_entry F.slot_tuple_iterator_next hit.typeIs F.entry_tuple_iterator_next ?_ (F.args_tuple_iterator_next_1 _)))
 show wpAny _ _ (field (.ref it) 0 >>= _) _ _ s
 refine wpAny_bind (wpAny_field ho hd (x := .ref t) rfl ?_)
 show wpAny _ _ (if (Value.ref t==Value.none)=true then _ else _) _ _ s
 rw [if_neg (show ¬ ((Value.ref t==Value.none)=true) from Bool.false_ne_true)]
 show wpAny _ _ (field (.ref it) 1 >>= _) _ _ s
 refine wpAny_bind (wpAny_field ho hd (x := .int i 0) rfl ?_)
 show wpAny _ _ (seqItems? (.ref t) >>= _) _ _ s
 refine wpAny_bind (wpAny_seqItems hol hdl ?_);simp only [Int.toNat_natCast,hx];refine wpAny_bind (wpAny_setField ho hd (by simp) (wpAny_pure ⟨x,rfl,wpAny_pure (hQ _ ?_ (Heap.SameBut.update ..))⟩));exact ⟨_,Heap.get?_update_self _ ho (Obj.isFreed_of_fields (Obj.data_mapFields hd _)),(Obj.cls_mapFields ..).trans hc,by rw [Obj.data_mapFields hd];simp [rawInt]⟩
theorem Ub {it t:Addr} {i:Nat} {items:Array Value} {Q:Value->Shared->Prop} (hh:A.handled=none) (hit:s.heap.IsTupleIter it t i) (ht:s.heap.IsTuple t items) (hx:items[i]?=none)
  (hE:∀ h' e,Heap.ExtBut it s.heap h'->(∃ o,h'.get? e=some o/\o.cls = .type "StopIteration")->E (.ref e) { s with heap:=h' }):wpAny (model prog w) A (Builtin.SmallTypes.nextOf (.ref it)) Q E s:=by
 obtain ⟨o,ho,hc,hd⟩:=id hit;obtain ⟨ol,hol,_,nl,hdl⟩:=ht;unfold Builtin.SmallTypes.nextOf;refine wpAny_bind (wpAny_callSpecial?_slot (name:=Str.ofString "__next__") hit.typeIs F.slot_tuple_iterator_next (wpAny_call_entry F.slot_tuple_iterator_next hit.typeIs F.entry_tuple_iterator_next ?_ (F.args_tuple_iterator_next_1 _)))
 show wpAny _ _ (field (.ref it) 0 >>= _) _ _ s
 refine wpAny_bind (wpAny_field ho hd (x := .ref t) rfl ?_)
 show wpAny _ _ (if (Value.ref t==Value.none)=true then _ else _) _ _ s
 rw [if_neg (show ¬ ((Value.ref t==Value.none)=true) from Bool.false_ne_true)]
 show wpAny _ _ (field (.ref it) 1 >>= _) _ _ s
 refine wpAny_bind (wpAny_field ho hd (x := .int i 0) rfl ?_)
 show wpAny _ _ (seqItems? (.ref t) >>= _) _ _ s
 refine wpAny_bind (wpAny_seqItems hol hdl ?_);simp only [Int.toNat_natCast,hx];refine wpAny_bind (wpAny_rule (wpAny_bind (wpAny_setField ho hd (by simp) ?_)))
 show wpAny _ _ (newExc (.type "StopIteration") [] >>= _) _ _ _
 refine wpAny_bind ?_;simp only [newExc,newTuple];refine wpAny_bind (wpAny_newObj_type ?_ (by size_fits));refine wpAny_bind (m:=firstArgMember _ _) (wpAny_of_eq (a:=Value.none) (by first | rfl | (simp only [firstArgMember];rfl)) ?_);refine wpAny_newObj_type ?_ (by size_fits);simp only [raiseNew];refine wpAny_bind (wpAny_handled ?_)
 first | rw [show A.in1.handled=none from hh] | rw [hh]
 refine wpAny_bind (wpAny_pure (wpAny_throw ?_));exact hE _ _ (((Heap.SameBut.update ..).extBut.push _).push _) ⟨_,Heap.get?_push_size _ rfl,rfl⟩
end
theorem XE {P:Program} {w:World} (i t:Addr):Sub P w i (fun k h=>h.IsTupleIter i t k) (fun h get=>∃ items:Array Value,h.IsTuple t items/\∀ k,get k=items[k]?) where
 obj:=fun k h ⟨o,e,c,d⟩=>⟨o,e,fun v z=>by rw [d] at z;cases z⟩
 keep:=fun k h h' st q=>st.at q
 item:=fun A k s get x Q E st ⟨items,ht,hg⟩ hx hQ=>V1 st ht ((hg k).symm.trans hx) fun h' st' sb=>hQ h' s.toks st' sb
 fin:=fun A k s get Q E hh st ⟨items,ht,hg⟩ hx hE=>Ub hh st ht ((hg k).symm.trans hx) hE
structure cO (z TI TO i1 i2:Addr):Prop where
 a:TI≠z
 b:TO≠z
 c:i1≠z
 d:i2≠z
 e:TI≠TO
 f:TI≠i1
 g:TI≠i2
 h:TO≠i1
 i:TO≠i2
 j:i1≠i2
section
variable {prog:Program} {w:World} {A:Around} {E:Value->Shared->Prop} {s:Shared} {z TI TO i1 i2:Addr} {S1 S2:Nat->Heap->Prop} {R1 R2:Heap->(Nat->Option Value)->Prop} {g1 g2:Nat->Option Value} {k:Nat} {a b:Value}
theorem RB {x y:Value} {Q:Option Value->Shared->Prop} (D:cO z TI TO i1 i2) (U1:Sub prog w i1 S1 R1) (U2:Sub prog w i2 S2 R2)
  (k1:∀ h h' g,R1 h g->(∀ c o,c≠z->c≠TO->c≠i1->c≠i2->h.get? c=some o->h'.get? c=some o)->R1 h' g) (k2:∀ h h' g,R2 h g->(∀ c o,c≠z->c≠TO->c≠i1->c≠i2->h.get? c=some o->h'.get? c=some o)->R2 h' g)
  (hz:IsZip s.heap z TI TO .none) (hTI:IsPair s.heap TI (.ref i1) (.ref i2)) (hTO:IsPair s.heap TO a b) (h1:S1 k s.heap) (h2:S2 k s.heap) (r1:R1 s.heap g1) (r2:R2 s.heap g2) (hx:g1 k=some x) (hy:g2 k=some y)
  (hQ:∀ h' tk,IsZip h' z TI TO (rawInt s.heap.objs.size)->IsPair h' TO x y->S1 (k+1) h'->S2 (k+1) h'->IsPair h' s.heap.objs.size x y->h'.objs.size=s.heap.objs.size+1 ->
   (∀ c o,c≠z->c≠TO->c≠i1->c≠i2->s.heap.get? c=some o->h'.get? c=some o)->Q (some (.ref s.heap.objs.size)) { s with heap:=h',toks:=tk }) :
  wpAny (model prog w) A (pyNext (.ref z)) Q E s:=by
 have hT:s.TypeIs (.ref z) "zip":=⟨_,hz,rfl⟩;unfold pyNext;refine wpAny_bind (wpAny_attempt (wpAny_callSpecial?_slot (name:=Str.ofString "__next__") hT F.slot_zip_next (wpAny_call_entry F.slot_zip_next hT F.entry_zip_next ?_ (F.args_zip_next_1 _))))
 show wpAny _ _ (field (.ref z) 2 >>= _) _ _ _
 refine wpAny_bind (wpAny_field hz rfl (x := .bool false) rfl ?_)
 show wpAny _ _ (field (.ref z) 3 >>= _) _ _ _
 refine wpAny_bind (wpAny_field hz rfl (x := .ref TI) rfl ?_);refine wpAny_bind (wpAny_seqItems hTI rfl ?_)
 show wpAny _ _ (Builtin.SmallTypes.ownedTupleIsFree (.ref z) >>= _) _ _ _
 refine wpAny_bind ?_;unfold Builtin.SmallTypes.ownedTupleIsFree;refine wpAny_bind (wpAny_field hz rfl (x := .none) rfl (wpAny_pure ?_));simp only [if_true];refine wpAny_bind (wpAny_rule ?_);refine wpAny_bind (wpAny_field hz rfl (x := .ref TO) rfl ?_);refine wpAny_bind (wpAny_setField_rec hz (by simp) fun h₁ hz₁ hs₁=>?_)
 replace hz₁:IsZip h₁ z TI TO .ellipsis:=hz₁
 refine wpAny_bind ?_;simp only [List.zipIdx_cons,List.zipIdx_nil,List.forIn_cons,List.forIn_nil];refine wpAny_bind (wpAny_bind (wpAny_onRaise ?_))
 show wpAny _ _ (Builtin.SmallTypes.nextOf (.ref i1) >>= _) _ _ _
 have jF:S1 k h₁:=U1.keep _ _ _ h1 fun o e=>hs₁.extBut _ _ D.c e
 have jG:R1 h₁ g1:=k1 _ _ _ r1 fun c o c1 _ _ _ e=>hs₁.extBut _ _ c1 e
 refine wpAny_bind (U1.item _ k { s with heap:=h₁ } g1 x _ _ jF jG hx fun h₂ tk₂ jH hs₂=>wpAny_pure ?_);have hTO₂:IsPair h₂ TO a b:=hs₂.extBut _ _ D.h (hs₁.extBut _ _ D.b hTO);refine wpAny_bind (wpAny_seqItems hTO₂ rfl ?_);refine wpAny_bind (wpAny_updateSeq_pair hTO₂ fun h₃ hTO₃ hs₃=>?_)
 replace hTO₃:IsPair h₃ TO x b:=hTO₃
 refine wpAny_bind (wpAny_letGo (wpAny_pure ?_));refine wpAny_bind (wpAny_bind (wpAny_onRaise ?_))
 show wpAny _ _ (Builtin.SmallTypes.nextOf (.ref i2) >>= _) _ _ _
 have gQ:∀ c o,c≠z->c≠TO->c≠i1->c≠i2->s.heap.get? c=some o->h₃.get? c=some o:=fun c o c1 c2 c3 c4 e=>hs₃.extBut _ _ c2 (hs₂.extBut _ _ c3 (hs₁.extBut _ _ c1 e))
 have nj:S2 k h₃:=U2.keep _ _ _ h2 fun o e=>hs₃.extBut _ _ D.i.symm (hs₂.extBut _ _ D.j.symm (hs₁.extBut _ _ D.d e))
 refine wpAny_bind (U2.item _ k { s with heap:=h₃,toks:=tk₂ } g2 y _ _ nj (k2 _ _ _ r2 gQ) hy fun h₄ tk₄ nq hs₄=>wpAny_pure ?_);have hTO₄:IsPair h₄ TO x b:=hs₄.extBut _ _ D.i hTO₃;refine wpAny_bind (wpAny_seqItems hTO₄ rfl ?_);refine wpAny_bind (wpAny_updateSeq_pair hTO₄ fun h₅ hTO₅ hs₅=>?_)
 replace hTO₅:IsPair h₅ TO x y:=hTO₅
 refine wpAny_bind (wpAny_letGo (wpAny_pure (wpAny_pure ?_)));refine wpAny_bind (wpAny_seqItems hTO₅ rfl ?_);refine wpAny_bind (wpAny_newTuple ?_);have hsz:h₅.objs.size=s.heap.objs.size:=by rw [hs₅.1,hs₄.1,hs₃.1,hs₂.1,hs₁.1]
 have hz₅:IsZip h₅ z TI TO .ellipsis:=hs₅.extBut _ _ D.b.symm (hs₄.extBut _ _ D.d.symm (hs₃.extBut _ _ D.b.symm (hs₂.extBut _ _ D.c.symm hz₁)));have hk₅:∀ c o,c≠z->c≠TO->c≠i1->c≠i2->s.heap.get? c=some o->h₅.get? c=some o:=fun c o c1 c2 c3 c4 e=>hs₅.extBut _ _ c2 (hs₄.extBut _ _ c4 (gQ c o c1 c2 c3 c4 e))
 have Eo:S1 (k+1) h₅:=U1.keep _ _ _ jH fun o e=>hs₅.extBut _ _ D.h.symm (hs₄.extBut _ _ D.j (hs₃.extBut _ _ D.h.symm e))
 have Ep:S2 (k+1) h₅:=U2.keep _ _ _ nq fun o e=>hs₅.extBut _ _ D.i.symm e
 have hzlt:z<h₅.objs.size:=Heap.lt_size hz₅
 show wpAny _ _ (Builtin.SmallTypes.ownedTupleHandOut (.ref z) (.ref h₅.objs.size) >>= _) _ _ _
 refine wpAny_bind ?_;unfold Builtin.SmallTypes.ownedTupleHandOut;have hz₆:IsZip (h₅.push { cls := .type "tuple",data := .seq #[x,y] }) z TI TO .ellipsis:=Heap.get?_push_of_some _ hz₅;refine wpAny_bind (wpAny_setField_rec hz₆ (by simp) fun h₇ hz₇ hs₇=>?_)
 replace hz₇:IsZip h₇ z TI TO (rawInt h₅.objs.size):=hz₇
 refine wpAny_setField_rec hz₇ (by simp) fun h₈ hz₈ hs₈=>?_
 replace hz₈:IsZip h₈ z TI TO (rawInt h₅.objs.size):=hz₈
 have up:∀ c o,c≠z->h₅.get? c=some o->h₈.get? c=some o:=fun c o c1 e=>hs₈.extBut _ _ c1 (hs₇.extBut _ _ c1 (Heap.get?_push_of_some _ e))
 have hT₈:IsPair h₈ h₅.objs.size x y:=hs₈.extBut _ _ (Nat.ne_of_gt hzlt) (hs₇.extBut _ _ (Nat.ne_of_gt hzlt) (Heap.get?_push_size _ rfl));have hz8:h₈.objs.size=h₅.objs.size+1:=by rw [hs₈.1,hs₇.1,Heap.size_push]
 rw [hsz] at hz₈ hT₈ hz8
 refine wpAny_pure ⟨_,rfl,wpAny_pure ?_⟩
 show Q (some (.ref h₅.objs.size)) _
 rw [hsz];exact hQ h₈ tk₄ hz₈ (up _ _ D.b hTO₅) (U1.keep _ _ _ Eo fun o e=>up _ o D.c e) (U2.keep _ _ _ Ep fun o e=>up _ o D.d e) hT₈ hz8 fun c o c1 c2 c3 c4 e=>up c o c1 (hk₅ c o c1 c2 c3 c4 e)
theorem RD {Q:Option Value->Shared->Prop} (hh:A.handled=none) (D:cO z TI TO i1 i2) (U1:Sub prog w i1 S1 R1) (U2:Sub prog w i2 S2 R2)
  (k1:∀ h h' g,R1 h g->(∀ c o,c≠z->c≠TO->c≠i1->c≠i2->h.get? c=some o->h'.get? c=some o)->R1 h' g) (k2:∀ h h' g,R2 h g->(∀ c o,c≠z->c≠TO->c≠i1->c≠i2->h.get? c=some o->h'.get? c=some o)->R2 h' g)
  (hz:IsZip s.heap z TI TO .none) (hTI:IsPair s.heap TI (.ref i1) (.ref i2)) (hTO:IsPair s.heap TO a b) (h1:S1 k s.heap) (h2:S2 k s.heap) (r1:R1 s.heap g1) (r2:R2 s.heap g2) (hend:g1 k=none\/g2 k=none)
  (hQ:∀ h' tk,(∀ c o,c≠z->c≠TO->c≠i1->c≠i2->s.heap.get? c=some o->h'.get? c=some o)->Q none { s with heap:=h',toks:=tk }):wpAny (model prog w) A (pyNext (.ref z)) Q E s:=by
 have hT:s.TypeIs (.ref z) "zip":=⟨_,hz,rfl⟩;unfold pyNext;refine wpAny_bind (wpAny_attempt (wpAny_callSpecial?_slot (name:=Str.ofString "__next__") hT F.slot_zip_next (wpAny_call_entry F.slot_zip_next hT F.entry_zip_next ?_ (F.args_zip_next_1 _))))
 show wpAny _ _ (field (.ref z) 2 >>= _) _ _ _
 refine wpAny_bind (wpAny_field hz rfl (x := .bool false) rfl ?_)
 show wpAny _ _ (field (.ref z) 3 >>= _) _ _ _
 refine wpAny_bind (wpAny_field hz rfl (x := .ref TI) rfl ?_);refine wpAny_bind (wpAny_seqItems hTI rfl ?_)
 show wpAny _ _ (Builtin.SmallTypes.ownedTupleIsFree (.ref z) >>= _) _ _ _
 refine wpAny_bind ?_;unfold Builtin.SmallTypes.ownedTupleIsFree;refine wpAny_bind (wpAny_field hz rfl (x := .none) rfl (wpAny_pure ?_));simp only [if_true];refine wpAny_bind (wpAny_rule ?_);refine wpAny_bind (wpAny_field hz rfl (x := .ref TO) rfl ?_);refine wpAny_bind (wpAny_setField_rec hz (by simp) fun h₁ hz₁ hs₁=>?_)
 replace hz₁:IsZip h₁ z TI TO .ellipsis:=hz₁
 refine wpAny_bind ?_;simp only [List.zipIdx_cons,List.zipIdx_nil,List.forIn_cons,List.forIn_nil];refine wpAny_bind (wpAny_bind (wpAny_onRaise ?_))
 show wpAny _ _ (Builtin.SmallTypes.nextOf (.ref i1) >>= _) _ _ _
 have jF:S1 k h₁:=U1.keep _ _ _ h1 fun o e=>hs₁.extBut _ _ D.c e
 have jG:R1 h₁ g1:=k1 _ _ _ r1 fun c o c1 _ _ _ e=>hs₁.extBut _ _ c1 e
 cases hx:g1 k with
 | none =>
  refine wpAny_bind (U1.fin _ k { s with heap:=h₁ } g1 _ _ hh jF jG hx fun h₂ e hs₂ he=>?_);obtain ⟨oe,hoe,hce⟩:=he;have hz₂:IsZip h₂ z TI TO .ellipsis:=hs₂ _ _ D.c.symm hz₁;have hez:e≠z:=fun x=>by subst x;rw [hz₂] at hoe;cases hoe;simp at hce
  refine wpAny_setField_rec hz₂ (by simp) fun h₃ _ hs₃=>?_
  refine wpAny_bind (wpAny_isInstance (T:="StopIteration") (b:=true) ⟨oe,hs₃.extBut _ _ hez hoe,hce⟩ isSubtype_stop ?_);exact wpAny_pure (hQ h₃ s.toks fun c o c1 _ c3 _ x=>hs₃.extBut _ _ c1 (hs₂ _ _ c3 (hs₁.extBut _ _ c1 x)))
 | some x =>
  have hy:g2 k=none:=by rcases hend with h | h;rw [hx] at h;cases h;exact h
  refine wpAny_bind (U1.item _ k { s with heap:=h₁ } g1 x _ _ jF jG hx fun h₂ tk₂ jH hs₂=>wpAny_pure ?_);have hTO₂:IsPair h₂ TO a b:=hs₂.extBut _ _ D.h (hs₁.extBut _ _ D.b hTO);refine wpAny_bind (wpAny_seqItems hTO₂ rfl ?_);refine wpAny_bind (wpAny_updateSeq_pair hTO₂ fun h₃ hTO₃ hs₃=>?_);refine wpAny_bind (wpAny_letGo (wpAny_pure ?_));refine wpAny_bind (wpAny_bind (wpAny_onRaise ?_))
  show wpAny _ _ (Builtin.SmallTypes.nextOf (.ref i2) >>= _) _ _ _
  have gQ:∀ c o,c≠z->c≠TO->c≠i1->c≠i2->s.heap.get? c=some o->h₃.get? c=some o:=fun c o c1 c2 c3 c4 e=>hs₃.extBut _ _ c2 (hs₂.extBut _ _ c3 (hs₁.extBut _ _ c1 e))
  have nj:S2 k h₃:=U2.keep _ _ _ h2 fun o e=>hs₃.extBut _ _ D.i.symm (hs₂.extBut _ _ D.j.symm (hs₁.extBut _ _ D.d e))
  refine wpAny_bind (U2.fin _ k { s with heap:=h₃,toks:=tk₂ } g2 _ _ hh nj (k2 _ _ _ r2 gQ) hy fun h₄ e hs₄ he=>?_);obtain ⟨oe,hoe,hce⟩:=he;have hz₄:IsZip h₄ z TI TO .ellipsis:=hs₄ _ _ D.d.symm (hs₃.extBut _ _ D.b.symm (hs₂.extBut _ _ D.c.symm hz₁));have hez:e≠z:=fun x=>by subst x;rw [hz₄] at hoe;cases hoe;simp at hce
  refine wpAny_setField_rec hz₄ (by simp) fun h₅ _ hs₅=>?_
  refine wpAny_bind (wpAny_isInstance (T:="StopIteration") (b:=true) ⟨oe,hs₅.extBut _ _ hez hoe,hce⟩ isSubtype_stop ?_);exact wpAny_pure (hQ h₅ tk₂ fun c o c1 c2 c3 c4 x=>hs₅.extBut _ _ c1 (hs₄ _ _ c4 (gQ c o c1 c2 c3 c4 x)))
end
abbrev tK (h:Heap) (o1 o2:Obj):Heap:=((h.push o1).push o2)
abbrev tL (h:Heap) (o1 o2:Obj):Heap:=(tK h o1 o2).push { cls := .type "tuple",data := .seq #[.ref h.objs.size,.ref (h.push o1).objs.size] }
abbrev tM (h:Heap) (o1 o2:Obj):Heap:=(tL h o1 o2).push { cls := .type "tuple",data := .seq #[.none,.none] }
abbrev jP (h:Heap) (o1 o2:Obj):Heap:=(tM h o1 o2).push { cls := .type "zip",data := .fields #[.none,.bool false,.bool false,.ref (tK h o1 o2).objs.size,.ref (tL h o1 o2).objs.size] }
def Vd (h:Heap) (v:Value) (o:Obj):Prop:=∀ (prog:Program) (w:World) (A:Around) (E:Value->Shared->Prop) (s:Shared) (Q:Value->Shared->Prop),(∀ b ob,h.get? b=some ob->s.heap.get? b=some ob) ->
 Q (.ref s.heap.objs.size) { s with heap:=s.heap.push o }->wpAny (model prog w) A (pyIter v) Q E s
theorem Vr {h:Heap} {t:Addr} {items:Array Value} (ht:h.IsTuple t items):Vd h (.ref t) { cls := .type "tuple_iterator",data := .fields #[.ref t,.int 0 0] }:=fun prog w A E s Q k q=>by
 obtain ⟨o,e,r⟩:=ht;exact wpAny_pyIter_tuple (items:=items) ⟨o,k _ _ e,r⟩ q
theorem RG (v1 v2:Value) (o1 o2:Obj) :
  Meets (Builtin.«zip.__new__» ⟨[.type "zip",v1,v2],[]⟩) (fun _ R s=>Vd s.heap v1 o1/\Vd s.heap v2 o2/\R (.ok (.ret (.ref (tM s.heap o1 o2).objs.size))) { s with heap:=jP s.heap o1 o2 }) :=
 .of_wp fun prog w A R s h=>by
  obtain ⟨hp,g,d,tk,os⟩:=s;obtain ⟨h1,h2,h⟩:=h;have hsub:=sub_zip;have p1:∀ {A':Around} {E:Value->Shared->Prop} {Q:Value->Shared->Prop},Q (.ref hp.objs.size) ⟨hp.push o1,g,d,tk,os⟩->wpAny (model prog w) A' (pyIter v1) Q E ⟨hp,g,d,tk,os⟩:=fun q=>h1 prog w _ _ ⟨hp,g,d,tk,os⟩ _ (fun _ _ e=>e) q
  have p2:∀ {A':Around} {E:Value->Shared->Prop} {Q:Value->Shared->Prop},Q (.ref (hp.push o1).objs.size) ⟨(hp.push o1).push o2,g,d,tk,os⟩->wpAny (model prog w) A' (pyIter v2) Q E ⟨hp.push o1,g,d,tk,os⟩:=fun q=>h2 prog w _ _ ⟨hp.push o1,g,d,tk,os⟩ _ (fun _ _ e=>Heap.get?_push_of_some _ e) q
  wp_walk using p1,p2
  exact ⟨_,rfl,h⟩
section
variable {prog:Program} {w:World} {A:Around} {E:Value->Shared->Prop} {s:Shared}
theorem RJ {v1 v2:Value} {o1 o2:Obj} {Q:Value->Shared->Prop} (p1:Vd s.heap v1 o1) (p2:Vd s.heap v2 o2) (f1:o1.isFreed=false) (f2:o2.isFreed=false)
  (h:∀ h',IsZip h' (s.heap.objs.size+4) (s.heap.objs.size+2) (s.heap.objs.size+3) .none->IsPair h' (s.heap.objs.size+2) (.ref s.heap.objs.size) (.ref (s.heap.objs.size+1))->IsPair h' (s.heap.objs.size+3) .none .none ->
   h'.get? s.heap.objs.size=some o1->h'.get? (s.heap.objs.size+1)=some o2->h'.objs.size=s.heap.objs.size+5->(∀ c o,s.heap.get? c=some o->h'.get? c=some o)->Q (.ref (s.heap.objs.size+4)) { s with heap:=h' }) :
  wpAny (model prog w) A (call (.type "zip") [v1,v2]) Q E s:=by
 refine callType_new F.called_zip (by decide) (F.typeCall_zip_2 _ _) (F.newCall_zip_2 _ _) (fun obj=>F.args_object_init_3 obj _ _) F.entry_zip_new (RG v1 v2 o1 o2) ⟨p1,p2,?_⟩;have z1:(s.heap.push o1).objs.size=s.heap.objs.size+1:=Heap.size_push ..;have z2:(tK s.heap o1 o2).objs.size=s.heap.objs.size+2:=by rw [Heap.size_push,z1]
 have z3:(tL s.heap o1 o2).objs.size=s.heap.objs.size+3:=by rw [Heap.size_push,z2]
 have z4:(tM s.heap o1 o2).objs.size=s.heap.objs.size+4:=by rw [Heap.size_push,z3]
 have z5:(jP s.heap o1 o2).objs.size=s.heap.objs.size+5:=by rw [Heap.size_push,z4]
 have g5:(jP s.heap o1 o2).get? (tM s.heap o1 o2).objs.size=some _:=Heap.get?_push_size _ rfl;have g4:(jP s.heap o1 o2).get? (tL s.heap o1 o2).objs.size=some _:=Heap.get?_push_of_some _ (Heap.get?_push_size _ rfl);have g3:(jP s.heap o1 o2).get? (tK s.heap o1 o2).objs.size=some _:=Heap.get?_push_of_some _ (Heap.get?_push_of_some _ (Heap.get?_push_size _ rfl));have g2:(jP s.heap o1 o2).get? (s.heap.push o1).objs.size=some o2:=Heap.get?_push_of_some _ (Heap.get?_push_of_some _ (Heap.get?_push_of_some _ (Heap.get?_push_size _ f2)));have g1:(jP s.heap o1 o2).get? s.heap.objs.size=some o1:=Heap.get?_push_of_some _ (Heap.get?_push_of_some _ (Heap.get?_push_of_some _ (Heap.get?_push_of_some _ (Heap.get?_push_size _ f1))))
 show _/\_
 rw [z2,z3,z4] at g5
 rw [z1,z2] at g3
 rw [z3] at g4
 rw [z1] at g2
 rw [z4];exact ⟨⟨_,g5,rfl⟩,h _ g5 g3 g4 g1 g2 z5 fun c o x=>Heap.get?_push_of_some _ (Heap.get?_push_of_some _ (Heap.get?_push_of_some _ (Heap.get?_push_of_some _ (Heap.get?_push_of_some _ x))))⟩
end
section
variable {X:Cx} {pins:List (Addr×Obj)} {σ:St} {H:Hp} {s:Shared} {h':Heap}
theorem Inv.vR {t':Nat} {ch:List Addr} (I:Inv X pins σ H s) (k:∀ b o,b∉ch->s.heap.get? b=some o->h'.get? b=some o) (hf:∀ b∈ch,Wm X pins H b):Inv X pins σ H { s with heap:=h',toks:=t' }:=by
 have fK:∀ b u,H b=some u->b∉ch:=fun b u e z=>by rw [(hf b z).1] at e;cases e
 refine I.step (g':=s.gens) (d':=s.drawn) (ch:=ch) (fun b hb=>?_) (fun b o _ _ hc e _=>k b o hc e) (fun b o _ _ hc e _=>⟨o.slots,k b o hc e⟩) (fun _ _ _ _ n=>n)
  (fun b o hc e=>⟨o,k b o hc e⟩) (fun _ _ e=>e) (fun _ _ _ e=>e) (fun b ps e=>⟨#[],by rw [e];simp⟩) (fun m hm=>?_) (fun b u e=>?_) I.bare
 ·obtain ⟨f0,f1,f2,f3,f4,f5⟩:=hf b hb
  exact ⟨f3,f1,f4,f5⟩
 ·obtain ⟨o,es,ep,ho,r⟩:=hm
  exact ⟨o,es,ep,k _ o (fun z=>(hf _ z).2.1 rfl) ho,r⟩
 ·refine (I.hok b u e).stay (fun c v hc q=>k c v ?_ q) (fun _ q=>q) fun _ _ q=>q
  rcases hc with z | z
  ·rw [z];exact fK b u e
  ·exact fK c _ z
theorem Inv.mF {t':Nat} {ch:List Addr} {T:Addr} {vs:List V} (I:Inv X pins σ H s) (k:∀ b o,b∉ch->s.heap.get? b=some o->h'.get? b=some o) (hf:∀ b∈ch,Wm X pins H b) (hT:s.heap.objs.size<=T)
  (new:YZ X.prog X.w (upd H T (.tup vs)) h' T (.tup vs)):Inv X pins σ (upd H T (.tup vs)) { s with heap:=h',toks:=t' }:=by
 have hn:H T=none:=I.hok.fresh hT;have fK:∀ b u,H b=some u->b∉ch:=fun b u e z=>by rw [(hf b z).1] at e;cases e
 have nT:∀ b o,s.heap.get? b=some o->b≠T:=fun b o e z=>absurd (Heap.lt_size e) (by rw [z];exact Nat.not_lt.mpr hT)
 have up:∀ b u,H b=some u->upd H T (.tup vs) b=some u:=fun b u e=>by rw [Yg (Yj e hn)];exact e
 refine I.step (g':=s.gens) (d':=s.drawn) (ch:=ch) (fun b hb=>?_) (fun b o _ _ hc e _=>k b o hc e) (fun b o _ _ hc e _=>⟨o.slots,k b o hc e⟩) (fun b o _ e n=>by rw [Yg (nT b o e)];exact n)
  (fun b o hc e=>⟨o,k b o hc e⟩) (fun b xs e=>up b _ e) (fun b o u e=>up b _ e) (fun b ps e=>⟨#[],by rw [up b _ e];simp⟩) (fun m hm=>?_) (fun b u e=>?_) I.bare
 ·obtain ⟨f0,f1,f2,f3,f4,f5⟩:=hf b hb
  exact ⟨f3,f1,f4,f5⟩
 ·obtain ⟨o,es,ep,ho,r⟩:=hm
  exact ⟨o,es,ep,k _ o (fun z=>(hf _ z).2.1 rfl) ho,r⟩
 ·by_cases hb:b=T
  ·subst hb;rw [Yc] at e;cases e;exact new
  ·rw [Yg hb] at e
   refine (I.hok b u e).stay (fun c v hc q=>k c v ?_ q) (fun c q=>up c _ q) fun c xs q=>up c _ q
   rcases hc with z | z
   ·rw [z];exact fK b u e
   ·exact fK c _ z
end
section
variable {X:Cx} {elts:List Expr} {kk:Nat} {tpos:Pos}
theorem RL (n:Nat):cO (n+4) (n+2) (n+3) n (n+1):=by
 constructor<;>(intro e;have e':@Eq Nat _ _:=e;omega)
theorem Uu {J:It} {P:Hp->Prop} {xs:List V} (hJ:X0 J P xs) {src:List (Option Nat)} {g:TG} {te:TE} {σ:St} {H1:Hp} {Q:VK} {D:Addr} (Pv:Nat->List V->St->Hp->Prop)
  (h0:Pv 0 [] (YN src σ) (upd H1 D (.lst []))) (hP:∀ i ys σ' H',Pv i ys σ' H'->P H'/\H' D=some (.lst ys))
  (mono:∀ x σ H Q Q',(∀ σ' H',Q σ' H'->Q' σ' H')->g x σ H Q->g x σ H Q')
  (step:∀ i ys σ' H' x,xs[i]?=some x->Pv i ys σ' H'->g x σ' H' fun σ2 H4=>te σ2 H4 fun y H6=>H6 D=some (.lst ys)/\ys.length<sizeLine/\Pv (i+1) (ys++[y]) σ2 (upd H6 D (.lst (ys++[y]))))
  (fin:∀ ys σ' H',Pv xs.length ys σ' H'->Q (.ref D) H'):LC src J g X9 te σ H1 Q D :=
 GX hJ Pv h0 hP (fun i ys σ' H' x hx p=>by
  refine mono _ _ _ _ _ ?_ (step i ys σ' H' x hx p);intro σ2 H4 q;unfold X9;dsimp only;rw [if_pos rfl];exact q) fin
theorem Wp (i:Nat):∀ x σ H Q Q',(∀ σ' H',Q σ' H'->Q' σ' H')->YT i x σ H Q->YT i x σ H Q':=fun _ _ _ _ _ h q=>h _ _ q
end
structure Gx where
 P:Program
 w:World
 K:W.Frag
 mg:Str->Option Value
 base:Heap
def Cx.gx (X:Cx):Gx:=⟨X.prog,X.w,X.K,X.mg,X.base⟩
def Gx.Raw (g:Gx) (x qual:Str) (st:Stmt) (ps:List Str):Prop:=∃ f fd,eF g.K x qual st f fd/\Xn g.K fd ps []/\g.mg x=some (.ref f)
def Gx.Fn (g:Gx) (k:Nat) (x:Str) (ps:List Str) (sp:Sp):Prop:=∃ f fd,aY g.P g.w g.K g.mg g.base cB k f fd ps sp/\Xn g.K fd ps []/\W.keepIn g.K (.ref f)=true/\g.mg x=some (.ref f)
def Gx.aW (g:Gx) (C:Addr) (m qual:Str) (st:Stmt) (ps:List Str):Prop:=∃ f fd,eF g.K m qual st f fd/\Xn g.K fd ps []/\Meth g.K C m f
def Gx.Me (g:Gx) (k:Nat) (C:Addr) (m:Str) (ps:List Str) (sp:Sp):Prop:=∃ f fd,aY g.P g.w g.K g.mg g.base cB k f fd ps sp/\Xn g.K fd ps []/\Meth g.K C m f
def Gx.cY (g:Gx) (x:Str) (C:Addr) (qual:Str) (st:Stmt) (ps:List Str):Prop:=∃ f fd,eF g.K "__init__" qual st f fd/\Xn g.K fd ps []/\Mk g.K C f/\g.mg x=some (.ref C)
def Gx.Ma (g:Gx) (k:Nat) (x:Str) (C:Addr) (ps:List Str) (sp:Sp):Prop:=∃ f fd,aY g.P g.w g.K g.mg g.base cB k f fd ps sp/\Xn g.K fd ps []/\Mk g.K C f/\g.mg x=some (.ref C)
abbrev Gx.cx (g:Gx) (N:List Str) (qual:Str) (st:Stmt) (f:Addr) (cdv:Value) (A:Around) (outer:List Env) (s:Shared) (H:Hp) (E:XK):Cx:=(WE cB g.P g.w g.K g.mg g.base N qual (Yi st) f cdv A outer s H E).cN
def Uc (g:Gx) (k:Nat) (N:List Str) (qual:Str) (st:Stmt) (sp:Sp):Prop:=∀ (f:Addr) (cdv:Value) (A:Around) (outer:List Env) (s:Shared) (H:Hp) (vs:List V) (Q:VK) (E:XK),aP k (g.cx N qual st f cdv A outer s H E).A->sp vs H Q E ->
 ∃ t,cM (g.cx N qual st f cdv A outer s H E) (YY st) t/\t { nx:=fun _ H'=>Q .non H',rt:=Q } (XA N vs) H
section
variable {g:Gx} {k:Nat} {x qual m:Str} {st:Stmt} {N ps:List Str} {sp:Sp} {C:Addr}
theorem Gx.Raw.fn (R:g.Raw x qual st ps) (S:aH N ps (Yi st)) (len:∀ vs H Q E,sp vs H Q E->vs.length=ps.length) (b:Uc g k N qual st sp):g.Fn (k+1) x ps sp:=by
 obtain ⟨f,fd,F,bd,hm⟩:=R;exact ⟨f,fd,F.ok S len fun cdv A outer s H vs Q E hr h=>b f cdv A outer s H vs Q E hr h,bd,F.kp,hm⟩
theorem Gx.aW.me (R:g.aW C m qual st ps) (S:aH N ps (Yi st)) (len:∀ vs H Q E,sp vs H Q E->vs.length=ps.length) (b:Uc g k N qual st sp):g.Me (k+1) C m ps sp:=by
 obtain ⟨f,fd,F,bd,hm⟩:=R;exact ⟨f,fd,F.ok S len fun cdv A outer s H vs Q E hr h=>b f cdv A outer s H vs Q E hr h,bd,hm⟩
theorem Gx.cY.ma (R:g.cY x C qual st ps) (S:aH N ps (Yi st)) (len:∀ vs H Q E,sp vs H Q E->vs.length=ps.length) (b:Uc g k N qual st sp):g.Ma (k+1) x C ps sp:=by
 obtain ⟨f,fd,F,bd,hm,hg⟩:=R;exact ⟨f,fd,F.ok S len fun cdv A outer s H vs Q E hr h=>b f cdv A outer s H vs Q E hr h,bd,hm,hg⟩
theorem Gx.Fn.mono {j:Nat} (F:g.Fn j x ps sp) (h:j<=k):g.Fn k x ps sp:=by
 obtain ⟨f,fd,F,r⟩:=F;exact ⟨f,fd,F.mono h,r⟩
theorem Gx.Me.mono {j:Nat} (F:g.Me j C m ps sp) (h:j<=k):g.Me k C m ps sp:=by
 obtain ⟨f,fd,F,r⟩:=F;exact ⟨f,fd,F.mono h,r⟩
theorem Gx.Raw.none (R:g.Raw x qual st ps) (no:∀ vs H Q E,¬ sp vs H Q E):g.Fn k x ps sp:=by
 obtain ⟨f,fd,F,bd,hm⟩:=R;exact ⟨f,fd,⟨fun vs H Q E h=>absurd h (no vs H Q E),fun A outer s H args us vs Q E _ _ _ _ h=>absurd h (no vs H Q E)⟩,bd,F.kp,hm⟩
theorem Gx.aW.none (R:g.aW C m qual st ps) (no:∀ vs H Q E,¬ sp vs H Q E):g.Me k C m ps sp:=by
 obtain ⟨f,fd,F,bd,hm⟩:=R;exact ⟨f,fd,⟨fun vs H Q E h=>absurd h (no vs H Q E),fun A outer s H args us vs Q E _ _ _ _ h=>absurd h (no vs H Q E)⟩,bd,hm⟩
end
section
variable {g:Gx} {X:Cx} {k j:Nat} {x m:Str} {ps:List Str} {sp:Sp} {C:Addr} {e o:Expr} {es:List Expr} {t:TA} {ta:TE} {p pos apos:Pos}
theorem Yv (F:g.Fn j x ps sp) (hr:aP k X.A) (ha:PA X (e::es) t) (hj:j<=k) (hX:X.gx=g) (hg:Gl X x) (hdb:(x==("__debug__":Str))=false)
  (he:starEach (e::es) X.env=(false,eval e X.env)::starEach es X.env) (hpl:(backTo pos (starEach es X.env)).any (·.1)=false):PE X (.Call (.Name x p) (e::es) [] pos) (WY sp [] E0 t):=by
 subst hX;obtain ⟨f,fd,F,b,kp,hm⟩:=F;exact Gq F (hr.mono hj) hg hm kp b .nil WI ha hdb he hpl
theorem Wy {pl:Sem Bool} (F:g.Me j C m ps sp) (c:Cls g.K C) (hr:aP k X.A) (ho:PE X o ta) (ha:PA X (e::es) t) (hj:j<=k) (hX:X.gx=g)
  (hst:starEach (e::es) X.env=(false,eval e X.env)::starEach es X.env) (hpl:(backTo pos (starEach es X.env)).any (·.1)=false)
  (ht:eval (.Call (.Attribute o m apos) (e::es) [] pos) X.env=(do
   let ov <- eval o X.env
   standAt apos.atName
   let (f,first) <- holding [ov] (getMethod ov m pl)
   callWith pos f first (backTo pos (starEach (e::es) X.env)) (backToKw pos (keywordEach [] X.env)))):PE X (.Call (.Attribute o m apos) (e::es) [] pos) (QA C m sp [] E0 ta t):=by
 subst hX;obtain ⟨f,fd,F,b,hm⟩:=F;exact Pj ho c hm F (hr.mono hj) b .nil WI ha hst hpl ht
theorem Uv (F:g.Ma j x C ps sp) (hr:aP k X.A) (ha:PA X (e::es) t) (hj:j+1<=k) (hX:X.gx=g) (hg:Gl X x) (hdb:(x==("__debug__":Str))=false)
  (he:starEach (e::es) X.env=(false,eval e X.env)::starEach es X.env) (hpl:(backTo pos (starEach es X.env)).any (·.1)=false):PE X (.Call (.Name x p) (e::es) [] pos) (QB C sp [] E0 t):=by
 subst hX;obtain ⟨f,fd,F,b,M,hm⟩:=F;exact Pn M F (hr.mono hj) hg hm b .nil WI ha hdb he hpl
theorem YH {id:String} {r:List V->Hp->VK->Prop} (hm:g.mg x=none) (hc:XH X (.builtin id) r) (ha:PA X (e::es) t) (hv:bootBuiltins x=some (.builtin id)) (hX:X.gx=g) (hg:Gl X x) (hn:x≠"__name__") (hdb:(x==("__debug__":Str))=false)
  (he:starEach (e::es) X.env=(false,eval e X.env)::starEach es X.env) (hpl:(backTo pos (starEach es X.env)).any (·.1)=false):PE X (.Call (.Name x p) (e::es) [] pos) (mq r t):=by
 subst hX;exact Pq hc hg hm hv ha hn hdb he hpl
theorem XI {T:String} {r:List V->Hp->VK->Prop} (hm:g.mg x=none) (hc:XH X (.type T) r) (ha:PA X (e::es) t) (hv:bootBuiltins x=some (.type T)) (hX:X.gx=g) (hg:Gl X x) (hn:x≠"__name__") (hdb:(x==("__debug__":Str))=false)
  (he:starEach (e::es) X.env=(false,eval e X.env)::starEach es X.env) (hpl:(backTo pos (starEach es X.env)).any (·.1)=false):PE X (.Call (.Name x p) (e::es) [] pos) (mq r t):=by
 subst hX;exact Pr hc hg hm hv ha hn hdb he hpl
theorem Xq {T:String} (hm:g.mg x=none) (hv:bootBuiltins x=some (.type T)) (hX:X.gx=g) (hg:Gl X x) (hn:x≠"__name__") (hdb:(x==("__debug__":Str))=false):PE X (.Name x pos) (tC (.ty T)):=by
 subst hX;exact Oa hg hm hv rfl hn hdb
end
def S (l:List Nat):Str:=⟨l.toArray⟩
section
variable {K:W.Frag} {h:Heap} {mg:Str->Option Value} {P:Program} {w:World} {base:Heap} {f C:Addr} {x qual m:Str} {st:Stmt} {ps:List Str} {oc kV dc pm cd ct:Value} {od an:Option Addr} {sl:Array (Option Value)}
theorem YI (X:K.In h) (G:h.Ns mainGlobals mg) (ps:List Str)
  (a:PySem.W.nsIn K mainGlobals x=some (some (.ref f))) (l:K.lookup f=some ⟨oc,od,.func (PySem.W.fnOf x x (Xf st) (YY st) (Yi st) .none kV dc pm an cd ct),sl⟩) (c:PySem.W.codeIn K cd x=true) (k:PySem.W.keepIn K (.ref f)=true)
  (b:∀ (kV doc pm:Value) (an:Option Addr) (cdv ct:Value) (us:List Value),us.length=ps.length->bindArgs (PySem.W.fnOf x x (Xf st) (YY st) (Yi st) .none kV doc pm an cdv ct) ⟨us,[]⟩=pure (ps.zip us)) :
  ∀ P w base,(Gx.mk P w K mg base).Raw x x st ps:=fun P w base =>
 have F:=Vb (st:=st) l c k
 ⟨f,_,F,F.binds b,PySem.W.mg_of X G a⟩
theorem Xt (X:K.In h) (G:h.Ns mainGlobals mg) (ps:List Str)
  (a:PySem.W.findIn K (.ref C) m=some (some (.ref f))) (i:PySem.W.isFn K (.ref f)=true) (l:K.lookup f=some ⟨oc,od,.func (PySem.W.fnOf m qual (Xf st) (YY st) (Yi st) .none kV dc pm an cd ct),sl⟩) (c:PySem.W.codeIn K cd qual=true) (k:PySem.W.keepIn K (.ref f)=true)
  (b:∀ (kV doc pm:Value) (an:Option Addr) (cdv ct:Value) (us:List Value),us.length=ps.length->bindArgs (PySem.W.fnOf m qual (Xf st) (YY st) (Yi st) .none kV doc pm an cdv ct) ⟨us,[]⟩=pure (ps.zip us)) :
  ∀ P w base,(Gx.mk P w K mg base).aW C m qual st ps:=fun P w base =>
 have F:=Vb (st:=st) l c k
 ⟨f,_,F,F.binds b,⟨a,i,k⟩⟩
theorem Ve (X:K.In h) (G:h.Ns mainGlobals mg) (ps:List Str) (aC:PySem.W.nsIn K mainGlobals x=some (some (.ref C))) (mk:PySem.W.makesIn K C=true) (kc:PySem.W.keepIn K (.ref C)=true)
  (a:PySem.W.findIn K (.ref C) "__init__"=some (some (.ref f))) (i:PySem.W.isFn K (.ref f)=true) (l:K.lookup f=some ⟨oc,od,.func (PySem.W.fnOf "__init__" qual (Xf st) (YY st) (Yi st) .none kV dc pm an cd ct),sl⟩) (c:PySem.W.codeIn K cd qual=true) (k:PySem.W.keepIn K (.ref f)=true)
  (b:∀ (kV doc pm:Value) (an:Option Addr) (cdv ct:Value) (us:List Value),us.length=ps.length->bindArgs (PySem.W.fnOf "__init__" qual (Xf st) (YY st) (Yi st) .none kV doc pm an cdv ct) ⟨us,[]⟩=pure (ps.zip us)) :
  ∀ P w base,(Gx.mk P w K mg base).cY x C qual st ps:=fun P w base =>
 have F:=Vb (st:=st) l c k
 ⟨f,_,F,F.binds b,⟨mk,a,i,kc⟩,PySem.W.mg_of X G aC⟩
end
def GZ (K:W.Frag) (mg:Str->Option Value) (st:Stmt) (x n:Str):Prop:=∃ f fd,eF K n n st f fd/\(∀ (s:Shared) (u:Value),BindsTo s fd ⟨[u],[]⟩ [(x,u)])/\mg n=some (.ref f)
theorem RM {K:W.Frag} {h:Heap} {mg:Str->Option Value} {f:Addr} {x n:Str} {st:Stmt} {oc kV dc pm cd ct:Value} {od an:Option Addr} {sl:Array (Option Value)} (X:K.In h) (G:h.Ns mainGlobals mg)
  (a:W.nsIn K mainGlobals n=some (some (.ref f))) (l:K.lookup f=some ⟨oc,od,.func (W.fnOf n n (Xf st) (YY st) (Yi st) .none kV dc pm an cd ct),sl⟩) (c:W.codeIn K cd n=true) (k:W.keepIn K (.ref f)=true)
  (b:∀ (kV doc pm:Value) (an:Option Addr) (cdv ct:Value) (s:Shared) (u:Value),BindsTo s (W.fnOf n n (Xf st) (YY st) (Yi st) .none kV doc pm an cdv ct) ⟨[u],[]⟩ [(x,u)]):GZ K mg st x n :=
 ⟨f,_,Vb (st:=st) l c k,b kV dc pm an cd ct,W.mg_of X G a⟩
section
variable {X:Cx}
theorem G3 {a:Int} {m:Nat} (h:a.natAbs<2^m):Builtin.Int.intBits a<=m:=by
 unfold Builtin.Int.intBits
 split
 ·omega
 ·rename_i h0
  have h0:a.natAbs≠0:=by simpa using h0
  have:=(Nat.log2_lt h0).mpr h;omega
def xH (i j:Int):Prop:=∃ m n:Nat,i.natAbs<2^m/\j.natAbs<2^n/\m+n<=100000000
theorem xH.ok {i j:Int} (h:xH i j):IntMulOk i j:=by
 obtain ⟨m,n,h1,h2,h3⟩:=h;exact IntMulOk.of_le (G3 h1) (G3 h2) (by omega)
def G4 (i j:Int):Prop:=0<j/\j.natAbs<2^9000
theorem Wa:bI X (binaryOp .FloorDiv) (rI G4 fun i j => .int (i / j)):=mj fun i j _ _ _ _ _ hc q=>by
 have h1:(0:Int)<j:=hc.1;have h2:=hc.2;have h3:j.natAbs≠0:=by omega
 exact floordiv_int (by omega) (by rw [Int.fdiv_eq_ediv_of_nonneg i (by omega)];exact q) (.inl (PyProof.noPylong_of_log2 ((Nat.log2_lt h3).mpr h2)))
theorem XV {j:Int} (h:0<j) (h2:j<1073741824) {i:Int}:G4 i j:=⟨h,Nat.lt_of_lt_of_le (show j.natAbs<2^30 by omega) (Nat.pow_le_pow_right (by decide) (by decide))⟩
end
theorem G5 {CX:dH} {P:Program} {w:World} {K:W.Frag} {mg:Str->Option Value} {base:Heap} {N:List Str} {qual:Str} {scope:Scope} {f:Addr} {cd:Value} {A:Around} {outer:List Env} {s:Shared} {H:Hp} {E:XK} :
  (WE CX P w K mg base N qual scope f cd A outer s H E).K=K:=rfl
theorem G6 {X:Cx}:X.cN.K=X.K:=rfl
section
variable {g:TG} {tb:TS} {D:Ends} {σ:St} {H:Hp}
theorem W6 {ta:TA} {n:Nat} (Pv:Nat->St->Hp->Prop) (ha:∀ R:List V->Hp->Prop,R [.int n] H->ta σ H R) (hn:n<2^62) (h0:Pv 0 σ H)
  (hs:∀ i σ H,i<n->Pv i σ H->g (.int i) σ H fun σ2 H2=>tb { D with nx:=Pv (i+1),ct:=Pv (i+1),bk:=D.nx } σ2 H2) (hd:∀ σ H,Pv n σ H->D.nx σ H):Vj (Qz ta) g tb D σ H:=by
 refine ha _ ⟨n,rfl,by omega,by omega,?_⟩;refine Oq (lo:=0) (n:=n) Pv h0 (fun i σ H hi p=>?_) hd;have e:(0:Int)+i=i:=by omega
 rw [e];exact hs i σ H hi p
end
section
variable {X:Cx}
theorem Qp (hc:X.calm=true:=by rfl):XH X (.builtin "sum") (fun xs H Q=>∃ (p:Addr) (ns:List Int),xs=[.ref p]/\aG X.K H p (ns.map V.int)/\Q (.int ns.sum) H):=by
 intro pins s σ H xs us Q I r h;obtain ⟨p,ns,rfl,hq,q⟩:=h;obtain ⟨u,rfl,rx⟩:=WH r
 cases rx
 obtain ⟨its,r',pl,hz⟩:=I.list hq;have hi:=PB r';have hl:=pl.isList;obtain ⟨xs,ex⟩:=hi.allInts.items;rw [ex] at hl
 have e:preSum (numAt xs) xs.size=ns.sum:=by
  have h1:=nums_intItems (xs:=xs);rw [<- ex] at h1
  have h2:=hi.numsOf;rw [preSum_eq,List.take_of_length_le (by simp)];rw [<- h1];exact congrArg List.sum h2
 refine sum_intListG (I.ok.hd hc) hl fun h' tk t' hk=>?_
 rw [e];exact ⟨.int _,H,I.kept (t':=tk) hk,⟨t',rfl⟩,q⟩
end
def Ite (G:Hp->List V->Prop):It :=
 ⟨fun i H=>∃ xs x,G H xs/\xs[i]?=some x,fun i H v H'=>∃ T,v = .ref T/\H T=none/\∀ xs x,G H xs->xs[i]?=some x->H'=upd H T (.tup [.int i,x]),fun i H=>∃ xs,G H xs/\xs.length<=i⟩
theorem RN {P:Program} {w:World} {K:W.Frag} {elts:List Expr} {kk:Nat} {pos:Pos} {a e it:Addr} (ne:e≠it) (na:a≠e/\a≠it) :
  Turn P w K (.Tuple elts kk pos) (Ite fun H xs=>aG K H a xs) [e,it] e (fun i h=>(∃ old,IsEnum h e it i old)/\h.IsListIter it a i) where
 mem:=by simp
 obj:=fun i h ⟨⟨old,he⟩,hi⟩ c hc=>by
  simp only [List.mem_cons,List.not_mem_nil,or_false] at hc;rcases hc with rfl | rfl
  ·exact ⟨_,he,fun v z=>by cases z⟩
  ·obtain ⟨o,q,_,d⟩:=hi
   exact ⟨o,q,fun v z=>by rw [d] at z;cases z⟩
 keep:=fun i h h' ⟨⟨old,he⟩,hi⟩ q=>⟨⟨old,q e (by simp) _ he⟩,hi.at fun o z=>q it (by simp) o z⟩
 item:=by
  intro X hP hw hK hc i pins s σ H E I hf ⟨⟨old,he⟩,hi⟩ hg;subst hP hw hK;obtain ⟨xs,x,g1,hx⟩:=hg;obtain ⟨its,rv,pl,hz⟩:=I.list g1;obtain ⟨u,hu,ru⟩:=rv.get hx;refine wpAny_pyNext_enum_item he hi pl.isList (x:=u) (by simpa using hu) ne fun h1 ho hi1 hT hsz kp=>?_
  refine ⟨_,rfl,?_⟩;refine wpAny_letOwnedTupleGo_enum (s:={ s with heap:=h1,toks:=s.toks+1 }) ho fun h2 he2 sb=>?_
  have elt:e<s.heap.objs.size:=Heap.lt_size he;have jQ:∀ c o,c∉[e,it]->s.heap.get? c=some o->h2.get? c=some o:=fun c o hm z=>by
   have c1:c≠e:=fun q=>hm (by simp [q])
   have c2:c≠it:=fun q=>hm (by simp [q])
   exact sb.extBut c o c1 (kp c o c1 c2 z)
  have hT2:h2.get? s.heap.objs.size=some { cls := .type "tuple",data := .seq #[.int i s.toks,u] }:=sb.extBut _ _ (Nat.ne_of_gt elt) hT;have I':=I.mF (t':=s.toks+1) (h':=h2) (T:=s.heap.objs.size) (vs:=[.int i,x]) jQ hf (Nat.le_refl _) (show YZ X.prog X.w _ h2 _ (.tup [.int i,x]) from ⟨by show 2<=sizeLine;decide,[.int i s.toks,u],.cons ⟨_,rfl⟩ (.cons ru .nil),_,hT2,rfl,_,rfl⟩);have fresh:H s.heap.objs.size=none:=I.hok.fresh (Nat.le_refl _);refine ⟨.ref s.heap.objs.size,_,I',rfl,⟨_,rfl,fresh,fun xs' x' xJ hx'=>?_⟩,⟨⟨_,by simpa using he2⟩,hi1.at fun o z=>sb.extBut _ _ (Ne.symm ne) z⟩,fun c hm=>?_⟩
  ·rw [I.jK xJ g1,hx] at hx'
   cases hx'
   rfl
  ·have h0:=(hf c hm).1
   have xK:c<s.heap.objs.size:=by
    simp only [List.mem_cons,List.not_mem_nil,or_false] at hm;rcases hm with rfl | rfl
    ·exact elt
    ·obtain ⟨o,q,_⟩:=hi;exact Heap.lt_size q
   rw [Yg (Nat.ne_of_lt xK)];exact h0
 done:=by
  intro X hP hw hK hc i pins s σ H E I hf ⟨⟨old,he⟩,hi⟩ hg;subst hP hw hK;obtain ⟨xs,g1,hx⟩:=hg;obtain ⟨its,rv,pl,hz⟩:=I.list g1;have hl:=rv.length;obtain ⟨f0,f1,f2,f3,f4,f5⟩:=hf it (by simp);exact wpAny_pyNext_enum_end (I.ok.hd hc) he hi pl.isList (by simp;omega) fun h' eb=>⟨rfl,I.turned (t':=s.toks) (fun b o hb z=>eb b o hb z) f0 f1 f3 f4 f5⟩
 self:=fun _ _ _ _ _ ⟨⟨_,he⟩,_⟩ h=>wpAny_pyIter_enum he h
section
variable {X:Cx} {elts:List Expr} {kk:Nat} {tpos:Pos}
def G7 (K:W.Frag) (ta:TA):TI:=fun σ H R=>ta σ H fun vs H1=>∃ a xs,vs=[.ref a]/\aG K H1 a xs/\R (Ite fun H xs=>aG K H a xs) H1
theorem Ud {a:Expr} {ta:TA} {p pos:Pos} (hg:Gl X "enumerate") (hm:X.mg "enumerate"=none) (ha:PA X [a] ta) (hs:starEach [a] X.env=[(false,eval a X.env)]) :
  PI X (.Tuple elts kk tpos) (.Call (.Name "enumerate" p) [a] [] pos) (G7 X.K ta):=by
 intro pins s σ H R I h;refine Call_ (X1 I hg hm boot_enumerate (PyProof.Rows.callWith_type1 (aL (ha pos pins s σ H _ I h) fun us s1 ⟨vs,H1,I1,r1,q1⟩=>?_) hs rfl));obtain ⟨x,xs,e,hx,q⟩:=q1;subst e;obtain ⟨u,rfl,ru⟩:=WH r1
 cases ru
 obtain ⟨i1,_,pl,_⟩:=I1.list hx;have l1:x<s1.heap.objs.size:=by obtain ⟨_,e,_⟩:=pl.isList;exact Heap.lt_size e
 refine call_enumerate_list pl.isList fun h' he hi hsz keep=>?_
 refine wpAny_pyIter_enum he ?_;have I2:Inv X pins σ H1 { s1 with heap:=h' }:=I1.kept (t':=s1.toks) keep;have l1':@LT.lt Nat _ x s1.heap.objs.size:=l1;refine ⟨_,[s1.heap.objs.size+1,s1.heap.objs.size],_,_,H1,rfl,I2,RN (by intro z;have z':@Eq Nat _ _:=z;omega) ⟨by intro z;have z':@Eq Nat _ _:=z;omega,by intro z;have z':@Eq Nat _ _:=z;omega⟩,⟨⟨_,he⟩,hi⟩,fun c hc=>?_,q⟩;have hle:s1.heap.objs.size<=c:=by
  simp only [List.mem_cons,List.not_mem_nil,or_false] at hc;rcases hc with e | e<;>(have e':@Eq Nat _ _:=e;show @LE.le Nat _ s1.heap.objs.size c;omega)
 exact I1.eV hle (I1.hok.fresh hle)
end
mutual
inductive Den (K:W.Frag) (H:Hp):V->PyData->Prop
 | non:Den K H .non .none
 | bl (b:Bool):Den K H (.bl b) (.bool b)
 | int (i:Int):Den K H (.int i) (.int i)
 | str (x:Str) (h:PyData.strOk x=true):Den K H (.str x) (.str x)
 | lst {a:Addr} {vs:List V} {ds:List PyData}:aG K H a vs->cC K H vs ds->Den K H (.ref a) (.list ds)
 | tup {a:Addr} {vs:List V} {ds:List PyData}:aJ K H a vs->cC K H vs ds->Den K H (.ref a) (.tuple ds)
inductive cC (K:W.Frag) (H:Hp):List V->List PyData->Prop
 | nil:cC K H [] []
 | cons {v:V} {d:PyData} {vs:List V} {ds:List PyData}:Den K H v d->cC K H vs ds->cC K H (v::vs) (d::ds)
end
mutual
theorem Den.keep {K:W.Frag} {H H':Hp} (e:Yf H H'):∀ {v:V} {d:PyData},Den K H v d->Den K H' v d
 | _,_,.non => .non
 | _,_,.bl b => .bl b
 | _,_,.int i => .int i
 | _,_,.str x h => .str x h
 | _,_,.lst h hs => .lst (e.seq h) (hs.keep e)
 | _,_,.tup h hs => .tup (e.tup h) (hs.keep e)
theorem cC.keep {K:W.Frag} {H H':Hp} (e:Yf H H'):∀ {vs:List V} {ds:List PyData},cC K H vs ds->cC K H' vs ds
 | _,_,.nil => .nil
 | _,_,.cons h hs => .cons (h.keep e) (hs.keep e)
end
mutual
theorem Den.lay {K:W.Frag} {H:Hp}:∀ {v:V} {d:PyData},Den K H v d->d.canLay0=true
 | _,_,.non=>rfl
 | _,_,.bl b=>rfl
 | _,_,.int i=>rfl
 | _,_,.str x h=>by simpa [PyData.canLay0] using h
 | _,_,.lst _ hs=>by rw [PyData.canLay0];exact hs.lay
 | _,_,.tup _ hs=>by rw [PyData.canLay0];exact hs.lay
theorem cC.lay {K:W.Frag} {H:Hp}:∀ {vs:List V} {ds:List PyData},cC K H vs ds->PyData.canLayAll0 ds=true
 | _,_,.nil=>rfl
 | _,_,.cons h hs=>by rw [PyData.canLayAll0,h.lay,hs.lay];rfl
end
theorem cC.ints {K:W.Frag} {H:Hp}:∀ ns:List Int,cC K H (ns.map V.int) (ns.map PyData.int)
 | [] => .nil
 | n::ns => .cons (.int n) (.ints ns)
section
variable {X:Cx}
mutual
theorem Den.reads {pins:List (Addr×Obj)} {σ:St} {H:Hp} {s:Shared} (I:Inv X pins σ H s):∀ {v:V} {d:PyData} {u:Value},Den X.K H v d->YF v u->∃ as,Reads s.heap u d as
 | _,_,u,.non,r=>by cases (show u = .none from r);exact ⟨_,.none⟩
 | _,_,u,.bl b,r=>by cases (show u = .bool b from r);exact ⟨_,.bool b⟩
 | _,_,u,.int i,r=>by obtain ⟨t,rfl⟩:=r;exact ⟨_,.int i t⟩
 | _,_,u,.str x h,r=>by obtain ⟨t,rfl⟩:=r;exact ⟨_,.str x t⟩
 | _,_,u,.lst (a:=a) h hs,r=>by
  cases (show u = .ref a from r)
  obtain ⟨its,rv,pl,hz⟩:=I.list h;obtain ⟨as,ra⟩:=hs.reads I rv;obtain ⟨o,e1,e2,n,e3⟩:=pl.isList;exact ⟨_,.list e1 e2 e3 (by simpa using ra)⟩
 | _,_,u,.tup (a:=a) h hs,r=>by
  cases (show u = .ref a from r)
  obtain ⟨its,rv,pl,hz⟩:=I.tuple h;obtain ⟨as,ra⟩:=hs.reads I rv;obtain ⟨o,e1,e2,n,e3⟩:=(show s.heap.IsTuple a its.toArray from pl);exact ⟨_,.tuple e1 e2 e3 (by simpa using ra)⟩
theorem cC.reads {pins:List (Addr×Obj)} {σ:St} {H:Hp} {s:Shared} (I:Inv X pins σ H s):∀ {vs:List V} {ds:List PyData} {us:List Value},cC X.K H vs ds->Yw vs us->∃ as,ReadsAll s.heap us ds as
 | _,_,us,.nil,r=>by cases r;exact ⟨_,.nil⟩
 | _,_,us,.cons h hs,r=>by
  cases r with
  | cons r rr =>
   obtain ⟨as,ra⟩:=h.reads I r;obtain ⟨bs,rb⟩:=hs.reads I rr;exact ⟨_,.cons ra rb⟩
end
theorem Vy (hu:X.A.units+64<cLine):bI X (compareOp .Eq) (fun x y H Q=>∃ d e,Den X.K H x d/\Den X.K H y e/\d.depth<=64/\Q (.bl (PyData.eqv d e)) H):=by
 intro pins s σ H x y v u Q I rx ry h;obtain ⟨d,e,hd,he,dp,q⟩:=h;obtain ⟨as,ra⟩:=hd.reads I rx;obtain ⟨bs,rb⟩:=he.reads I ry;exact SeqAt.rcAt_reads ra rb hd.lay he.lay (by omega) _ _ _ _ ⟨.bl _,H,I,rfl,q⟩
theorem G8 (hu:X.A.units+64<cLine):bI X (compareOp .NotEq) (fun x y H Q=>∃ d e,Den X.K H x d/\Den X.K H y e/\d.depth<=64/\Q (.bl (!PyData.eqv d e)) H):=by
 intro pins s σ H x y v u Q I rx ry h;obtain ⟨d,e,hd,he,dp,q⟩:=h;obtain ⟨as,ra⟩:=hd.reads I rx;obtain ⟨bs,rb⟩:=he.reads I ry;exact SeqAt.compareNe_reads ra rb hd.lay he.lay (by omega) ⟨.bl _,H,I,rfl,q⟩
end
theorem Uw:∀ ns:List Int,PyData.depthAll (ns.map PyData.int)<=1
 | []=>by simp [PyData.depthAll]
 | n::ns=>by
  have:=Uw ns;rw [List.map_cons,PyData.depthAll,PyData.depth];omega
theorem XF {α:Type} {l:List α} {i:Nat} {x:α} (h:l[i]?=some x):l.take (i+1)=l.take i++[x]:=by
 obtain ⟨hi,hc⟩:=List.getElem?_eq_some_iff.mp h;rw [List.take_succ_eq_append_getElem hi,hc]
theorem G9 {J:It} {P:Hp->Prop} {xs:List V} (hJ:X0 J P xs) {src:List (Option Nat)} {te:TE} {σ:St} {H1:Hp} {Q:VK} {D:Addr} (ys:List V) (hP:∀ H',Yf H1 H'->P H') (hD:H1 D=none) (hl:ys.length=xs.length) (hlen:xs.length<=100000)
  (step:∀ (i:Nat) x y H',xs[i]?=some x->ys[i]?=some y->Yf H1 H'->∀ R:VK,(∀ aO,Yf H' aO->R y aO)->te (some x::YN src σ) H' R)
  (fin:∀ H',Yf H1 H'->H' D=some (.lst ys)->Q (.ref D) H'):LC (none::src) J (YT 0) X9 te σ H1 Q D:=by
 have h6:100000<sizeLine:=by decide
 refine Uu hJ (fun i zs σ' H'=>zs=ys.take i/\(∃ o,σ'=o::YN src σ)/\Yf H1 H'/\H' D=some (.lst zs)) ⟨by simp,⟨none,rfl⟩,.aF hD _,Yc⟩ (fun i zs σ' H' p=>⟨hP _ p.2.2.1,p.2.2.2⟩) (Wp 0) ?_ ?_
 ·rintro i zs σ' H' x hx ⟨rfl,⟨o,rfl⟩,sm,hd⟩
  have hi:=(List.getElem?_eq_some_iff.mp hx).1;have hy:ys[i]?=some (ys[i]'(by omega)):=List.getElem?_eq_getElem _
  show te (some x::YN src σ) H' _
  refine step i x _ H' hx hy sm _ fun aO s2=>⟨s2 _ _ hd,?_,(XF hy).symm,⟨_,rfl⟩,.bT hD (sm.trans s2) _,Yc⟩
  rw [List.length_take];omega
 ·rintro zs σ' H' ⟨rfl,_,sm,hd⟩
  rw [<- hl,List.take_length] at hd
  exact fin H' sm hd
end L2
namespace L2
open PySem PySem.Spec PyProof.Rows
section
variable {a b c d e r:TS} {D:Ends} {σ:St} {H:Hp} (M:St->Hp->Prop) (h1:∀ σ H,M σ H->r D σ H)
include h1
end
theorem RP (i j:Int):sH (.int i) (.int j)=true:=rfl
theorem RQ (i j:Str):sH (.str i) (.str j)=true:=rfl
theorem RT {α:Type} (xs:List α) (i j:Nat):(xs.drop (min i xs.length)).take (min j xs.length - min i xs.length)=(xs.drop i).take (j - i):=by
 by_cases hi:i<=xs.length
 ·rw [Nat.min_eq_left hi]
  by_cases hj:j<=xs.length
  ·rw [Nat.min_eq_left hj]
  ·rw [Nat.min_eq_right (by omega),List.take_of_length_le (by rw [List.length_drop];omega),List.take_of_length_le (by rw [List.length_drop];omega)]
 ·rw [List.drop_of_length_le (by omega),List.drop_of_length_le (show xs.length<=i by omega)]
  simp
theorem WM (xs:List V) (j:Nat):WS xs none (some (j:Int))=xs.take j:=by
 unfold WS;rw [HT.mz,HT.jN,List.drop_zero,Nat.sub_zero];have:=RT xs 0 j;simpa using this
theorem WN (xs:List V) (i:Nat):WS xs (some (i:Int)) none=xs.drop i:=by
 unfold WS;rw [HT.mz,HT.jN];by_cases hi:i<=xs.length
 ·rw [Nat.min_eq_left hi,List.take_of_length_le (by rw [List.length_drop];omega)]
 ·rw [List.drop_of_length_le (by omega),List.drop_of_length_le (show xs.length<=i by omega)]
  simp
theorem Wb {α:Type} {c:TT} {tb:TS} {D:Ends} {σ:St} {H:Hp} (Pv:α->St->Hp->Prop) (cond:α->Bool) (μ:α->Nat) (a₀:α) (h0:Pv a₀ σ H)
  (hc:∀ a σ H,Pv a σ H->∀ R:Bool->Hp->Prop,(∀ H',Pv a σ H'->R (cond a) H')->c σ H R)
  (hb:∀ a σ H,Pv a σ H->cond a=true->tb { D with nx:=fun σ' H'=>∃ a',Pv a' σ' H'/\μ a'<μ a,ct:=fun σ' H'=>∃ a',Pv a' σ' H'/\μ a'<μ a,bk:=D.nx } σ H)
  (hd:∀ a σ H,Pv a σ H->cond a=false->D.nx σ H):Gb c tb D σ H:=by
 refine ⟨fun m σ H=>∃ a,m=μ a/\Pv a σ H,⟨_,a₀,rfl,h0⟩,?_⟩;rintro m σ H ⟨a,rfl,p⟩;refine hc a σ H p _ fun H' p'=>?_
 cases e:cond a with
 | true=>exact ⟨_,fun σ' H' ⟨a',q,l⟩=>⟨_,l,a',rfl,q⟩,hb a σ H' p' e⟩
 | false=>exact hd a σ H' p' e
section
variable {X:Cx} {tg:Expr}
def xM (hi:Int) (n:Nat):It:=⟨fun i _=>i<n,fun i H x H'=>H'=H/\x = .int (hi - i),fun i _=>n<=i⟩
theorem RV {P:Program} {w:World} {K:PySem.W.Frag} {tg:Expr} (it:Addr) (hi:Int) (n:Nat):Turn P w K tg (xM hi n) [it] it (fun i h=>IsRangeIter h it (hi+(i:Nat)*(-1)) ((n:Int) - (i:Nat)) (-1)) where
 mem:=by simp
 obj:=fun i h st b hb=>by
  have e:b=it:=by simpa using hb
  subst e;exact ⟨_,st,fun v z=>by
   have z':Data.fields _=Data.cell v:=z
   cases z'⟩
 keep:=fun i h h' st k=>k it (by simp) _ st
 item:=by
  intro X hP hw hK hc i pins s σ H E I hf st hg;subst hP hw hK;obtain ⟨f0,f1,f2,f3,f4,f5⟩:=hf it (by simp);have W:=Walks.range (prog:=X.prog) (w:=X.w) (I.ok.hd hc) it hi (-1) n;refine W.item i s _ _ hg st fun v h' tk hv st' kk=>?_
  obtain ⟨t,rfl⟩:=hv;have I1:Inv X pins σ H { s with heap:=h',toks:=tk }:=I.turned (fun b o hb e=>kk b o (by simpa using hb) e) f0 f1 f3 f4 f5;refine ⟨_,rfl,Ul (s:={ s with heap:=h',toks:=tk }) (n:="range_iterator") st' rfl rfl (by decide) ⟨.int (hi - i),H,I1,⟨t,?_⟩,⟨rfl,rfl⟩,st',fun b hb=>(hf b hb).1⟩⟩;have:hi+(i:Int) * -1=hi - i:=by omega
  rw [this]
 done:=by
  intro X hP hw hK hc i pins s σ H E I hf st hg;subst hP hw hK;obtain ⟨f0,f1,f2,f3,f4,f5⟩:=hf it (by simp);exact wpAny_pyNext_range_end (I.ok.hd hc) st (by have:n<=i:=hg;omega) fun h' eb=>⟨rfl,I.turned (t':=s.toks) (fun b o hb e=>eb b o hb e) f0 f1 f3 f4 f5⟩
 self:=fun _ _ _ _ _ st h=>wpAny_pyIter_rangeiter st h
theorem RW {a b:Int} (ha : -(2^62)<=a) (ha':a<2^62) (hb : -(2^62)<=b) (hb':b<2^62):Builtin.Range.small a b (-1)=true:=by
 have e:Builtin.Range.rangeSize a b (-1)=if a>b then a - b else 0:=by unfold Builtin.Range.rangeSize;simp
 unfold Builtin.Range.small;rw [e];simp only [Builtin.Range.rangeFitsLong,Bool.and_eq_true,Bool.or_eq_true,decide_eq_true_eq,beq_iff_eq,show ¬ ((-1:Int)>0) by decide,if_false]
 split<;>omega
theorem RX {pins:List (Addr×Obj)} {σ:St} {H:Hp} {s:Shared} {R:It->Hp->Prop} {E:Value->Shared->Prop} {lo hi:Int} {t u v:Tok} {tk:Nat} (I:Inv X pins σ H s) (h1 : -(2^62)<=lo) (h2:lo<2^62) (h3 : -(2^62)<=hi) (h4:hi<2^62)
  (q:R (xM lo (lo - hi).toNat) H):wpAny (model X.prog X.w) X.A (pyIter (.ref s.heap.objs.size)) (PIE X pins σ tg R) E { s with heap:=s.heap.push { cls := .type "range",data := .fields #[.int lo t,.int hi u,.int (-1) v] },toks:=tk }:=by
 refine wpAny_pyIter_range (IsRange.new ..) (RW h1 h2 h3 h4) ?_;have I1:Inv X pins σ H { s with heap:=s.heap.push { cls := .type "range",data := .fields #[.int lo t,.int hi u,.int (-1) v] },toks:=tk }:=I.kept fun b o e=>Heap.get?_push_of_some _ e
 refine ⟨(s.heap.push { cls := .type "range",data := .fields #[.int lo t,.int hi u,.int (-1) v] }).objs.size,[(s.heap.push { cls := .type "range",data := .fields #[.int lo t,.int hi u,.int (-1) v] }).objs.size],_,_,H,rfl,
  I1.kept (t':=tk) fun b o e=>Heap.get?_push_of_some _ e,RV _ lo (lo - hi).toNat,?_,fun b hb=>?_,q⟩
 ·have e1:lo+((0:Nat):Int)*(-1)=lo:=by simp
  have e2:(((lo - hi).toNat:Nat):Int) - ((0:Nat):Int)=Builtin.Range.rangeSize lo hi (-1):=by unfold Builtin.Range.rangeSize;simp;split<;>omega
  show IsRangeIter _ _ (lo+((0:Nat):Int)*(-1)) ((((lo - hi).toNat:Nat):Int) - ((0:Nat):Int)) (-1)
  rw [e1,e2];exact Heap.get?_push_size _ rfl
 ·have e:b=(s.heap.push { cls := .type "range",data := .fields #[.int lo t,.int hi u,.int (-1) v] }).objs.size:=by simpa using hb
  subst e;exact I1.eV (Nat.le_refl _) (I1.hok.fresh (Nat.le_refl _))
def Hf (ta:TA):TI:=fun σ H R=>ta σ H fun vs H1=>∃ i j:Int,vs=[.int i,.int j,.int (-1)]/\(-(2^62)<=i/\i<2^62 /\ -(2^62)<=j/\j<2^62)/\R (xM i (i - j).toNat) H1
theorem RZ {a b c:Expr} {ta:TA} {p pos:Pos} (hg:Gl X "range") (hm:X.mg "range"=none) (ha:PA X [a,b,c] ta) (hs:starEach [a,b,c] X.env=[(false,eval a X.env),(false,eval b X.env),(false,eval c X.env)]) (hs2:starEach [b,c] X.env=[(false,eval b X.env),(false,eval c X.env)]) :
  PI X tg (.Call (.Name "range" p) [a,b,c] [] pos) (Hf ta):=by
 intro pins s σ H R I h;refine Call_ (X1 I hg hm boot_range (PyProof.Rows.callWith_type1 (aL (ha pos pins s σ H _ I h) fun us s1 ⟨vs,H1,I1,r1,q1⟩=>?_) (by rw [hs,hs2]) (by rw [hs2];rfl)));obtain ⟨i,j,e,⟨q1,q2,q3,q4⟩,q⟩:=q1;subst e
 cases r1 with
 | cons r rr =>
  cases rr with
  | cons r' rr =>
   cases rr with
   | cons r'' rr =>
    cases rr
    obtain ⟨t,rfl⟩:=r;obtain ⟨t',rfl⟩:=r';obtain ⟨t'',rfl⟩:=r'';exact call_range_3 (by decide) (RX I1 q1 q2 q3 q4 q) (.inl (PyProof.noPylong_small (by decide)))
end
theorem Vl {g:TG} {tb:TS} {D:Ends} {σ:St} {H:Hp} {K:W.Frag} {tl:TE} {xs:List V} (Pv:Addr->Nat->St->Hp->Prop) (ha:∀ R:V->Hp->Prop,(∀ c H1,Pv c 0 σ H1->R (.ref c) H1)->tl σ H R) (hl:∀ c i σ H,i<=xs.length->Pv c i σ H->aG K H c xs)
  (hs:∀ c (i:Nat) x σ H,xs[i]?=some x->Pv c i σ H->g x σ H fun σ2 H2=>tb { D with nx:=Pv c (i+1),ct:=Pv c (i+1),bk:=D.nx } σ2 H2) (hd:∀ c σ H,Pv c xs.length σ H->D.nx σ H):Vj (WG K tl) g tb D σ H:=by
 refine ha _ fun c H1 h0=>⟨c,rfl,⟨xs,hl c 0 σ H1 (Nat.zero_le _) h0⟩,?_⟩
 exact QL (Pv c) h0 (hl c) (hs c) (hd c)
section
variable {src:List (Option Nat)} {te:TE} {σ:St} {H:Hp} {Q:VK}
theorem Vz {K:W.Frag} {tl:TE} {xs:List V} (ys:List V) (ha:∀ R:V->Hp->Prop,(∀ a H1,Yf H H1->aG K H1 a xs->R (.ref a) H1)->tl σ H R) (hl:ys.length=xs.length) (hlen:xs.length<=100000)
  (step:∀ (i:Nat) x y H',xs[i]?=some x->ys[i]?=some y->Yf H H'->∀ R:VK,(∀ aO,Yf H' aO->R y aO)->te (some x::YN src σ) H' R)
  (fin:∀ D H',H D=none->Yf H H'->H' D=some (.lst ys)->Q (.ref D) H'):fj (none::src) (WG K tl) (YT 0) X9 te σ H Q :=
 ha _ fun a H1 s1 hS=>⟨a,rfl,⟨xs,hS⟩,fun D hD=>G9 (Wo.imp fun H' (e:Yf H1 H')=>e.seq hS) ys (fun _ e=>e) hD hl hlen (fun i x y H' hx hy sm R r=>step i x y H' hx hy (s1.trans sm) R r) fun H' sm=>fin D H' (s1.free hD) (s1.trans sm)⟩
theorem R0 {J:It} {P:Hp->Prop} {xs:List V} (hJ:X0 J P xs) {tt:TT} {H1:Hp} {D:Addr} (p:V->Bool) (f:V->V) (hP:∀ H',Yf H1 H'->P H') (hD:H1 D=none) (hlen:xs.length<=100000)
  (test:∀ x H',x∈xs->Yf H1 H'->∀ R:Bool->Hp->Prop,(∀ aO,Yf H' aO->R (p x) aO)->tt (some x::YN src σ) H' R)
  (step:∀ x H',x∈xs->p x=true->Yf H1 H'->∀ R:VK,(∀ aO,Yf H' aO->R (f x) aO)->te (some x::YN src σ) H' R)
  (fin:∀ H',Yf H1 H'->H' D=some (.lst ((xs.filter p).map f))->Q (.ref D) H'):LC (none::src) J (YT 0) tt te σ H1 Q D:=by
 have h6:100000<sizeLine:=by decide
 refine GX hJ (fun i zs σ' H'=>zs=((xs.take i).filter p).map f/\(∃ o,σ'=o::YN src σ)/\Yf H1 H'/\H' D=some (.lst zs)) ⟨by simp,⟨none,rfl⟩,.aF hD _,Yc⟩ (fun i zs σ' H' q=>⟨hP _ q.2.2.1,q.2.2.2⟩) ?_ ?_
 ·rintro i zs σ' H' x hx ⟨rfl,⟨o,rfl⟩,sm,hd⟩
  have hi:=(List.getElem?_eq_some_iff.mp hx).1;have hm:=List.mem_of_getElem? hx
  show tt (some x::YN src σ) H' _
  refine test x H' hm sm _ fun H2 s2=>?_
  cases e:p x with
  | true =>
   refine tE ?_;refine step x H2 hm e (sm.trans s2) _ fun H3 s3=>⟨s3 _ _ (s2 _ _ hd),?_,?_,⟨_,rfl⟩,.bT hD ((sm.trans s2).trans s3) _,Yc⟩
   ·have h7:=List.length_filter_le p (xs.take i)
    rw [List.length_map];rw [List.length_take] at h7
    omega
   ·rw [XF hx,List.filter_append,List.map_append]
    simp [List.filter,e]
  | false =>
   refine Mt ?_;refine ⟨?_,⟨_,rfl⟩,sm.trans s2,s2 _ _ hd⟩;rw [XF hx,List.filter_append];simp [List.filter,e]
 ·rintro zs σ' H' ⟨rfl,_,sm,hd⟩
  rw [List.take_length] at hd
  exact fin H' sm hd
theorem R3 {K:W.Frag} {tl:TE} {tt:TT} {xs:List V} (p:V->Bool) (f:V->V) (ha:∀ R:V->Hp->Prop,(∀ a H1,Yf H H1->aG K H1 a xs->R (.ref a) H1)->tl σ H R) (hlen:xs.length<=100000)
  (test:∀ x H',x∈xs->Yf H H'->∀ R:Bool->Hp->Prop,(∀ aO,Yf H' aO->R (p x) aO)->tt (some x::YN src σ) H' R)
  (step:∀ x H',x∈xs->p x=true->Yf H H'->∀ R:VK,(∀ aO,Yf H' aO->R (f x) aO)->te (some x::YN src σ) H' R)
  (fin:∀ D H',H D=none->Yf H H'->H' D=some (.lst ((xs.filter p).map f))->Q (.ref D) H'):fj (none::src) (WG K tl) (YT 0) tt te σ H Q :=
 ha _ fun a H1 s1 hS=>⟨a,rfl,⟨xs,hS⟩,fun D hD=>R0 (Wo.imp fun H' (e:Yf H1 H')=>e.seq hS) p f (fun _ e=>e) hD hlen (fun x H' hx sm R r=>test x H' hx (s1.trans sm) R r) (fun x H' hx hp sm R r=>step x H' hx hp (s1.trans sm) R r) fun H' sm=>fin D H' (s1.free hD) (s1.trans sm)⟩
end
section
variable {X:Cx} {K:W.Frag}
theorem UP (h:X.K=K:=by rfl):sS X (sV K):=by subst h;exact YD
theorem Wt (h:X.K=K:=by rfl):sO X (tu K):=by subst h;exact WL
end
theorem Qq (its:List Value):slicePick its.toArray none none (some (-1))=its.reverse.toArray:=by
 unfold slicePick;have hb:sliceBounds none none (some (-1)) its.toArray.size=((its.length:Int) - 1,-1,-1):=by simp [sliceBounds]
 rw [hb];have hr:sliceRange ((its.length:Int) - 1) (-1) (-1)=(List.range its.length).map fun (k:Nat)=>its.length - 1 - k:=by
  unfold sliceRange;simp only [show ¬ ((-1:Int)>0) by decide,if_false];have hc:(if (its.length:Int) - 1 > -1 then ((its.length:Int) - 1 - -1 - -1 - 1) / - -1 else 0).toNat=its.length:=by
   split
   ·have:((its.length:Int) - 1 - -1 - -1 - 1)=its.length:=by omega
    rw [this,show (- -1:Int)=1 from rfl,Int.ediv_one];omega
   ·omega
  rw [hc]
  apply List.map_congr_left
  intro k hk;have:k<its.length:=List.mem_range.mp hk;omega
 simp only [hr]
 congr 1
 rw [List.filterMap_map]
 apply List.ext_getElem?
 intro i;have key:∀ (n:Nat),n<=its.length->(List.filterMap ((fun x=>its.toArray[x]?) ∘ fun k=>its.length - 1 - k) (List.range n))=its.reverse.take n:=by
  intro n
  induction n with
  | zero=>intro _;simp
  | succ n ih =>
   intro hn;rw [List.range_succ,List.filterMap_append,ih (by omega)];have hx:its.reverse[n]?=some (its[its.length - 1 - n]'(by omega)):=by
    rw [List.getElem?_reverse (by omega)];exact List.getElem?_eq_getElem _
   rw [XF hx];have hlt:its.length - 1 - n<its.length:=by omega
   simp [hlt]
 rw [key its.length (Nat.le_refl _)];rw [List.take_of_length_le (by simp)]
section
variable {X:Cx} {e st:Expr} {te ts:TE} {pos p2:Pos}
def rH (K:W.Frag) (te ts:TE):TE:=fun σ H Q=>te σ H fun x H1=>ts σ H1 fun y H2=>y = .int (-1)/\∃ a xs,x = .ref a/\aG K H2 a xs/\∀ p,H2 p=none->Q (.ref p) (upd H2 p (.lst xs.reverse))
theorem R4 (he:PE X e te) (hs:PE X st ts):PE X (.Subscript e (.Slice none none (some st) p2) pos) (rH X.K te ts):=by
 intro pins s σ H Q I h;refine Subscript_ (aL (he pins s σ H _ I h) fun v s1 ⟨x,H1,I1,r1,q1⟩=>?_);refine wpAny_Slice ?_;rw [evalPart_none];refine wpAny_pure (wpAny_pure ?_);rw [evalPart_some];refine aL (hs pins s1 σ H1 _ I1 q1) fun u s2 ⟨y,H2,I2,r2,q2⟩=>?_
 obtain ⟨rfl,a,xs,rfl,hx,q⟩:=q2;obtain ⟨t,rfl⟩:=r2
 cases r1
 have I4:Inv X pins σ H2 { s2 with heap:=s2.heap.push { cls := .type "slice",data := .fields #[.none,.none,.int (-1) t] } }:=I2.kept (t':=s2.toks) fun b ob q=>Heap.get?_push_of_some _ q
 obtain ⟨its,r,ht,hz⟩:=I4.list hx;have hlen:=r.length;have hg:=wpAny_getItem_list_slice (prog:=X.prog) (w:=X.w) (A:=X.A) (E:=X.xe) (Q:=EP X pins σ Q) ht.isList (Heap.IsSliceOf.new ..) .none .none (.int (-1) t) (by decide) (by
  rw [Qq];refine ⟨.ref _,_,I4.laid (t':=_) (o := .lst xs.reverse) (fun b ob q=>Heap.get?_push_of_some _ q) (Nat.le_refl _) ?_,rfl,q _ (I4.hok.fresh (Nat.le_refl _))⟩;exact ⟨by rw [List.length_reverse];exact hz,_,0,r.reverse,Heap.get?_push_size _ rfl⟩) (by rw [List.size_toArray]<;>omega)
 exact tail_any (ops:=[.ref a,.ref s2.heap.objs.size]) ht.isList.typeIs slot_list_getitem.lookup hg (by with_unfolding_all rfl)
end
section
variable {X:Cx} {pos:Pos}
theorem R5:bI X (compareOp .Is) (fun x y H Q=>∃ a b,x = .bl a/\y = .bl b/\Q (.bl (a==b)) H):=by
 intro pins s σ H x y v u Q I rx ry h;obtain ⟨a,b,rfl,rfl,q⟩:=h
 cases rx
 cases ry
 exact is_bool ⟨.bl _,H,I,rfl,q⟩
theorem R6:bI X (compareOp .IsNot) (fun x y H Q=>∃ a b,x = .bl a/\y = .bl b/\Q (.bl (a != b)) H):=by
 intro pins s σ H x y v u Q I rx ry h;obtain ⟨a,b,rfl,rfl,q⟩:=h
 cases rx
 cases ry
 exact isnot_bool ⟨.bl _,H,I,rfl,q⟩
def xO:V->List V->Hp->VK->Prop:=fun x vs H Q=>∃ i,x = .int i/\vs=[]/\Q (.int (Builtin.Int.intBits i:Nat)) H
theorem UQ:sU X "int.bit_length" xO:=by
 intro pins s σ H x vs v us Q I rx r h;obtain ⟨i,rfl,rfl,q⟩:=h;obtain ⟨t,rfl⟩:=rx
 cases r
 exact call_gives F.slot_int_bit_length (typeIs_int s i t) F.entry_int_bit_length (F.args_int_bit_length_1 _) (AutoIntG2.int_bit_length_int_0 i t) ⟨.int _,H,I.tok _,⟨_,rfl⟩,q⟩
def Hg:V->List V->Hp->VK->Prop:=fun x vs H Q=>∃ (z y:Str),x = .str z/\vs=[.str y]/\Q (.int (Txt.find z y)) H
def Hh:TE:=fun _ H Q=>∀ p,H p=none->Q (.ref p) (upd H p (.dK []))
end
def Gx.jR (g:Gx) (x:Str) (xs:List V):Prop:=∃ c,g.mg x=some (.ref c)/\∀ H,aJ g.K H c xs
theorem R7 {K:W.Frag} {h:Heap} {mg:Str->Option Value} {x:Str} {i:Addr} {dc:Option Addr} {its:Array Value} {n:Nat} {sl:Array (Option Value)} {xs:List V} (X:K.In h) (G:h.Ns mainGlobals mg)
  (a:W.nsIn K mainGlobals x=some (some (.ref i))) (l:K.lookup i=some ⟨.type "tuple",dc,.seq its n,sl⟩) (hz:its.size<=sizeLine) (r:Yw xs its.toList):∀ P w base,(Gx.mk P w K mg base).jR x xs :=
 fun P w base=>⟨i,W.mg_of X G a,fun H => .inr ⟨_,its,n,l,rfl,rfl,hz,r⟩⟩
section
variable {X:Cx} {g:Gx} {x:Str} {pos:Pos}
def xP (K:W.Frag) (xs:List V):TE:=fun _ H Q=>∀ c,aJ K H c xs->Q (.ref c) H
theorem Hi {xs:List V} (F:g.jR x xs) (hX:X.gx=g) (hg:Gl X x) (hd:(x==("__debug__":Str))=false):PE X (.Name x pos) (xP g.K xs):=by
 subst hX;obtain ⟨c,e,hc⟩:=F;exact fun pins s σ H Q I h=>UJ hg e (show YF (.ref c) (.ref c) from rfl) hd pins s σ H Q I (h c (hc H))
end
theorem YA {c A B:Prop} [Decidable c] (h:¬ c) (hb:B):if c then A else B:=by rw [if_neg h];exact hb
theorem YU {c A B:Prop} [Decidable c] (h:c) (ha:A):if c then A else B:=by rw [if_pos h];exact ha
section
variable {X:Cx}
def Er (i j:Int):Prop:=xH i j\/qW i j
theorem UR:bI X (binaryOp .Mult) (rI Er fun i j => .int (i*j)):=mj fun _ _ _ _ _ _ _ hc q=>mul_int q (hc.elim (fun h=>h.ok) fun h=>h.ok)
end
abbrev WD (h:Heap) (z TI TO:Addr) (f0:Value) (f1:Bool):Prop :=
 h.get? z=some { cls := .type "zip",dict:=none,data := .fields #[f0,.bool f1,.bool false,.ref TI,.ref TO],slots:=#[] }
section
variable {prog:Program} {w:World} {A:Around} {E:Value->Shared->Prop} {s:Shared} {z TI TO i1 i2 T:Addr} {S1 S2:Nat->Heap->Prop} {R1 R2:Heap->(Nat->Option Value)->Prop} {g1 g2:Nat->Option Value} {k:Nat} {a b:Value} {f:Bool} {oT:Obj}
theorem QT {x y:Value} {Q:Option Value->Shared->Prop} (D:cO z TI TO i1 i2) (U1:Sub prog w i1 S1 R1) (U2:Sub prog w i2 S2 R2)
  (k1:∀ h h' g,R1 h g->(∀ c o,c≠z->c≠TO->c≠i1->c≠i2->h.get? c=some o->h'.get? c=some o)->R1 h' g) (k2:∀ h h' g,R2 h g->(∀ c o,c≠z->c≠TO->c≠i1->c≠i2->h.get? c=some o->h'.get? c=some o)->R2 h' g)
  (hz:WD s.heap z TI TO (rawInt T) f) (hTI:IsPair s.heap TI (.ref i1) (.ref i2)) (hT:s.heap.get? T=some oT) (h1:S1 k s.heap) (h2:S2 k s.heap) (r1:R1 s.heap g1) (r2:R2 s.heap g2) (hx:g1 k=some x) (hy:g2 k=some y)
  (hQ:∀ h' tk,WD h' z TI TO (rawInt T) true->S1 (k+1) h'->S2 (k+1) h'->IsPair h' s.heap.objs.size x y->h'.objs.size=s.heap.objs.size+1 ->
   (∀ c o,c≠z->c≠i1->c≠i2->s.heap.get? c=some o->h'.get? c=some o)->Q (some (.ref s.heap.objs.size)) { s with heap:=h',toks:=tk }) :
  wpAny (model prog w) A (pyNext (.ref z)) Q E s:=by
 have hTy:s.TypeIs (.ref z) "zip":=⟨_,hz,rfl⟩;unfold pyNext;refine wpAny_bind (wpAny_attempt (wpAny_callSpecial?_slot (name:=Str.ofString "__next__") hTy F.slot_zip_next (wpAny_call_entry F.slot_zip_next hTy F.entry_zip_next ?_ (F.args_zip_next_1 _))))
 show wpAny _ _ (field (.ref z) 2 >>= _) _ _ _
 refine wpAny_bind (wpAny_field hz rfl (x := .bool false) rfl ?_)
 show wpAny _ _ (field (.ref z) 3 >>= _) _ _ _
 refine wpAny_bind (wpAny_field hz rfl (x := .ref TI) rfl ?_);refine wpAny_bind (wpAny_seqItems hTI rfl ?_)
 show wpAny _ _ (Builtin.SmallTypes.ownedTupleIsFree (.ref z) >>= _) _ _ _
 refine wpAny_bind ?_;unfold Builtin.SmallTypes.ownedTupleIsFree;refine wpAny_bind (wpAny_field hz rfl (x:=rawInt T) rfl ?_)
 show wpAny _ _ (loadIfAlive ((T:Int).toNat) >>= _) _ _ _
 rw [Int.toNat_natCast];refine wpAny_bind (PySem.W.kdx_alive hT ?_);simp only [Option.isNone_some,Bool.false_eq_true,if_false];refine wpAny_bind (wpAny_field hz rfl (x := .bool f) rfl ?_);have step:∀ (P:Bool->Shared->Prop) (E':Value->Shared->Prop),(∀ h₀:Heap,WD h₀ z TI TO (rawInt T) true->Heap.SameBut z s.heap h₀->P false { s with heap:=h₀ }) ->
   wpAny (model prog w) A.in1 (if (Value.bool f != Value.bool true)=true then do setField (Value.ref z) 1 (Value.bool true);pure false else pure false) P E' s:=by
  intro P E' h
  cases f with
  | true =>
   rw [if_neg (show ¬ ((Value.bool true != Value.bool true)=true) from Bool.false_ne_true)];exact wpAny_pure (h s.heap hz (Heap.SameBut.refl _ _))
  | false =>
   rw [if_pos (show (Value.bool false != Value.bool true)=true from rfl)];exact wpAny_bind (wpAny_setField_rec hz (by simp) fun h₃ he₃ hs₃=>wpAny_pure (h h₃ he₃ hs₃))
 refine step _ _ fun h₀ tO hs₀=>?_
 simp only [Bool.false_eq_true,if_false];have nu:S1 k h₀:=U1.keep _ _ _ h1 fun o e=>hs₀.extBut _ _ D.c e
 have nA:R1 h₀ g1:=k1 _ _ _ r1 fun c o c1 _ _ _ e=>hs₀.extBut _ _ c1 e
 rw [<- Array.forIn_toList];simp only [List.forIn_cons,List.forIn_nil];refine wpAny_bind (wpAny_bind (wpAny_bind (wpAny_holding ?_)))
 show wpAny _ _ (Builtin.SmallTypes.nextOf (.ref i1) >>= _) _ _ _
 refine wpAny_bind (U1.item _ k { s with heap:=h₀ } g1 x _ _ nu nA hx fun h₂ tk₂ jH hs₂=>wpAny_pure ?_);have kk₂:∀ c o,c≠z->c≠i1->s.heap.get? c=some o->h₂.get? c=some o:=fun c o c1 c3 e=>hs₂.extBut _ _ c3 (hs₀.extBut _ _ c1 e)
 refine wpAny_pure ?_;dsimp only;have Es:S2 k h₂:=U2.keep _ _ _ h2 fun o e=>hs₂.extBut _ _ D.j.symm (hs₀.extBut _ _ D.d e)
 refine wpAny_bind (wpAny_bind (wpAny_holding ?_))
 show wpAny _ _ (Builtin.SmallTypes.nextOf (.ref i2) >>= _) _ _ _
 refine wpAny_bind (U2.item _ k { s with heap:=h₂,toks:=tk₂ } g2 y _ _ Es (k2 _ _ _ r2 fun c o c1 c2 c3 c4 e=>kk₂ c o c1 c3 e) hy fun h₄ tk₄ nq hs₄=>wpAny_pure ?_);refine wpAny_pure (wpAny_pure ?_);dsimp only;refine wpAny_bind (wpAny_newTuple ?_ (show (2:Nat)<=sizeLine by decide));have hsz:h₄.objs.size=s.heap.objs.size:=by rw [hs₄.1,hs₂.1,hs₀.1]
 have hz₄:WD h₄ z TI TO (rawInt T) true:=hs₄.extBut _ _ D.d.symm (hs₂.extBut _ _ D.c.symm tO);refine wpAny_pure ⟨_,rfl,wpAny_pure ?_⟩
 show Q (some (.ref h₄.objs.size)) _
 have tQ:=hQ (h₄.push { cls := .type "tuple",data := .seq #[x,y] }) tk₄ (Heap.get?_push_of_some _ hz₄) (U1.keep _ _ _ jH fun o e=>Heap.get?_push_of_some _ (hs₄.extBut _ _ D.j e)) (U2.keep _ _ _ nq fun o e=>Heap.get?_push_of_some _ e)
  (by rw [<- hsz];exact Heap.get?_push_size _ rfl) (by rw [Heap.size_push,hsz]) fun c o c1 c3 c4 e=>Heap.get?_push_of_some _ (hs₄.extBut _ _ c4 (kk₂ c o c1 c3 e))
 rw [hsz];exact tQ
theorem R8 {Q:Option Value->Shared->Prop} (hh:A.handled=none) (D:cO z TI TO i1 i2) (U1:Sub prog w i1 S1 R1) (U2:Sub prog w i2 S2 R2)
  (k1:∀ h h' g,R1 h g->(∀ c o,c≠z->c≠TO->c≠i1->c≠i2->h.get? c=some o->h'.get? c=some o)->R1 h' g)
  (hz:WD s.heap z TI TO (rawInt T) f) (hTI:IsPair s.heap TI (.ref i1) (.ref i2)) (hT:s.heap.get? T=some oT) (h1:S1 k s.heap) (r1:R1 s.heap g1) (hend:g1 k=none)
  (hQ:∀ h' tk,(∀ c o,c≠z->c≠i1->c≠i2->s.heap.get? c=some o->h'.get? c=some o)->Q none { s with heap:=h',toks:=tk }):wpAny (model prog w) A (pyNext (.ref z)) Q E s:=by
 have hTy:s.TypeIs (.ref z) "zip":=⟨_,hz,rfl⟩;unfold pyNext;refine wpAny_bind (wpAny_attempt (wpAny_callSpecial?_slot (name:=Str.ofString "__next__") hTy F.slot_zip_next (wpAny_call_entry F.slot_zip_next hTy F.entry_zip_next ?_ (F.args_zip_next_1 _))))
 show wpAny _ _ (field (.ref z) 2 >>= _) _ _ _
 refine wpAny_bind (wpAny_field hz rfl (x := .bool false) rfl ?_)
 show wpAny _ _ (field (.ref z) 3 >>= _) _ _ _
 refine wpAny_bind (wpAny_field hz rfl (x := .ref TI) rfl ?_);refine wpAny_bind (wpAny_seqItems hTI rfl ?_)
 show wpAny _ _ (Builtin.SmallTypes.ownedTupleIsFree (.ref z) >>= _) _ _ _
 refine wpAny_bind ?_;unfold Builtin.SmallTypes.ownedTupleIsFree;refine wpAny_bind (wpAny_field hz rfl (x:=rawInt T) rfl ?_)
 show wpAny _ _ (loadIfAlive ((T:Int).toNat) >>= _) _ _ _
 rw [Int.toNat_natCast];refine wpAny_bind (PySem.W.kdx_alive hT ?_);simp only [Option.isNone_some,Bool.false_eq_true,if_false];refine wpAny_bind (wpAny_field hz rfl (x := .bool f) rfl ?_);have step:∀ (P:Bool->Shared->Prop) (E':Value->Shared->Prop),(∀ h₀:Heap,WD h₀ z TI TO (rawInt T) true->Heap.SameBut z s.heap h₀->P false { s with heap:=h₀ }) ->
   wpAny (model prog w) A.in1 (if (Value.bool f != Value.bool true)=true then do setField (Value.ref z) 1 (Value.bool true);pure false else pure false) P E' s:=by
  intro P E' h
  cases f with
  | true =>
   rw [if_neg (show ¬ ((Value.bool true != Value.bool true)=true) from Bool.false_ne_true)];exact wpAny_pure (h s.heap hz (Heap.SameBut.refl _ _))
  | false =>
   rw [if_pos (show (Value.bool false != Value.bool true)=true from rfl)];exact wpAny_bind (wpAny_setField_rec hz (by simp) fun h₃ he₃ hs₃=>wpAny_pure (h h₃ he₃ hs₃))
 refine step _ _ fun h₀ tO hs₀=>?_
 simp only [Bool.false_eq_true,if_false];have nu:S1 k h₀:=U1.keep _ _ _ h1 fun o e=>hs₀.extBut _ _ D.c e
 have nA:R1 h₀ g1:=k1 _ _ _ r1 fun c o c1 _ _ _ e=>hs₀.extBut _ _ c1 e
 rw [<- Array.forIn_toList];simp only [List.forIn_cons,List.forIn_nil];refine wpAny_bind (wpAny_bind (wpAny_bind (wpAny_holding ?_)))
 show wpAny _ _ (Builtin.SmallTypes.nextOf (.ref i1) >>= _) _ _ _
 refine wpAny_bind (U1.fin _ k { s with heap:=h₀ } g1 _ _ hh nu nA hend fun h₂ e hs₂ he=>?_);obtain ⟨oe,hoe,hce⟩:=he;refine wpAny_bind (wpAny_isInstance (T:="StopIteration") (b:=true) ⟨oe,hoe,hce⟩ isSubtype_stop ?_);exact wpAny_pure (hQ h₂ s.toks fun c o c1 c3 c4 x=>hs₂ _ _ c3 (hs₀.extBut _ _ c1 x))
end
section
variable {prog:Program} {w:World} {A:Around} {s:Shared} {R:Result->Shared->Prop} {z TI TO i1 i2 S p1 p2:Addr} {xs ys:List Value}
def R9 (h:Heap) (z TI TO i1 i2 p1 p2:Addr) (i:Nat) (as:List Addr):Prop :=
 IsPair h TI (.ref i1) (.ref i2)/\h.IsTupleIter i1 p1 i/\h.IsTupleIter i2 p2 i/\((i=0/\IsZip h z TI TO .none/\∃ a b,IsPair h TO a b)\/∃ T f,T∈as/\WD h z TI TO (rawInt T) f)
theorem Sg (hh:A.handled=none) (D:cO z TI TO i1 i2) (lo:Nat) (hlo:z<lo/\TI<lo/\TO<lo/\i1<lo/\i2<lo/\S<lo/\p1<lo/\p2<lo) (nS:S∉[z,TI,TO,i1,i2,p1,p2]) (n1:p1∉[z,TO,i1,i2]) (n2:p2∉[z,TO,i1,i2]) (hl:xs.length=ys.length) (hn:xs.length<=sizeLine) (res:Value) {h₁:Heap}
  (hR:∀ (h':Heap) (tk:Nat) (acc:Array Value) (c:Nat) (as:List Addr),(∀ b o,b∉[S,z,TO,i1,i2]->h₁.get? b=some o->h'.get? b=some o)->h'.get? S=some { cls := .type "list",dict:=none,data := .seq acc c,slots:=#[] }->as.length=xs.length->acc.toList=as.map Value.ref ->
   as.Pairwise (·<·)->(∀ a∈as,lo<=a)->(∀ (j:Nat) a x y,as[j]?=some a->xs[j]?=some x->ys[j]?=some y->IsPair h' a x y)->R (.ok (.ret res)) { s with heap:=h',toks:=tk }) :
  ∀ (k i:Nat) (h:Heap) (tk c:Nat) (acc:Array Value) (as:List Addr),xs.length - i=k->i<=xs.length->R9 h z TI TO i1 i2 p1 p2 i as->h.IsTuple p1 xs.toArray->h.IsTuple p2 ys.toArray->(∀ b o,b∉[S,z,TO,i1,i2]->h₁.get? b=some o->h.get? b=some o) ->
   h.get? S=some { cls := .type "list",dict:=none,data := .seq acc c,slots:=#[] }->acc.toList=as.map Value.ref->as.length=i->as.Pairwise (·<·)->(∀ a∈as,lo<=a/\a<h.objs.size)->(∀ (j:Nat) a x y,as[j]?=some a->xs[j]?=some x->ys[j]?=some y->IsPair h a x y)->lo<=h.objs.size ->
   codeAny (model prog w) A (.builtin "list.extend.loop" ⟨[.ref S,.ref z,res],[]⟩) R { s with heap:=h,toks:=tk }:=by
 intro k;have nz:S≠z:=fun e=>nS (by simp [e])
 have Sh:S≠TI:=fun e=>nS (by simp [e])
 have Hj:S≠TO:=fun e=>nS (by simp [e])
 have xQ:S≠i1:=fun e=>nS (by simp [e])
 have xR:S≠i2:=fun e=>nS (by simp [e])
 have Sq:S≠p1:=fun e=>nS (by simp [e])
 have Ss:S≠p2:=fun e=>nS (by simp [e])
 have q1:p1≠z/\p1≠TO/\p1≠i1/\p1≠i2:=⟨fun e=>n1 (by simp [e]),fun e=>n1 (by simp [e]),fun e=>n1 (by simp [e]),fun e=>n1 (by simp [e])⟩;have q2:p2≠z/\p2≠TO/\p2≠i1/\p2≠i2:=⟨fun e=>n2 (by simp [e]),fun e=>n2 (by simp [e]),fun e=>n2 (by simp [e]),fun e=>n2 (by simp [e])⟩;have big:∀ {a:Addr},lo<=a->a≠z/\a≠TO/\a≠i1/\a≠i2/\a≠S:=fun {a} ha=>by
  obtain ⟨l1,l2,l3,l4,l5,l6,_⟩:=hlo;refine ⟨?_,?_,?_,?_,?_⟩<;>(intro e;subst e;exact absurd ha (Nat.not_le.mpr (by assumption)))
 have nF:∀ h:Heap,h.IsTuple p1 xs.toArray->∃ items:Array Value,h.IsTuple p1 items/\∀ k:Nat,(fun k:Nat=>xs[k]?) k=items[k]?:=fun h e=>⟨_,e,fun (k:Nat)=>by simp⟩
 have rJ:∀ h:Heap,h.IsTuple p2 ys.toArray->∃ items:Array Value,h.IsTuple p2 items/\∀ k:Nat,(fun k:Nat=>ys[k]?) k=items[k]?:=fun h e=>⟨_,e,fun (k:Nat)=>by simp⟩
 have tU:∀ (h h':Heap) (g:Nat->Option Value),(∃ items:Array Value,h.IsTuple p1 items/\∀ k,g k=items[k]?)->(∀ c o,c≠z->c≠TO->c≠i1->c≠i2->h.get? c=some o->h'.get? c=some o)->∃ items:Array Value,h'.IsTuple p1 items/\∀ k,g k=items[k]? :=
  fun h h' g ⟨items,⟨o,e,r⟩,q⟩ k=>⟨items,⟨o,k _ o q1.1 q1.2.1 q1.2.2.1 q1.2.2.2 e,r⟩,q⟩
 have jQ:∀ (h h':Heap) (g:Nat->Option Value),(∃ items:Array Value,h.IsTuple p2 items/\∀ k,g k=items[k]?)->(∀ c o,c≠z->c≠TO->c≠i1->c≠i2->h.get? c=some o->h'.get? c=some o)->∃ items:Array Value,h'.IsTuple p2 items/\∀ k,g k=items[k]? :=
  fun h h' g ⟨items,⟨o,e,r⟩,q⟩ k=>⟨items,⟨o,k _ o q2.1 q2.2.1 q2.2.2.1 q2.2.2.2 e,r⟩,q⟩
 induction k with
 | zero =>
  intro i h tk c acc as hk hi hst ht1 gR hkeep hS hacc hal xT hab hpr hlo';have hin:i=xs.length:=by omega
  refine codeAny_builtin F.entry_extend_loop ?_;rw [Around.under_plainId F.plain_extend_loop _]
  show wpAny _ A.in1 (pyNext (.ref z) >>= _) _ _ _
  obtain ⟨hTI,hi1,hi2,hzs⟩:=hst;have fin:∀ h' tk',(∀ b o,b≠z->b≠TO->b≠i1->b≠i2->h.get? b=some o->h'.get? b=some o)->R (.ok (.ret res)) { s with heap:=h',toks:=tk' }:=fun h' tk' kp=>by
   refine hR h' tk' acc c as (fun b o hb e=>?_) (kp S _ nz Hj xQ xR hS) (by omega) hacc xT (fun a ha=>(hab a ha).1) (fun j a x y h1 h2 h3=>?_)
   ·simp only [List.mem_cons,List.not_mem_nil,or_false,not_or] at hb
    exact kp b o hb.2.1 hb.2.2.1 hb.2.2.2.1 hb.2.2.2.2 (hkeep b o (by simp [hb]) e)
   ·have hb:=big (hab a (List.mem_of_getElem? h1)).1
    exact kp a _ hb.1 hb.2.1 hb.2.2.1 hb.2.2.2.1 (hpr j a x y h1 h2 h3)
  rcases hzs with ⟨e0,hz,a,b,hTO⟩ | ⟨T,f,hT,hz⟩
  ·refine wpAny_bind (RD (s:={ s with heap:=h,toks:=tk }) (A:=A.in1) (k:=i) hh D (XE i1 p1) (XE i2 p2) tU jQ hz hTI hTO hi1 hi2 (nF h ht1) (rJ h gR) (.inl (List.getElem?_eq_none (by omega))) fun h' tk' kp=>wpAny_pure (fin h' tk' kp))
  ·obtain ⟨j,hj⟩:=List.mem_iff_getElem?.mp hT
   have hjl:=(List.getElem?_eq_some_iff.mp hj).1;have:=hpr j T _ _ hj (List.getElem?_eq_getElem (show j<xs.length by omega)) (List.getElem?_eq_getElem (show j<ys.length by omega));refine wpAny_bind (R8 (s:={ s with heap:=h,toks:=tk }) (A:=A.in1) (k:=i) hh D (XE i1 p1) (XE i2 p2) tU hz hTI this hi1 (nF h ht1) (List.getElem?_eq_none (by omega)) fun h' tk' kp=>wpAny_pure (fin h' tk' fun b o b1 _ b3 b4 e=>kp b o b1 b3 b4 e))
 | succ k ih =>
  intro i h tk c acc as hk hi hst ht1 gR hkeep hS hacc hal xT hab hpr hlo';have hlt:i<xs.length:=by omega
  have hlt2:i<ys.length:=by omega
  have hx:xs[i]?=some xs[i]:=List.getElem?_eq_getElem hlt;have hy:ys[i]?=some ys[i]:=List.getElem?_eq_getElem hlt2;have hsz:acc.size=i:=by rw [<- Array.length_toList,hacc,List.length_map,hal]
  refine codeAny_builtin F.entry_extend_loop ?_;rw [Around.under_plainId F.plain_extend_loop _]
  show wpAny _ A.in1 (pyNext (.ref z) >>= _) _ _ _
  obtain ⟨hTI,hi1,hi2,hzs⟩:=hst;have step:∀ (Q:Option Value->Shared->Prop) (E:Value->Shared->Prop),(∀ (h':Heap) (tk':Nat) (T:Addr) (f:Bool),T∈as++[h.objs.size]->WD h' z TI TO (rawInt T) f->h'.IsTupleIter i1 p1 (i+1)->h'.IsTupleIter i2 p2 (i+1)->IsPair h' h.objs.size xs[i] ys[i]->h'.objs.size=h.objs.size+1 ->
    (∀ c o,c≠z->c≠TO->c≠i1->c≠i2->h.get? c=some o->h'.get? c=some o)->Q (some (.ref h.objs.size)) { s with heap:=h',toks:=tk' })->wpAny (model prog w) A.in1 (pyNext (.ref z)) Q E { s with heap:=h,toks:=tk }:=by
   intro Q E hq;rcases hzs with ⟨e0,hz,a,b,hTO⟩ | ⟨T,f,hT,hz⟩
   ·exact RB (s:={ s with heap:=h,toks:=tk }) (A:=A.in1) (k:=i) D (XE i1 p1) (XE i2 p2) tU jQ hz hTI hTO hi1 hi2 (nF h ht1) (rJ h gR) hx hy fun h' tk' hz' _ s1 s2 hp hs kp=>hq h' tk' h.objs.size _ (by simp) hz' s1 s2 hp hs kp
   ·obtain ⟨j,hj⟩:=List.mem_iff_getElem?.mp hT
    have hjl:=(List.getElem?_eq_some_iff.mp hj).1;have:=hpr j T _ _ hj (List.getElem?_eq_getElem (show j<xs.length by omega)) (List.getElem?_eq_getElem (show j<ys.length by omega));exact QT (s:={ s with heap:=h,toks:=tk }) (A:=A.in1) (k:=i) D (XE i1 p1) (XE i2 p2) tU jQ hz hTI this hi1 hi2 (nF h ht1) (rJ h gR) hx hy fun h' tk' hz' s1 s2 hp hs kp=>hq h' tk' T _ (by simp [hT]) hz' s1 s2 hp hs fun c o c1 _ c3 c4 e=>kp c o c1 c3 c4 e
  refine wpAny_bind (step _ _ fun h' tk' T f hT hz' s1 s2 hp hs hkp=>?_);have hS':=hkp S _ nz Hj xQ xR hS;have up:∀ b o,b≠S->h'.get? b=some o->(h'.update S (Obj.mapSeq (·.push (Value.ref h.objs.size)))).get? b=some o:=fun b o hb e=>(Heap.get?_update_other _ _ (Ne.symm hb)).trans e
  have hSl:S<h.objs.size:=Heap.lt_size hS;have np:h.objs.size≠S:=Nat.ne_of_gt hSl
  show wpAny _ A.in1 (updateSeq S (·.push (Value.ref h.objs.size)) >>= _) _ _ _
  refine wpAny_bind ?_;refine wpAny_updateSeq hS' rfl (wpAny_pure ⟨plainId_quiet F.plain_extend_loop _,ih (i+1) _ tk' _ (acc.push (Value.ref h.objs.size)) (as++[h.objs.size]) (by omega) hlt ⟨?_,?_,?_,.inr ⟨T,f,hT,up _ _ nz.symm hz'⟩⟩ ?_ ?_
   (fun b o hb e=>?_) (Heap.get?_update_self _ hS' rfl) (by rw [Array.toList_push,hacc,List.map_append];rfl) (by rw [List.length_append,hal];rfl) ?_ ?_ ?_ ?_⟩) (by rw [hsz];omega) (by show (acc.push (Value.ref h.objs.size)).size<=sizeLine+1;rw [Array.size_push,hsz];omega)
  ·exact up _ _ Sh.symm (hkp TI _ D.a D.e D.f D.g hTI)
  ·obtain ⟨o,e,r⟩:=s1
   exact ⟨o,up _ _ xQ.symm e,r⟩
  ·obtain ⟨o,e,r⟩:=s2
   exact ⟨o,up _ _ xR.symm e,r⟩
  ·obtain ⟨o,e,r⟩:=ht1
   exact ⟨o,up _ _ Sq.symm (hkp _ _ q1.1 q1.2.1 q1.2.2.1 q1.2.2.2 e),r⟩
  ·obtain ⟨o,e,r⟩:=gR
   exact ⟨o,up _ _ Ss.symm (hkp _ _ q2.1 q2.2.1 q2.2.2.1 q2.2.2.2 e),r⟩
  ·have hb':=hb
   simp only [List.mem_cons,List.not_mem_nil,or_false,not_or] at hb';exact up b o hb'.1 (hkp b o hb'.2.1 hb'.2.2.1 hb'.2.2.2.1 hb'.2.2.2.2 (hkeep b o hb e))
  ·refine List.pairwise_append.mpr ⟨xT,List.pairwise_singleton _ _,fun a ha b hb=>?_⟩
   rw [List.mem_singleton.mp hb];exact (hab a ha).2
  ·have hsz':(h'.update S (Obj.mapSeq (·.push (Value.ref h.objs.size)))).objs.size=h.objs.size+1:=by rw [<- hs];exact Heap.size_update _ _ _
   intro a ha;rw [hsz'];rcases List.mem_append.mp ha with ha | ha
   ·exact ⟨(hab a ha).1,Nat.lt_succ_of_lt (hab a ha).2⟩
   ·rw [List.mem_singleton.mp ha];exact ⟨hlo',Nat.lt_succ_self _⟩
  ·intro j b x y hj ex ey
   rcases Nat.lt_trichotomy j as.length with h1 | h1 | h1
   ·rw [List.getElem?_append_left h1] at hj
    have hb:=big (hab b (List.mem_of_getElem? hj)).1;exact up b _ hb.2.2.2.2 (hkp b _ hb.1 hb.2.1 hb.2.2.1 hb.2.2.2.1 (hpr j b x y hj ex ey))
   ·subst h1
    have hb:h.objs.size=b:=by simpa using hj
    subst hb;rw [hal] at ex ey
    rw [hx] at ex
    rw [hy] at ey
    cases ex
    cases ey
    exact up _ _ np hp
   ·have hnone:(as++[h.objs.size])[j]?=none:=List.getElem?_eq_none (by rw [List.length_append,List.length_singleton];omega)
    rw [hnone] at hj;cases hj
  ·have hsz':(h'.update S (Obj.mapSeq (·.push (Value.ref h.objs.size)))).objs.size=h.objs.size+1:=by rw [<- hs];exact Heap.size_update _ _ _
   rw [hsz'];exact Nat.le_succ_of_le hlo'
end
end L2
namespace L2
open PySem PySem.Calls PySem.Spec PyProof.Rows PyProof.V
theorem Sv:typeLookup (.type "zip") "__len__"=pure none:=by rw [typeLookup_type,builtinLookup_eq_fast];kernel_rfl
theorem Sw:typeLookup (.type "zip") "__length_hint__"=pure none:=by rw [typeLookup_type,builtinLookup_eq_fast];kernel_rfl
section
variable {prog:Program} {w:World} {A:Around} {E:Value->Shared->Prop} {s:Shared} {z TI TO i1 i2 p1 p2:Addr} {xs ys:List Value}
theorem Sx (hT:s.TypeIs (.ref z) "zip") {Q:Bool->Shared->Prop} (h:Q true s):wpAny (model prog w) A (Builtin.List.listLengthHint (.ref z)) Q E s:=by
 unfold Builtin.List.listLengthHint;refine wpAny_bind (wpAny_specialOf hT Sv ?_)
 show wpAny _ _ (specialOf (.ref z) "__length_hint__" >>= _) _ _ _
 refine wpAny_bind (wpAny_specialOf hT Sw ?_);exact wpAny_pure h
structure rK (xs ys:List Value) (lo:Nat) (h:Heap) (as:List Addr):Prop where
 len:as.length=xs.length
 rise:as.Pairwise (·<·)
 above:∀ a∈as,lo<=a
 pairs:∀ (j:Nat) a x y,as[j]?=some a->xs[j]?=some x->ys[j]?=some y->IsPair h a x y
theorem Sy {R:Result->Shared->Prop} {S:Addr} {oa ob:Value} (hh:A.handled=none) (D:cO z TI TO i1 i2) (hlt:z<S/\TI<S/\TO<S/\i1<S/\i2<S/\p1<S/\p2<S) (n1:p1∉[z,TO,i1,i2]) (n2:p2∉[z,TO,i1,i2]) (hl:xs.length=ys.length) (hn:xs.length<=sizeLine) (res:Value) (c₀:Nat)
  (hz:IsZip s.heap z TI TO .none) (hTI:IsPair s.heap TI (.ref i1) (.ref i2)) (hTO:IsPair s.heap TO oa ob) (h1:s.heap.IsTupleIter i1 p1 0) (h2:s.heap.IsTupleIter i2 p2 0) (t1:s.heap.IsTuple p1 xs.toArray) (t2:s.heap.IsTuple p2 ys.toArray) (hS:s.heap.get? S=some { cls := .type "list",data := .seq #[] c₀ })
  (hR:∀ (h':Heap) (tk:Nat) (acc:Array Value) (c:Nat) (as:List Addr),(∀ b o,b∉[S,z,TO,i1,i2]->s.heap.get? b=some o->h'.get? b=some o)->h'.get? S=some { cls := .type "list",dict:=none,data := .seq acc c,slots:=#[] }->acc.toList=as.map Value.ref->rK xs ys (S+1) h' as->R (.ok (.ret res)) { s with heap:=h',toks:=tk }) :
  wpAny (model prog w) A.in1 (Builtin.List.listExtendWith (.ref S) (.ref z) res)
   (fun fin s'=>match fin with | .done f=>R (.ok f) s' | .again c'=>c'.quiet=true/\codeAny (model prog w) A c' R s') (fun e s'=>R (.error e) s') s:=by
 obtain ⟨l1,l2,l3,l4,l5,l6,l7⟩:=hlt;have nS:S∉[z,TI,TO,i1,i2,p1,p2]:=by
  intro hm;simp only [List.mem_cons,List.not_mem_nil,or_false] at hm;rcases hm with e | e | e | e | e | e | e<;>(subst e;first | exact absurd l1 (Nat.lt_irrefl _) | exact absurd l2 (Nat.lt_irrefl _) | exact absurd l3 (Nat.lt_irrefl _) | exact absurd l4 (Nat.lt_irrefl _) | exact absurd l5 (Nat.lt_irrefl _) | exact absurd l6 (Nat.lt_irrefl _) | exact absurd l7 (Nat.lt_irrefl _))
 have key:∀ (h:Heap) (c₁ tk:Nat),(∀ b o,b≠S->s.heap.get? b=some o->h.get? b=some o)->h.get? S=some { cls := .type "list",data := .seq #[] c₁ }->codeAny (model prog w) A (.builtin "list.extend.loop" ⟨[.ref S,.ref z,res],[]⟩) R { s with heap:=h,toks:=tk }:=by
  intro h c₁ tk hk hS₁;have m:∀ {b:Addr},b<S->∀ o,s.heap.get? b=some o->h.get? b=some o:=fun {b} hb o e=>hk b o (Nat.ne_of_lt hb) e
  refine Sg (s:=s) (h₁:=s.heap) hh D (S+1) ⟨Nat.lt_succ_of_lt l1,Nat.lt_succ_of_lt l2,Nat.lt_succ_of_lt l3,Nat.lt_succ_of_lt l4,Nat.lt_succ_of_lt l5,Nat.lt_succ_self _,Nat.lt_succ_of_lt l6,Nat.lt_succ_of_lt l7⟩ nS n1 n2 hl hn res (fun h' tk' acc c as kp eS ln ac pw ab pr=>hR h' tk' acc c as kp eS ac ⟨ln,pw,ab,pr⟩)
   xs.length 0 h tk c₁ #[] [] (Nat.sub_zero _) (Nat.zero_le _) ⟨m l2 _ hTI,?_,?_,.inl ⟨rfl,m l1 _ hz,_,_,m l3 _ hTO⟩⟩ ?_ ?_ (fun b o hb e=>hk b o (fun q=>hb (by simp [q])) e) hS₁ rfl rfl List.Pairwise.nil (fun _ ha=>nomatch ha) (fun j a x y hj=>by simp at hj) (Heap.lt_size hS₁)
  ·obtain ⟨o,e,r⟩:=h1;exact ⟨o,m l4 _ e,r⟩
  ·obtain ⟨o,e,r⟩:=h2;exact ⟨o,m l5 _ e,r⟩
  ·obtain ⟨o,e,r⟩:=t1;exact ⟨o,m l6 _ e,r⟩
  ·obtain ⟨o,e,r⟩:=t2;exact ⟨o,m l7 _ e,r⟩
 have hT:s.TypeIs (.ref z) "zip":=⟨_,hz,rfl⟩;unfold Builtin.List.listExtendWith;refine wpAny_bind (wpAny_typeOf (T:="zip") hT ?_);have h1:Builtin.List.listSameRef (.ref S) (.ref z)=false:=by simp [Builtin.List.listSameRef,Nat.ne_of_gt l1]
 have h2:(Value.type "zip"==Value.type "list")=false:=by decide
 have h3:(Value.type "zip"==Value.type "tuple")=false:=by decide
 simp only [h1,h2,h3,Bool.or_false,Bool.false_eq_true,if_false];refine wpAny_bind (wpAny_pyIter_zip hz ?_);refine wpAny_bind (wpAny_holding (Sx hT ?_));refine wpAny_ite_split (fun _=>?_) (fun _=>wpAny_pure ⟨plainId_quiet F.plain_extend_loop _,key _ c₀ _ (fun b o _ e=>e) hS⟩);refine wpAny_bind (wpAny_rule ?_);refine wpAny_bind ?_
 show wpAny _ _ (updateSeq S (·.push .none) >>= fun _=>updateSeq S (·.pop)) _ _ _
 refine wpAny_bind (wpAny_updateSeq hS rfl ?_);have hS₂:=Heap.get?_update_self (Obj.mapSeq (·.push Value.none)) hS rfl;refine wpAny_updateSeq (hz:=by seq_fits) hS₂ rfl ?_;have hS₃:=Heap.get?_update_self (Obj.mapSeq (·.pop)) hS₂ rfl;refine wpAny_pure ⟨plainId_quiet F.plain_extend_loop _,key _ _ _ (fun b o hb e=>?_) hS₃⟩;exact (Heap.get?_update_other _ _ (Ne.symm hb)).trans ((Heap.get?_update_other _ _ (Ne.symm hb)).trans e)
theorem SJ {R:Result->Shared->Prop} {S:Addr} {oa ob:Value} (hh:A.handled=none) (D:cO z TI TO i1 i2) (hlt:z<S/\TI<S/\TO<S/\i1<S/\i2<S/\p1<S/\p2<S) (n1:p1∉[z,TO,i1,i2]) (n2:p2∉[z,TO,i1,i2]) (hl:xs.length=ys.length) (hn:xs.length<=sizeLine)
  (hz:IsZip s.heap z TI TO .none) (hTI:IsPair s.heap TI (.ref i1) (.ref i2)) (hTO:IsPair s.heap TO oa ob) (h1:s.heap.IsTupleIter i1 p1 0) (h2:s.heap.IsTupleIter i2 p2 0) (t1:s.heap.IsTuple p1 xs.toArray) (t2:s.heap.IsTuple p2 ys.toArray) (hS:s.heap.get? S=some { cls := .type "list",data := .seq #[] })
  (hR:∀ (h':Heap) (tk:Nat) (acc:Array Value) (c:Nat) (as:List Addr),(∀ b o,b∉[S,z,TO,i1,i2]->s.heap.get? b=some o->h'.get? b=some o)->h'.get? S=some { cls := .type "list",dict:=none,data := .seq acc c,slots:=#[] }->acc.toList=as.map Value.ref->rK xs ys (S+1) h' as->R (.ok (.ret .none)) { s with heap:=h',toks:=tk }) :
  wpAny (model prog w) A.in1 (Builtin.«list.__init__» ⟨[.ref S,.ref z],[]⟩)
   (fun fin s'=>match fin with | .done f=>R (.ok f) s' | .again c'=>c'.quiet=true/\codeAny (model prog w) A c' R s') (fun e s'=>R (.error e) s') s:=by
 show wpAny _ _ (do let old <- Builtin.List.listItems (.ref S);Builtin.List.listUpdate (.ref S) (fun _=>#[]);letGo old.toList.reverse;Builtin.List.listExtendWith (.ref S) (.ref z) .none) _ _ s
 refine wpAny_bind ?_;unfold Builtin.List.listItems;refine wpAny_bind (wpAny_seqItems hS rfl (wpAny_pure ?_))
 show wpAny _ _ (updateSeq S (fun _=>#[]) >>= fun _=>letGo (#[]:Array Value).toList.reverse >>= fun _=>Builtin.List.listExtendWith (.ref S) (.ref z) .none) _ _ s
 refine wpAny_bind (wpAny_updateSeq hS rfl ?_);have hS₂:=Heap.get?_update_self (Obj.mapSeq (fun _=>(#[]:Array Value))) hS rfl;have oth:∀ b o,b≠S->s.heap.get? b=some o->(s.heap.update S (Obj.mapSeq (fun _=>(#[]:Array Value)))).get? b=some o :=
  fun b o hb e=>(Heap.get?_update_other _ _ (Ne.symm hb)).trans e
 have m:∀ {b:Addr},b<S->∀ o,s.heap.get? b=some o->(s.heap.update S (Obj.mapSeq (fun _=>(#[]:Array Value)))).get? b=some o:=fun {b} hb o e=>oth b o (Nat.ne_of_lt hb) e
 refine wpAny_bind (wpAny_letGo ?_);refine Sy (oa:=oa) (ob:=ob) (xs:=xs) (ys:=ys) hh D hlt n1 n2 hl hn .none _ (m hlt.1 _ hz) (m hlt.2.1 _ hTI) (m hlt.2.2.1 _ hTO) ?_ ?_ ?_ ?_ hS₂ (fun h' tk acc c as hk hS' hacc hG=>?_)
 ·obtain ⟨o,e,r⟩:=h1;exact ⟨o,m hlt.2.2.2.1 _ e,r⟩
 ·obtain ⟨o,e,r⟩:=h2;exact ⟨o,m hlt.2.2.2.2.1 _ e,r⟩
 ·obtain ⟨o,e,r⟩:=t1;exact ⟨o,m hlt.2.2.2.2.2.1 _ e,r⟩
 ·obtain ⟨o,e,r⟩:=t2;exact ⟨o,m hlt.2.2.2.2.2.2 _ e,r⟩
 ·exact hR h' tk acc c as (fun b o hb e=>hk b o hb (oth b o (fun q=>hb (by simp [q])) e)) hS' hacc hG
theorem Qr {Q:Value->Shared->Prop} {oa ob:Value} (hh:A.handled=none) (D:cO z TI TO i1 i2) (n1:p1∉[z,TO,i1,i2]) (n2:p2∉[z,TO,i1,i2]) (hl:xs.length=ys.length) (hn:xs.length<=sizeLine)
  (hz:IsZip s.heap z TI TO .none) (hTI:IsPair s.heap TI (.ref i1) (.ref i2)) (hTO:IsPair s.heap TO oa ob) (h1:s.heap.IsTupleIter i1 p1 0) (h2:s.heap.IsTupleIter i2 p2 0) (t1:s.heap.IsTuple p1 xs.toArray) (t2:s.heap.IsTuple p2 ys.toArray)
  (hQ:∀ (h':Heap) (tk:Nat) (acc:Array Value) (c:Nat) (as:List Addr),(∀ b o,b∉[z,TO,i1,i2]->s.heap.get? b=some o->h'.get? b=some o)->h'.get? s.heap.objs.size=some { cls := .type "list",dict:=none,data := .seq acc c,slots:=#[] }->acc.toList=as.map Value.ref->rK xs ys (s.heap.objs.size+1) h' as->Q (.ref s.heap.objs.size) { s with heap:=h',toks:=tk }) :
  wpAny (model prog w) A (call (.type "list") [.ref z]) Q E s:=by
 refine callType_codes (Q₁:=fun obj s₁=>obj = .ref s.heap.objs.size/\s₁={ s with heap:=s.heap.push { cls := .type "list",data := .seq #[] } }) F.called_list (F.typeCall_list_1 _) F.entry_list_init
  (code_list_new _ ⟨rfl,rfl⟩) fun obj s₁ h₁=>?_
 obtain ⟨rfl,rfl⟩:=h₁;have hS:(s.heap.push { cls := .type "list",data := .seq #[] }).get? s.heap.objs.size=some { cls := .type "list",data := .seq #[] }:=Heap.get?_push_size _ rfl;obtain ⟨o1,e1,r1⟩:=h1;obtain ⟨o2,e2,r2⟩:=h2;obtain ⟨o3,e3,r3⟩:=t1;obtain ⟨o4,e4,r4⟩:=t2;refine ⟨⟨_,hS,rfl⟩,F.args_list_init_2 _ _,SJ (oa:=oa) (ob:=ob) (xs:=xs) (ys:=ys) (A:=A.in1) hh D ⟨Heap.lt_size hz,Heap.lt_size hTI,Heap.lt_size hTO,Heap.lt_size e1,Heap.lt_size e2,Heap.lt_size e3,Heap.lt_size e4⟩ n1 n2 hl hn
  (Heap.get?_push_of_some _ hz) (Heap.get?_push_of_some _ hTI) (Heap.get?_push_of_some _ hTO) ⟨_,Heap.get?_push_of_some _ e1,r1⟩ ⟨_,Heap.get?_push_of_some _ e2,r2⟩ ⟨_,Heap.get?_push_of_some _ e3,r3⟩ ⟨_,Heap.get?_push_of_some _ e4,r4⟩ hS (fun h' tk acc c as hk hS' hacc hG=>?_)⟩
 exact ⟨rfl,hQ h' tk acc c as (fun b o hb e=>hk b o (fun q=>hb (by
  rcases List.mem_cons.mp q with q | q
  ·exact absurd (Heap.lt_size e) (by rw [q];exact Nat.lt_irrefl _)
  ·exact q)) (Heap.get?_push_of_some _ e)) hS' hacc hG⟩
end
end L2
namespace L2
open PySem PySem.Spec PyProof.Rows
section
variable {X:Cx} {pins:List (Addr×Obj)} {σ:St} {H H':Hp} {s:Shared} {h':Heap}
theorem Inv.vU {t':Nat} {ch:List Addr} (I:Inv X pins σ H s) (k:∀ b o,b∉ch->s.heap.get? b=some o->h'.get? b=some o) (hf:∀ b∈ch,Wm X pins H b) (up:∀ b u,H b=some u->H' b=some u)
  (nw:∀ b u,H' b=some u->H b=none->s.heap.objs.size<=b/\YZ X.prog X.w H' h' b u):Inv X pins σ H' { s with heap:=h',toks:=t' }:=by
 have fK:∀ b u,H b=some u->b∉ch:=fun b u e z=>by rw [(hf b z).1] at e;cases e
 refine I.step (g':=s.gens) (d':=s.drawn) (ch:=ch) (fun b hb=>?_) (fun b o _ _ hc e _=>k b o hc e) (fun b o _ _ hc e _=>⟨o.slots,k b o hc e⟩) (fun b o _ e n=>?_)
  (fun b o hc e=>⟨o,k b o hc e⟩) (fun b xs e=>up b _ e) (fun b o u e=>up b _ e) (fun b ps e=>⟨#[],by rw [up b _ e];simp⟩) (fun m hm=>?_) (fun b u e=>?_) I.bare
 ·obtain ⟨f0,f1,f2,f3,f4,f5⟩:=hf b hb
  exact ⟨f3,f1,f4,f5⟩
 ·cases q:H' b with
  | none=>rfl
  | some u=>exact absurd (Heap.lt_size e) (Nat.not_lt.mpr (nw b u q n).1)
 ·obtain ⟨o,es,ep,ho,r⟩:=hm
  exact ⟨o,es,ep,k _ o (fun z=>(hf _ z).2.1 rfl) ho,r⟩
 ·cases q:H b with
  | none=>exact (nw b u e q).2
  | some v =>
   have q':=up b v q;rw [e] at q'
   cases q'
   refine (I.hok b u q).stay (fun c v hc q3=>k c v ?_ q3) (fun c q=>up c _ q) fun c xs q=>up c _ q
   rcases hc with z | z
   ·rw [z];exact fK b u q
   ·exact fK c _ z
end
theorem Vs {β:Type}:∀ (as:List Addr) (ps:List β) (j:Nat) (a:Addr) (p:β),as.Pairwise (·<·)->as[j]?=some a->ps[j]?=some p->(as.zip ps).lookup a=some p
 | [],_,j,a,p,_,h,_=>by simp at h
 | _::_,[],j,a,p,_,_,h=>by simp at h
 | b::as,q::ps,0,a,p,_,h1,h2=>by
  simp only [List.getElem?_cons_zero,Option.some.injEq] at h1 h2;subst h1;subst h2;simp [List.lookup]
 | b::as,q::ps,j+1,a,p,hp,h1,h2=>by
  simp only [List.getElem?_cons_succ] at h1 h2;obtain ⟨g1,g2⟩:=List.pairwise_cons.mp hp;have hlt:b<a:=g1 a (List.mem_of_getElem? h1);have hne:(a==b)=false:=by simpa using Nat.ne_of_gt hlt
  simp only [List.zip_cons_cons,List.lookup,hne];exact Vs as ps j a p g2 h1 h2
theorem WF {β:Type}:∀ (as:List Addr) (ps:List β) (a:Addr) (p:β),(as.zip ps).lookup a=some p->∃ j:Nat,as[j]?=some a/\ps[j]?=some p
 | [],_,a,p,h=>by simp at h
 | _::_,[],a,p,h=>by simp at h
 | b::as,q::ps,a,p,h=>by
  simp only [List.zip_cons_cons,List.lookup] at h;by_cases e:a=b
  ·subst e
   simp only [beq_self_eq_true,Option.some.injEq] at h;exact ⟨0,by simp,by simp [h]⟩
  ·have hne:(a==b)=false:=by simpa using e
   simp only [hne] at h;obtain ⟨j,h1,h2⟩:=WF as ps a p h;exact ⟨j+1,by simpa using h1,by simpa using h2⟩
section
variable {X:Cx}
def xU (K:W.Frag) (ta:TA):TE:=fun σ H Q=>ta σ H fun vs H1=>∃ a b xs ys,vs=[.ref a,.ref b]/\aJ K H1 a xs/\aJ K H1 b ys/\xs.length=ys.length /\
 ∀ (l:Addr) (as:List Addr) (H2:Hp),H1 l=none->Yf H1 H2->H2 l=some (.lst (as.map V.ref))->as.length=xs.length ->
  (∀ (j:Nat) a x y,as[j]?=some a->xs[j]?=some x->ys[j]?=some y->H1 a=none/\H2 a=some (.tup [x,y]))->Q (.ref l) H2
theorem Qg:∀ as:List Addr,Yw (as.map V.ref) (as.map Value.ref)
 | [] => .nil
 | _::as => .cons rfl (Qg as)
theorem QU:∀ {xs:List V} {us:List Value},Yw xs us->∀ {j:Nat} {x:V},xs[j]?=some x->∃ u,us[j]?=some u/\YF x u:=by
 intro xs us h
 induction h with
 | nil=>intro j x e;simp at e
 | cons r _ ih =>
  intro j x e
  cases j with
  | zero=>simp only [List.getElem?_cons_zero,Option.some.injEq] at e;subst e;exact ⟨_,rfl,r⟩
  | succ j=>simpa using ih (by simpa using e)
theorem SM {a b:Expr} {ta:TA} {p q pos pos':Pos} (SN:Gl X "list") (hml:X.mg "list"=none) (hg:Gl X "zip") (hm:X.mg "zip"=none) (ha:PA X [a,b] ta) (hc:X.calm=true)
  (hs:starEach [a,b] X.env=[(false,eval a X.env),(false,eval b X.env)]) (hs2:starEach [b] X.env=[(false,eval b X.env)]) :
  PE X (.Call (.Name "list" p) [.Call (.Name "zip" q) [a,b] [] pos'] [] pos) (xU X.K ta):=by
 intro pins s σ H Q I h;refine wpAny_Call_Name_kw (X1 I SN hml boot_list ?_);refine PyProof.Rows.callWith_type1 ?_
 show wpAny _ _ (spliced ((false,eval (.Call (.Name "zip" q) [a,b] [] pos') X.env)::[])) _ _ s
 refine Calls.spliced_cons ?_;refine wpAny_Call_Name_kw (X1 I hg hm boot_zip (PyProof.Rows.callWith_type1 (aL (ha pos' pins s σ H _ I h) fun us s1 ⟨vs,H1,I1,r1,q1⟩=>?_) (by rw [hs,hs2]) (by rw [hs2];rfl)));obtain ⟨x,y,xs,ys,e,hx,hy,hl,q⟩:=q1;subst e;obtain ⟨u,v,rfl,ru,rv⟩:=r1.two
 cases ru
 cases rv
 obtain ⟨i1,w1,ht1,z1⟩:=I1.tuple hx;obtain ⟨i2,w2,gR,z2⟩:=I1.tuple hy;have l1:x<s1.heap.objs.size:=by obtain ⟨_,e,_⟩:=ht1;exact Heap.lt_size e
 have l2:y<s1.heap.objs.size:=by obtain ⟨_,e,_⟩:=gR;exact Heap.lt_size e
 refine RJ (Vr ht1) (Vr gR) rfl rfl fun h1 hz hTI hTO g1 g2 hsz keep=>?_
 refine Calls.spliced_nil ?_;have I2:Inv X pins σ H1 { s1 with heap:=h1 }:=I1.kept (t':=s1.toks) keep;have n1:x∉[s1.heap.objs.size+4,s1.heap.objs.size+3,s1.heap.objs.size,s1.heap.objs.size+1]:=by
  intro hm;simp only [List.mem_cons,List.not_mem_nil,or_false] at hm;rcases hm with e | e | e | e<;>(have e':@Eq Nat _ _:=e;have SQ:@LT.lt Nat _ x s1.heap.objs.size:=l1;omega)
 have n2:y∉[s1.heap.objs.size+4,s1.heap.objs.size+3,s1.heap.objs.size,s1.heap.objs.size+1]:=by
  intro hm;simp only [List.mem_cons,List.not_mem_nil,or_false] at hm;rcases hm with e | e | e | e<;>(have e':@Eq Nat _ _:=e;have SQ:@LT.lt Nat _ y s1.heap.objs.size:=l2;omega)
 have t1:h1.IsTuple x i1.toArray:=by obtain ⟨o,e,r⟩:=ht1;exact ⟨o,keep _ _ e,r⟩
 have t2:h1.IsTuple y i2.toArray:=by obtain ⟨o,e,r⟩:=gR;exact ⟨o,keep _ _ e,r⟩
 have e1:=w1.length;have e2:=w2.length;refine Qr (s:={ s1 with heap:=h1 }) (xs:=i1) (ys:=i2) (I2.ok.hd hc) (RL s1.heap.objs.size) n1 n2 (by omega) (by omega) hz hTI hTO ⟨_,g1,rfl,rfl⟩ ⟨_,g2,rfl,rfl⟩ t1 t2 fun h' tk acc c as kp hS hacc hG=>?_
 let H2:Hp:=fun b=>if b=h1.objs.size then some (.lst (as.map V.ref)) else match (as.zip (xs.zip ys)).lookup b with | some p=>some (.tup [p.1,p.2]) | none=>H1 b
 have fr:∀ b,h1.objs.size<=b->H1 b=none:=fun b hb=>I2.hok.fresh hb
 have old:∀ b u,H1 b=some u->b<h1.objs.size:=fun b u e=>Nat.lt_of_not_le fun hb=>by rw [fr b hb] at e;cases e
 have lk:∀ b p,(as.zip (xs.zip ys)).lookup b=some p->h1.objs.size+1<=b:=fun b p e=>by
  obtain ⟨j,h1,_⟩:=WF _ _ _ _ e;exact hG.above b (List.mem_of_getElem? h1)
 have up:∀ b u,H1 b=some u->H2 b=some u:=fun b u e=>by
  have hb:=old b u e
  show (if b=h1.objs.size then _ else _)=_
  rw [if_neg (Nat.ne_of_lt hb)]
  cases e':(as.zip (xs.zip ys)).lookup b with
  | none=>exact e
  | some p=>exact absurd (Nat.lt_of_succ_le (lk b p e')) (Nat.not_lt.mpr (Nat.le_of_lt hb))
 have SX:∀ (j:Nat) a x y,as[j]?=some a->xs[j]?=some x->ys[j]?=some y->H2 a=some (.tup [x,y]):=fun j a x y h1' h2 h3=>by
  have ha:h1.objs.size+1<=a:=hG.above a (List.mem_of_getElem? h1')
  show (if a=h1.objs.size then _ else _)=_
  have S5:(xs.zip ys)[j]?=some (x,y):=List.getElem?_zip_eq_some.mpr ⟨h2,h3⟩;rw [if_neg (Nat.ne_of_gt (Nat.lt_of_succ_le ha)),Vs as (xs.zip ys) j a (x,y) hG.rise h1' S5]
 have hS2:H2 h1.objs.size=some (.lst (as.map V.ref)):=if_pos rfl;have hlen:as.length=xs.length:=by rw [hG.len];omega
 have I3:Inv X pins σ H2 { s1 with heap:=h',toks:=tk }:=by
  refine I2.vU (s:={ s1 with heap:=h1 }) (ch:=[s1.heap.objs.size+4,s1.heap.objs.size+3,s1.heap.objs.size,s1.heap.objs.size+1]) kp (fun b hb=>?_) up (fun b u e hn=>?_)
  ·have hle:s1.heap.objs.size<=b:=by
    simp only [List.mem_cons,List.not_mem_nil,or_false] at hb;rcases hb with e | e | e | e<;>(have e':@Eq Nat _ _:=e;show @LE.le Nat _ s1.heap.objs.size b;omega)
   exact I1.eV hle (I1.hok.fresh hle)
  ·by_cases hb:b=h1.objs.size
   ·subst hb
    rw [hS2] at e
    cases e
    refine ⟨Nat.le_refl _,(by rw [List.length_map];omega),as.map Value.ref,c,Qg as,?_⟩;rw [<- hacc];exact hS
   ·have e0:(match (as.zip (xs.zip ys)).lookup b with | some p=>some (HO.tup [p.1,p.2]) | none=>H1 b)=some u:=by
     have:H2 b=_:=if_neg hb;rw [<- this];exact e
    cases e':(as.zip (xs.zip ys)).lookup b with
    | none=>rw [e'] at e0;rw [hn] at e0;cases e0
    | some p =>
     rw [e'] at e0
     cases e0
     refine ⟨Nat.le_of_succ_le (lk b p e'),(show (2:Nat)<=sizeLine by decide),?_⟩;obtain ⟨j,j1,j2⟩:=WF _ _ _ _ e';obtain ⟨k1,k2⟩:=List.getElem?_zip_eq_some.mp j2;obtain ⟨u1,f1,r1⟩:=QU w1 k1;obtain ⟨u2,f2,r2⟩:=QU w2 k2;exact ⟨[u1,u2],.cons r1 (.cons r2 .nil),⟨_,hG.pairs j b u1 u2 j1 f1 f2,rfl,_,rfl⟩⟩
 exact ⟨.ref h1.objs.size,H2,I3,rfl,q _ as H2 (fr _ (Nat.le_refl _)) up hS2 hlen fun j a x y k1 k2 k3=>⟨fr a (Nat.le_of_succ_le (hG.above a (List.mem_of_getElem? k1))),SX j a x y k1 k2 k3⟩⟩
end
section
variable {src:List (Option Nat)} {te:TE} {σ:St} {H:Hp} {Q:VK}
theorem S6 {J:It} {P:Hp->Prop} {xs:List V} (hJ:X0 J P xs) {H1:Hp} {D:Addr} (ts:List (List V)) (hP:∀ H',Yf H1 H'->P H') (hD:H1 D=none) (hl:ts.length=xs.length) (hlen:xs.length<=100000)
  (step:∀ (i:Nat) x t H',xs[i]?=some x->ts[i]?=some t->Yf H1 H'->∀ R:VK,(∀ a aO,Yf H' aO->aO a=some (.tup t)->R (.ref a) aO)->te (some x::YN src σ) H' R)
  (fin:∀ (as:List Addr) H',Yf H1 H'->H' D=some (.lst (as.map V.ref))->as.length=xs.length->(∀ (j:Nat) a t,as[j]?=some a->ts[j]?=some t->H' a=some (.tup t))->Q (.ref D) H'):LC (none::src) J (YT 0) X9 te σ H1 Q D:=by
 have h6:100000<sizeLine:=by decide
 refine Uu hJ (fun i zs σ' H'=>∃ as:List Addr,zs=as.map V.ref/\as.length=i/\(∃ o,σ'=o::YN src σ)/\Yf H1 H'/\H' D=some (.lst zs)/\∀ (j:Nat) a t,as[j]?=some a->ts[j]?=some t->H' a=some (.tup t))
  ⟨[],rfl,rfl,⟨none,rfl⟩,.aF hD _,Yc,fun j a t h=>by simp at h⟩ (fun i zs σ' H' ⟨as,_,_,_,p1,p2,_⟩=>⟨hP _ p1,p2⟩) (Wp 0) ?_ ?_
 ·rintro i zs σ' H' x hx ⟨as,rfl,hi',⟨o,rfl⟩,sm,hd,hts⟩
  have hi:=(List.getElem?_eq_some_iff.mp hx).1;have ht:ts[i]?=some (ts[i]'(by omega)):=List.getElem?_eq_getElem _
  show te (some x::YN src σ) H' _
  refine step i x _ H' hx ht sm _ fun a aO s2 ha=>⟨s2 _ _ hd,by rw [List.length_map];omega,as++[a],by simp,by simp [hi'],⟨_,rfl⟩,.bT hD (sm.trans s2) _,Yc,fun j b t hj hjt=>?_⟩
  have key:aO b=some (.tup t):=by
   rcases Nat.lt_trichotomy j as.length with h1 | h1 | h1
   ·rw [List.getElem?_append_left h1] at hj
    exact s2 _ _ (hts j b t hj hjt)
   ·have hb:a=b:=by subst h1;simpa using hj
    subst hb;rw [h1,hi'] at hjt
    rw [ht] at hjt
    cases hjt
    exact ha
   ·rw [List.getElem?_eq_none (by rw [List.length_append,List.length_singleton];omega)] at hj;cases hj
  rw [Yg (YG key (s2 _ _ hd) (by intro z;cases z))];exact key
 ·rintro zs σ' H' ⟨as,rfl,hn,_,sm,hd,hts⟩
  exact fin as H' sm hd hn hts
theorem QV {K:W.Frag} {tl:TE} {xs:List V} (ts:List (List V)) (ha:∀ R:V->Hp->Prop,(∀ a H1,Yf H H1->aG K H1 a xs->R (.ref a) H1)->tl σ H R) (hl:ts.length=xs.length) (hlen:xs.length<=100000)
  (step:∀ (i:Nat) x t H',xs[i]?=some x->ts[i]?=some t->Yf H H'->∀ R:VK,(∀ a aO,Yf H' aO->aO a=some (.tup t)->R (.ref a) aO)->te (some x::YN src σ) H' R)
  (fin:∀ D (as:List Addr) H',H D=none->Yf H H'->H' D=some (.lst (as.map V.ref))->as.length=xs.length->(∀ (j:Nat) a t,as[j]?=some a->ts[j]?=some t->H' a=some (.tup t))->Q (.ref D) H'):fj (none::src) (WG K tl) (YT 0) X9 te σ H Q :=
 ha _ fun a H1 s1 hS=>⟨a,rfl,⟨xs,hS⟩,fun D hD=>S6 (Wo.imp fun H' (e:Yf H1 H')=>e.seq hS) ts (fun _ e=>e) hD hl hlen (fun i x t H' hx ht sm R r=>step i x t H' hx ht (s1.trans sm) R r) fun as H' sm=>fin D as H' (s1.free hD) (s1.trans sm)⟩
end
section
variable {X:Cx}
theorem S7 {i:Nat} {x:Str} {pos':Pos} {pins:List (Addr×Obj)} {σ:St} {D0:Ends} (hN:X.N.Nodup) (hix:X.N[i]?=some x) (hlx:Loc X.env.scope x) (hf:X.fn x=true\/X.env.scope.names.lookup x=some .local) (D C:Addr) (s6:Shared) (H5:Hp)
  (fi:∀ h',Heap.SameBut C s6.heap h'->Inv X pins σ H5 { s6 with heap:=h' }) (hn:∃ m,s6.heap.Ns C m) (S8:H5 C=none) (hC:∀ {H':Hp},H' C=none->Wm X pins H' C) (qn:D0.nx (σ.set i (some (.ref D))) H5) :
  compPost (model X.prog X.w) X.A X.xe (some fun v=>assignAll v ((assignEach [.Name x pos'] X.env).map (·.2))) (fun _ s'=>wpAny (model X.prog X.w) X.A (pure PUnit.unit) (fun _ s'=>wpAny (model X.prog X.w) X.A (pure Flow.next) (SP X pins D0) X.xe s') X.xe s') (.ref D) C (.ok .next) s6:=by
 obtain ⟨m,oC,es,ep,hoC,rC⟩:=hn;have IO:Inv X pins σ H5 s6:=fi s6.heap (Heap.SameBut.refl _ _);have IP:=IO.pinned (fp:=[C]) (fun b hb=>by rw [List.mem_singleton.mp hb];exact hC S8) (fun b hb=>by rw [List.mem_singleton.mp hb];exact ⟨oC,hoC,fun v z=>by (rw [rC.1] at z;cases z)⟩)
 show wpAny _ _ (assign (.Name x pos') X.env (.ref D)) _ _ _
 refine aL (Yz hN hix hlx hf _ s6 σ H5 (.ref D) (.ref D) _ IP rfl qn) fun _ s7 ⟨eE,H7,I7,q7⟩=>?_
 obtain ⟨g1,g2,_⟩:=I7.pin (C,oC) (List.mem_append_right _ (List.mem_append_right _ (Wn (List.mem_singleton.mpr rfl) hoC)));refine ⟨m,⟨oC,es,ep,g1,rC⟩,fun h' sb=>wpAny_pure (wpAny_pure ⟨eE,H7,?_,q7⟩)⟩;exact I7.dG.vR (t':=s7.toks) (ch:=[C]) (fun b o hb e=>sb.extBut b o (fun z=>hb (by rw [z];exact List.mem_singleton.mpr rfl)) e) (fun b hb=>by rw [List.mem_singleton.mp hb];exact hC g2)
theorem Hl {i:Nat} {x:Str} {pos' apos:Pos} {elt tg iter:Expr} {ifs:List Expr} {scope:Scope} {pos:Pos} {src:List (Option Nat)} {N':List Str} {wi:TI} {g:TG} {tt:TT} {te:TE} (hN:X.N.Nodup) (hix:X.N[i]?=some x) (hlx:Loc X.env.scope x) (hcap:eG X scope src N') (hc:X.calm=true) (hi:PI X tg iter wi)
  (hg:∀ cl C s₀ H₀ fp pn,PG (cH X scope N' cl C s₀ H₀ fp pn) tg g) (ht:∀ cl C s₀ H₀ fp pn,oM (cH X scope N' cl C s₀ H₀ fp pn) ifs tt) (he:∀ cl C s₀ H₀ fp pn,PE (cH X scope N' cl C s₀ H₀ fp pn) elt te)
  (hfree:∀ x,(x,NameKind.free)∈scope.names->X.env.scope.names.lookup x=some NameKind.cell\/X.env.scope.names.lookup x=some NameKind.free)
  (hk:scope.kind = .function) (hcell:∀ y∈scope.names,y.2 ≠ .cell) (hnames:∀ y∈scope.names,y.2 = .local->scope.names.lookup y.1=some .local)
  (hs:∀ x,foldedSetIterable iter X.env x=pure x) (hsw:swapsWithSole [.Name x pos'] (.ListComp elt [⟨tg,iter,ifs,0⟩] scope pos) apos.line X.env=pure true) (hf:X.fn x=true\/X.env.scope.names.lookup x=some .local) :
  PS X (.Assign [.Name x pos'] (.ListComp elt [⟨tg,iter,ifs,0⟩] scope pos) apos) (QJ (fj src wi g tt te) (YT i)):=by
 intro pins s σ H D0 I h;obtain ⟨cl,hcl,a,b⟩:=Ut X.env scope fun x hx=>I.ok.has x (hfree x hx)
 rw [exec_Assign_arm];refine wpAny_bind (wpAny_standAt ?_);rw [hsw];refine wpAny_bind (wpAny_pure ?_);rw [if_pos rfl];refine wpAny_bind ?_;rw [arm_evalThenUse_ListComp];refine wpAny_bind ?_;refine wpAny_comprehension_free (use:=some _) rfl hs hcl hk hnames (aL (hi pins s σ H _ I h) fun v s1 h1=>aL h1 fun itv s2 h2=>?_);exact QS (Po:=fun v C=>compPost (model X.prog X.w) X.A X.xe (some fun v=>assignAll v ((assignEach [.Name x pos'] X.env).map (·.2))) (fun _ s'=>wpAny (model X.prog X.w) X.A (pure PUnit.unit) (fun _ s'=>wpAny (model X.prog X.w) X.A (pure Flow.next) (SP X pins D0) X.xe s') X.xe s') v C) (Z:=fun _ _ _ _ _ _ _=>False) hcap hc (hg cl) (ht cl) (he cl) hk hcell a b h2 (S7 hN hix hlx hf) fun _ _ _ _ _ _ _ _ z=>z.elim
end
def YM {α:Type}:Sem α->Prop
 | .pure _=>True
 | .raise _=>True
 | .unsupported _=>True
 | .rule _ k=>YM (k ())
 | .at _ k=>YM (k ())
 | .load _ _ k=>∀ o,YM (k o)
 | .update _ _ f k=>(∀ o:Obj,(f o).dict=o.dict/\(f o).isFreed=o.isFreed)/\YM (k ())
 | .alloc _ k=>∀ a,YM (k a)
 | .stack k=>∀ x,YM (k x)
 | _=>False
def XW (h:Heap) (e:Addr) (dc:Option Addr):Prop:=∃ o,h.get? e=some o/\o.dict=dc
theorem S9 {α β:Type} {f:α->Sem β} (m:Sem α):YM m->(∀ a,YM (f a))->YM (m.bind f):=by
 induction m with
 | pure a=>intro _ hf;exact hf a
 | raise e=>intro _ _;simp only [Sem.bind,YM]
 | unsupported e=>intro _ _;simp only [Sem.bind,YM]
 | rule n k ih=>intro h hf;simp only [YM] at h;simp only [Sem.bind,YM];exact ih () h hf
 | «at» n k ih=>intro h hf;simp only [YM] at h;simp only [Sem.bind,YM];exact ih () h hf
 | load a b k ih=>intro h hf;simp only [YM] at h;simp only [Sem.bind,YM];exact fun o=>ih o (h o) hf
 | update a b g k ih=>intro h hf;simp only [YM] at h;simp only [Sem.bind,YM];exact ⟨h.1,ih () h.2 hf⟩
 | alloc a k ih=>intro h hf;simp only [YM] at h;simp only [Sem.bind,YM];exact fun o=>ih o (h o) hf
 | stack k ih=>intro h hf;simp only [YM] at h;simp only [Sem.bind,YM];exact fun o=>ih o (h o) hf
 | _=>intro h;simp only [YM] at h
theorem Tc {M:Model} {Γ:PySem.Ctx} {α:Type} {Q:α->Pos->Shared->Prop} {E:Value->Pos->Shared->Prop} {e:Addr} {dc:Option Addr} (t:Sem α):YM t->∀ (p:Pos) (s:Shared),Sem.wp M Γ t Q E p s->XW s.heap e dc->Sem.wp M Γ t (fun a p s'=>Q a p s'/\XW s'.heap e dc) (fun v p s'=>E v p s'/\XW s'.heap e dc) p s:=by
 induction t with
 | pure a=>intro _ p s h d;simp only [Sem.wp] at h ⊢;exact ⟨h,d⟩
 | raise a=>intro _ p s h d;simp only [Sem.wp] at h ⊢;exact ⟨h,d⟩
 | unsupported a=>intro _ p s h d;simp only [Sem.wp] at h
 | rule n k ih=>intro t p s h d;simp only [YM] at t;simp only [Sem.wp] at h ⊢;exact ih () t p s h d
 | «at» n k ih=>intro t p s h d;simp only [YM] at t;simp only [Sem.wp] at h ⊢;exact ih () t n s h d
 | load a b k ih=>intro t p s h d;simp only [YM] at t;simp only [Sem.wp] at h ⊢;obtain ⟨o,h1,h2⟩:=h;exact ⟨o,h1,ih o (t o) p s h2 d⟩
 | update a b f k ih =>
  intro t p s h d;simp only [YM] at t;simp only [Sem.wp] at h ⊢;obtain ⟨o,d1,d2⟩:=d;refine ⟨h.1,ih () t.2 p _ h.2 ?_⟩;by_cases c:a=e
  ·subst c
   exact ⟨f o,Heap.get?_update_self f d1 (by rw [(t.1 o).2];exact (Heap.get?_some_iff.mp d1).2),by rw [(t.1 o).1];exact d2⟩
  ·exact ⟨o,(Heap.get?_update_other _ _ c).trans d1,d2⟩
 | alloc a k ih=>intro t p s h d;simp only [YM] at t;simp only [Sem.wp] at h ⊢;obtain ⟨o1,d1,d2⟩:=d;exact ih _ (t _) p _ h ⟨o1,Heap.get?_push_of_some _ d1,d2⟩
 | stack k ih=>intro t p s h d;simp only [YM] at t;simp only [Sem.wp] at h ⊢;exact ih _ (t _) p s h d
 | _=>intro t;simp only [YM] at t
theorem QW {M:Model} {A:Around} {α:Type} {t:Sem α} {Q:α->Shared->Prop} {E:Value->Shared->Prop} {s:Shared} {e:Addr} {dc:Option Addr} (T:YM t) (d:XW s.heap e dc) (h:wpAny M A t Q E s):wpAny M A t (fun a s'=>Q a s'/\XW s'.heap e dc) (fun v s'=>E v s'/\XW s'.heap e dc) s :=
 fun Γ p hΓ=>Tc t T p s (h Γ p hΓ) d
theorem YX {α β:Type} {m:Sem α} {f:α->Sem β} (h:YM m) (hf:∀ a,YM (f a)):YM (m >>= f):=S9 m h hf
theorem Vf {α:Type} (a:α):YM (pure a:Sem α):=trivial
theorem Td {α:Type} (x:String):YM (unsupported x:Sem α):=trivial
theorem Te:YM stack:=fun _=>trivial
theorem Tf (a:Addr) (f:Obj->Obj) (h:∀ o:Obj,(f o).dict=o.dict/\(f o).isFreed=o.isFreed):YM (update a f):=⟨h,trivial⟩
theorem Qs (v:Value):YM (fieldsOf v):=by
 unfold fieldsOf
 cases v<;>first | trivial | skip
 refine YX (fun o=>trivial) fun o=>?_
 cases o.data<;>trivial
theorem WJ (v:Value) (i:Nat):YM (field v i):=by
 unfold field;refine YX (Qs v) fun vs=>?_
 cases vs[i]?<;>trivial
theorem MF (f:Array Value->Array Value) (o:Obj):(Obj.mapFields f o).dict=o.dict/\(Obj.mapFields f o).isFreed=o.isFreed:=by
 obtain ⟨c,d,dt,sl⟩:=o
 cases dt<;>exact ⟨rfl,rfl⟩
theorem Ue (a:Addr) (i:Nat) (v:Value):YM (updateField a i v):=by
 unfold updateField;refine YX (fun o=>trivial) fun o=>?_
 cases o.data with
 | fields vs =>
  dsimp only
  split
  ·exact ⟨MF _,trivial⟩
  ·trivial
 | _=>trivial
theorem X6 (v:Value) (i:Nat) (x:Value):YM (setField v i x):=by
 unfold setField
 cases v<;>first | trivial | exact Ue _ _ _
theorem US (v:Value) (f:Option Addr):YM (setFlight v f):=by
 unfold setFlight;refine YX (WJ _ _) fun tb=>?_
 split
 ·exact X6 _ _ _
 ·trivial
theorem Qt (env:Env) (b:Bool) (l:List Env):YM (keptBack env b l):=by
 cases l with
 | nil =>
  rw [keptBack];by_cases c:(env.scope.isGenerator||env.scope.isCoroutine)=true
  ·rw [if_pos c];exact Vf _
  ·rw [if_neg c]
   refine YX ?_ fun x=>Vf _
   unfold underTheClaimsCaller;exact YX Te fun x=>Vf _
 | cons x r=>rw [keptBack];exact Vf _
theorem Ux:∀ l:List Env,YM (readyFrames l)
 | []=>trivial
 | env::outer=>by
  unfold readyFrames
  cases env.frame with
  | none=>trivial
  | some f =>
   dsimp only;refine YX (fun o=>trivial) fun o=>?_
   split
   ·trivial
   ·refine YX ?_ fun b=>YX (Qt _ _ _) fun k=>YX (Tf _ _ fun o=>by obtain ⟨c,d,dt,sl⟩:=o;cases dt<;>exact ⟨rfl,rfl⟩) fun _=>Ux outer
    unfold behindIsImport
    split
    ·trivial
    ·split
     ·trivial
     ·exact YX (WJ _ _) fun x=>trivial
theorem VA (env:Env):YM (PySem.frameOf env):=by
 unfold PySem.frameOf frameEnvs;refine YX (YX (fun x=>trivial) fun x=>trivial) fun l=>?_
 generalize l.dropWhile _=l';refine YX ?_ fun r=>?_
 ·cases l' with
  | nil=>trivial
  | cons x r =>
   unfold frameObject;exact YX (Ux _) fun _=>trivial
 ·cases r<;>trivial
theorem UT (ty:String) (vs:List Value):YM (newFields ty vs):=by
 unfold newFields newObj;dsimp only
 split
 ·exact YX (Td _) fun _=>YX (fun _=>trivial) fun _=>Vf _
 ·exact YX (m:=alloc _) (fun _=>trivial) fun _=>Vf _
theorem Vt (a b c d e:Value) (pl:List Value):YM (EntryCells.newEntry a b c d e pl):=UT _ _
theorem Uy (f:Addr) (b:Bool):YM (entryPlaceOf f b):=by
 unfold entryPlaceOf;refine YX (fun x=>trivial) fun l=>?_
 split<;>trivial
theorem UU (e:Value) (env:Env):YM (noteFrame e env):=by
 unfold noteFrame
 cases env.frame with
 | none=>trivial
 | some f =>
  dsimp only;refine YX (WJ _ _) fun hd=>?_
  split
  ·refine YX (WJ _ _) fun x=>?_
   split
   ·trivial
   ·exact YX (X6 _ _ _) fun _=>YX (VA _) fun _=>YX (Uy _ _) fun _=>YX (Vt _ _ _ _ _ _) fun _=>X6 _ _ _
  ·exact YX (VA _) fun _=>YX (Uy _ _) fun _=>YX (Vt _ _ _ _ _ _) fun _=>X6 _ _ _
theorem VB (env:Env) (e:Value):YM (leaving env e):=by
 unfold leaving;exact YX (UU _ _) fun _=>US _ _
structure dD (P:Program) (w:World) (l:List Env) (H:Hp) (h:Heap) (e:Addr) (cls:Value) (H':Hp) (h' B:Heap):Prop where
 fl:∃ a0,Heap.FlyingW B l e cls a0 h'
 hok:bf P w H' B
 keep:∀ b o,h.get? b=some o->H b=none->b∉frs l->B.get? b=some o
 slot:∀ b o,h.get? b=some o->H b=none->b∈frs l->∃ sl,h'.get? b=some { o with slots:=sl }
 al:∀ b o,h.get? b=some o->b∉frs l->∃ o',B.get? b=some o'
 free:∀ b o,h.get? b=some o->H b=none->H' b=none
 tups:∀ b xs,H b=some (.tup xs)->H' b=some (.tup xs)
 bF:∀ b o u,H b=some (.bH o u)->H' b=some (.bH o u)
 bR:∀ b ps,H b=some (.aU ps)->∃ more,H' b=some (.aU (ps++more))
section
variable {P:Program} {w:World} {l:List Env} {H H':Hp} {h h' h'' B:Heap} {e:Addr} {cls:Value}
theorem dD.un (F:dD P w l H h e cls H' h' B) (hf:∀ b∈frs l,H b=none):Un (frs l) [] H H' h h':=by
 obtain ⟨a0,fl⟩:=F.fl;refine ⟨fun b o q n hb _=>fl.1 b o (F.keep b o q n hb),fun b o q n hb _=>F.slot b o q n hb,fun b o q n _=>F.free b o q n,fun b o q _=>?_,F.tups,F.bF,F.bR⟩;by_cases hb:b∈frs l
 ·obtain ⟨sl,z⟩:=F.slot b o q (hf b hb) hb
  exact ⟨_,z⟩
 ·obtain ⟨o',z⟩:=F.al b o q hb
  exact ⟨o',fl.1 b o' z⟩
theorem dD.held (F:dD P w l H h e cls H' h' B):bf P w H' h':=by
 obtain ⟨a0,fl⟩:=F.fl;exact F.hok.kept fl.1
theorem dD.on (F:dD P w l H h e cls H' h' B) (fl:∃ a0,Heap.FlyingW B l e cls a0 h'') (nf:∀ b∈frs l,∀ o,h.get? b=some o->∀ vs,o.data ≠ .fields vs) (sm:h'.UpToSlots h''):dD P w l H h e cls H' h'' B :=
 ⟨fl,F.hok,F.keep,fun b o q n hb=>by
  obtain ⟨sl,z⟩:=F.slot b o q n hb;obtain ⟨sl',z'⟩:=sm b _ z (nf b hb o q);exact ⟨sl',z'⟩,F.al,F.free,F.tups,F.bF,F.bR⟩
end
section
variable {X:Cx} {pins:List (Addr×Obj)} {σ:St} {H H':Hp} {s s':Shared} {h' B:Heap} {e:Addr} {cls:Value} {M:Model} {A:Around} {Q:Unit->Shared->Prop} {EE:Value->Shared->Prop}
theorem Inv.MJ (I:Inv X pins σ H s) {b:Addr} {o:Obj} (q:X.s₀.heap.get? b=some o):b≠X.env.locals:=Nat.ne_of_lt (Nat.lt_of_lt_of_le (Heap.lt_size q) I.ok.above)
theorem Inv.gU (I:Inv X pins σ H s) (hf:X.env.frame=some X.env.locals) {b:Addr} {o:Obj} (q:X.s₀.heap.get? b=some o) (n:b∉X.fs):b∉frs (X.env::X.outer):=fun z=>by
 unfold frs at z;rw [List.filterMap_cons,hf] at z
 rcases List.mem_cons.mp z with z | z
 ·exact I.MJ q z
 ·exact n z
theorem Inv.Et (I:Inv X pins σ H s) (hf:X.env.frame=some X.env.locals) {b:Addr} (n:b∈X.fs):b∈frs (X.env::X.outer):=by
 unfold frs;rw [List.filterMap_cons,hf];exact List.mem_cons_of_mem _ n
theorem Inv.nG {vs:List Value} (I:Inv X pins σ H s) (hs:X.stack=X.env::X.outer) (hf:X.env.frame=some X.env.locals) (hex:X.ex=[]) (hA:A.frames=some (X.env::X.outer)) (hm:Heap.MadeExcOf s.heap h' e cls vs)
  (hQ:∀ h'' B,dD X.prog X.w X.outer X.H₀ X.s₀.heap e cls H h'' B->XW h'' e none->Q () { s with heap:=h'' }):wpAny M A (leaving X.env (.ref e)) Q EE { s with heap:=h' }:=by
 have nx:∀ b:Addr,b∉X.ex:=by
  rw [hex];intro b z
  cases z
 have st:=I.stack;have sf:=I.fU;rw [hs] at st sf
 have hd0:XW h' e none:=by
  obtain ⟨t,he,_⟩:=hm.there;exact ⟨_,he,rfl⟩
 refine wpAny_mono (QW (VB _ _) (s:={ s with heap:=h' }) hd0 (wpAny_leaves_madeW (Q:=fun _ s'=>∃ h'',s'={ s with heap:=h'' }/\dD X.prog X.w X.outer X.H₀ X.s₀.heap e cls H h'' (PySem.W.hideAll s.heap (frs (X.env::X.outer)))) (base:=PySem.W.hideAll s.heap (frs (X.env::X.outer))) (h:=s.heap) hA hf (fun b o q=>PySem.W.of_hideAll _ q) (PySem.W.funFrames_hide st fun env he a ha=>List.mem_filterMap.mpr ⟨env,he,ha⟩) hm fun h'' t x1 x2 x3 x4=>⟨h'',rfl,?_⟩)) (fun _ s' z=>by
  obtain ⟨⟨h'',rfl,F⟩,d⟩:=z;exact hQ h'' _ F d) fun _ _ z=>z.1
 refine ⟨⟨_,x1⟩,fun b u q=>?_,fun b o q n nb=>PySem.W.hideAll_get _ (I.base.keep b o q n nb (nx b)) (I.gU hf q nb),fun b o q n hb=>?_,fun b o q nb=>?_,fun b o q n=>I.base.free b o q n (nx b),I.base.tups,I.base.bF,I.base.bR⟩
 ·refine (I.hok b u q).stay (fun c v hc r=>PySem.W.hideAll_get _ r fun z=>?_) (fun _ z=>z) fun _ _ z=>z
  have n:=sf c z;rcases hc with rfl | hc
  ·rw [n] at q;cases q
  ·rw [n] at hc;cases hc
 ·obtain ⟨sl,e1⟩:=I.base.slot b o q n hb (nx b)
  obtain ⟨_,o',e',d⟩:=I.ok.bV.mem hb;rw [q] at e'
  cases e'
  obtain ⟨sl',e2⟩:=x4 b _ (hm.keeps b _ e1) d;exact ⟨sl',e2⟩
 ·obtain ⟨o',e1⟩:=I.base.there b o q (nx b)
  exact ⟨o',PySem.W.hideAll_get _ e1 (I.gU hf q nb)⟩
theorem Inv.rM (I:Inv X pins σ H s) (hs:X.stack=X.env::X.outer) (hf:X.env.frame=some X.env.locals) (hex:X.ex=[]) (hA:A.frames=some (X.env::X.outer)) (F:dD X.prog X.w X.stack H s.heap e cls H' s'.heap B) {dc:Option Addr} (hd:XW s'.heap e dc)
  (hQ:∀ h'',dD X.prog X.w X.outer X.H₀ X.s₀.heap e cls H' h'' B->XW h'' e dc->Q () { s' with heap:=h'' }):wpAny M A (leaving X.env (.ref e)) Q EE s':=by
 have nx:∀ b:Addr,b∉X.ex:=by
  rw [hex];intro b z
  cases z
 rw [hs] at F
 obtain ⟨a0,fl⟩:=F.fl;refine wpAny_mono (QW (VB _ _) hd (wpAny_leaves_onW (Q:=fun _ s2=>∃ h'',s2={ s' with heap:=h'' }/\dD X.prog X.w X.outer X.H₀ X.s₀.heap e cls H' h'' B) hA hf fl fun h'' x1 x2=>⟨h'',rfl,?_⟩)) (fun _ s2 z=>by
  obtain ⟨⟨h'',rfl,F⟩,d⟩:=z;exact hQ h'' F d) fun _ _ z=>z.1
 refine ⟨⟨_,x1⟩,F.hok,fun b o q n nb=>F.keep b o (I.base.keep b o q n nb (nx b)) (I.base.free b o q n (nx b)) (I.gU hf q nb),fun b o q n hb=>?_,fun b o q nb=>?_,fun b o q n=>?_,fun b xs q=>F.tups b xs (I.base.tups b xs q),fun b o u q=>F.bF b o u (I.base.bF b o u q),fun b ps q=>?_⟩
 ·obtain ⟨sl,e1⟩:=I.base.slot b o q n hb (nx b)
  obtain ⟨sl1,e2⟩:=F.slot b _ e1 (I.base.free b o q n (nx b)) (I.Et hf hb);obtain ⟨_,o',e',d⟩:=I.ok.bV.mem hb;rw [q] at e'
  cases e'
  obtain ⟨sl',e3⟩:=x2 b _ e2 d;exact ⟨sl',e3⟩
 ·obtain ⟨o',e1⟩:=I.base.there b o q (nx b)
  exact F.al b o' e1 (I.gU hf q nb)
 ·obtain ⟨o',e1⟩:=I.base.there b o q (nx b)
  exact F.free b o' e1 (I.base.free b o q n (nx b))
 ·obtain ⟨m1,e1⟩:=I.base.bR b ps q
  obtain ⟨m2,e2⟩:=F.bR b _ e1;exact ⟨m1++m2,by rw [e2,Array.append_assoc]⟩
end
def jT (P:Program) (w:World):dH:=fun l H s E e s'=>∃ (a:Addr) (cls:Value) (H':Hp) (B:Heap) (dc:Option Addr),e = .ref a/\s'.os=s.os/\AllBare s'.gens/\dD P w l H s.heap a cls H' s'.heap B/\XW s'.heap a dc/\E cls dc H'
abbrev Gx.cI (g:Gx) (N:List Str) (qual:Str) (st:Stmt) (f:Addr) (cdv:Value) (A:Around) (outer:List Env) (s:Shared) (H:Hp) (E:XK):Cx:=WE (jT g.P g.w) g.P g.w g.K g.mg g.base N qual (Yi st) f cdv A outer s H E
section
variable {g:Gx} {N:List Str} {qual:Str} {st:Stmt} {f:Addr} {cdv:Value} {A:Around} {outer:List Env} {s:Shared} {H:Hp} {E:XK}
theorem Eu:X3 (jT g.P g.w) (g.cI N qual st f cdv A outer s H E) E:=by
 intro pins σ H1 s1 e s' I hq;obtain ⟨a,cls,H',B,dc,he,os,bare,F,hd,q⟩:=hq;subst he;exact I.rM rfl rfl rfl I.ok.frames F hd fun h'' F' hd'=>⟨a,cls,H',B,dc,rfl,os.trans I.os,bare,F',hd',q⟩
def Ho (X:Cx) (E:XK):Prop:=∀ (pins:List (Addr×Obj)) (σ:St) (H:Hp) (s:Shared) (h':Heap) (e:Addr) (cls:Value) (vs:List Value),Inv X pins σ H s->Heap.MadeExcOf s.heap h' e cls vs->E cls none H->X.xe (.ref e) { s with heap:=h' }
theorem Tg:Ho (g.cI N qual st f cdv A outer s H E) E:=by
 intro pins σ H1 s1 h' e cls vs I hm q;exact I.nG rfl rfl rfl I.ok.frames hm fun h'' B F hd=>⟨e,cls,H1,B,none,rfl,I.os,I.bare,F,hd,q⟩
end
def Gx.eH (g:Gx) (k:Nat) (x:Str) (ps:List Str) (sp:Sp):Prop:=∃ f fd,aY g.P g.w g.K g.mg g.base (jT g.P g.w) k f fd ps sp/\Xn g.K fd ps []/\W.keepIn g.K (.ref f)=true/\g.mg x=some (.ref f)
def Ew (g:Gx) (k:Nat) (N:List Str) (qual:Str) (st:Stmt) (sp:Sp):Prop:=∀ (f:Addr) (cdv:Value) (A:Around) (outer:List Env) (s:Shared) (H:Hp) (vs:List V) (Q:VK) (E:XK),aP k (g.cI N qual st f cdv A outer s H E).A->sp vs H Q E ->
 ∃ t,cM (g.cI N qual st f cdv A outer s H E) (YY st) t/\t { nx:=fun _ H'=>Q .non H',rt:=Q } (XA N vs) H
section
variable {g:Gx} {k:Nat} {x qual m:Str} {st:Stmt} {N ps:List Str} {sp:Sp} {C:Addr}
theorem Gx.Raw.fnX (R:g.Raw x qual st ps) (S:aH N ps (Yi st)) (len:∀ vs H Q E,sp vs H Q E->vs.length=ps.length) (b:Ew g k N qual st sp):g.eH (k+1) x ps sp:=by
 obtain ⟨f,fd,F,bd,hm⟩:=R;refine ⟨f,fd,?_,bd,F.kp,hm⟩;obtain ⟨oc,od,kV,doc,pm,an,cdv,ct,osl,rfl,lk,hcd⟩:=F.ex;exact wQ lk hcd S len fun A outer s H vs Q E hr h=>b f cdv A outer s H vs Q E hr h
theorem Gx.eH.mono {j:Nat} (F:g.eH j x ps sp) (h:j<=k):g.eH k x ps sp:=by
 obtain ⟨f,fd,F,r⟩:=F;exact ⟨f,fd,F.mono h,r⟩
end
section
variable {g:Gx} {X:Cx} {k j:Nat} {x:Str} {ps:List Str} {sp:Sp} {E:XK} {e:Expr} {es:List Expr} {t:TA} {p pos cpos np:Pos}
theorem Hq (F:g.eH j x ps sp) (hr:aP k X.A) (hp:X3 (jT g.P g.w) X E) (ha:PA X (e::es) t) (hj:j<=k) (hX:X.gx=g) (hg:Gl X x) (hdb:(x==("__debug__":Str))=false)
  (he:starEach (e::es) X.env=(false,eval e X.env)::starEach es X.env) (hpl:(backTo pos (starEach es X.env)).any (·.1)=false):PE X (.Call (.Name x p) (e::es) [] pos) (WY sp [] E t):=by
 subst hX;obtain ⟨f,fd,F,b,kp,hm⟩:=F;exact Gq F (hr.mono hj) hg hm kp b .nil hp ha hdb he hpl
theorem PS.cN {st:Stmt} {t:TS} (h:PS X.cN st t):PS X st t:=fun pins s σ H D I hw =>
 wpAny_mono (h pins s σ H D (I.wish _) hw) (fun _ _ q=>q.cA) fun _ _ z=>False.elim z
abbrev QX:List Value:=[.type "ValueError",.type "Exception",.type "BaseException",.type "object"]
structure Gx.Exc (g:Gx) (x:Str) (C:Addr):Prop where
 bound:g.mg x=some (.ref C)
 own:W.excIn g.K C QX "ValueError.__new__"=true
theorem Ti {K:W.Frag} {h:Heap} {C:Addr} {tl:List Value} {nw:String} (In:K.In h) (q:W.excIn K C tl nw=true) :
  ∃ (bm:List Value) (ns:Addr) (nm qn:Str) (bs:List Value) (hd:Bool) (sn:List Str) (sub:List Value) (ab:Bool) (col:Option Bool) (dd:Option Addr) (k0 k1 k2 k3 k5:Option Value) (mN:Str->Option Value),
   h.get? C=some (excClassObj nm qn C ns bs bm hd sn sub ab col dd k0 k1 k2 k3 k5 nw)/\h.Ns ns mN/\mN "__init__"=none/\OwnTail h tl bm:=by
 unfold W.excIn at q
 split at q
 case h_2=>exact absurd q (by decide)
 case h_1 dd cd sl lk =>
  split at q
  case h_2=>exact absurd q (by decide)
  case h_1 c2 bm k0 k1 k2 k3 n k5 em es =>
   simp only [beq_iff_eq,Bool.and_eq_true,Bool.not_eq_true'] at q;obtain ⟨⟨⟨⟨⟨q1,q2⟩,q3⟩,q4⟩,q5⟩,q6⟩:=q;obtain ⟨nm,bs,mro,ns,qn,hd,sn,sub,ab,col,del⟩:=cd;obtain ⟨lst⟩:=sl;dsimp only at em q3 q5 q6 es;subst q1 q2 em q3 es;exact ⟨bm,ns,nm,qn,bs,hd,sn,sub,ab,col,dd,k0,k1,k2,k3,k5,_,In _ _ lk,.of_isNs (W.isNs_of_in In q5),W.nsMap_none_of_in In q5 q6,W.tail_of_in In q4⟩
def QY (C:Addr) (E:XK) (t:TA):TS:=fun _ σ H=>t σ H fun vs H1=>vs.length<=sizeLine/\E (.ref C) none H1
theorem Tj {C:Addr} (hC:g.Exc x C) (hR:Ho X E) (ha:PA X (e::es) t) (hc:X.calm=true) (hX:X.gx=g) (hg:Gl X x) (hdb:(x==("__debug__":Str))=false)
  (he:starEach (e::es) X.env=(false,eval e X.env)::starEach es X.env) (hpl:(backTo cpos (starEach es X.env)).any (·.1)=false) :
  PS X (.Raise (some (.Call (.Name x np) (e::es) [] cpos)) none pos) (QY C E t):=by
 subst hX;intro pins s σ H D I h;obtain ⟨bm,ns,nm,qn,bs,hd,sn,sub,ab,col,dd,k0,k1,k2,k3,k5,mN,hO,hN,hni,T⟩:=Ti I.mod.eZ hC.own;refine wpAny_Raise_call_subT (C:=C) (nm:=nm) (q:=qn) (N:=ns) (bs:=bs) (bm:=bm) (hdct:=hd) (sn:=sn) (sub:=sub) (ab:=ab) (col:=col) (dd:=dd) (k0:=k0) (k1:=k1) (k2:=k2) (k3:=k3) (k5:=k5)
  F.excBase_ValueError (mN:=mN) (T.hasType F.excBase_ValueError.hasBase) (I.ok.hd hc) ?_ hni (Wd I hg hC.bound ⟨rfl,?_⟩ hdb)
 ·rw [he]
  show (false||(backTo cpos (starEach es X.env)).any (·.1))=false
  rw [hpl];rfl
 ·have a1:=ha cpos pins s σ H _ I h
  rw [he] at a1 ⊢
  refine Calls.evalArgs_plain (wpAny_mono a1 (fun us s2 hz=>?_) fun _ _ y=>y);obtain ⟨vs,H2,I2,r,q1,q2⟩:=hz;exact ⟨rfl,by rw [<- r.length];exact q1,I2.bk _ _ hO,hN.keeps I2.bk,T.keeps I2.bk,fun h' e hm=>hR pins σ H2 s2 h' e _ us I2 hm q2⟩
end
abbrev Cx.caught (X:Cx) (e:Addr):Cx:={ X with A:=X.A.mark (some (.ref e)),calm:=false,xe:=fun _ _=>False }
section
variable {X:Cx} {pins:List (Addr×Obj)} {σ:St} {H H' H1:Hp} {s s1 s':Shared} {e:Value} {D:Ends} {ts:TS} {b₀:Stmt} {suite:List Stmt} {c:Str} {cv:Value} {cp hpos:Pos}
theorem Inv.caught (I:Inv X pins σ H s) (a:Addr):Inv (X.caught a) pins σ H s :=
 ⟨⟨I.ok.mod,I.ok.kind,I.ok.glob,I.ok.blt,I.ok.above,I.ok.inj,I.ok.has,I.ok.cab,fun z=>(by cases z),I.ok.frames,I.ok.stk,I.ok.rY,I.ok.bs,I.ok.dO,I.ok.gF,I.ok.iJ,I.ok.bV,I.ok.d9⟩,I.os,I.bare,I.base,I.loc,I.cell,I.free,I.aV,I.pin,I.hok,I.len⟩
theorem Inv.uncaught {a:Addr} (hd:X.calm=true->X.A.handled=none) (I:Inv (X.caught a) pins σ H s):Inv X pins σ H s :=
 ⟨⟨I.ok.mod,I.ok.kind,I.ok.glob,I.ok.blt,I.ok.above,I.ok.inj,I.ok.has,I.ok.cab,hd,I.ok.frames,I.ok.stk,I.ok.rY,I.ok.bs,I.ok.dO,I.ok.gF,I.ok.iJ,I.ok.bV,I.ok.d9⟩,I.os,I.bare,I.base,I.loc,I.cell,I.free,I.aV,I.pin,I.hok,I.len⟩
theorem SP.uncaught {a:Addr} {f:Flow} (hd:X.calm=true->X.A.handled=none) (h:SP (X.caught a) pins D f s):SP X pins D f s:=by
 cases f with
 | next=>obtain ⟨σ',H',I,q⟩:=h;exact ⟨σ',H',I.uncaught hd,q⟩
 | brk=>obtain ⟨σ',H',I,q⟩:=h;exact ⟨σ',H',I.uncaught hd,q⟩
 | cont=>obtain ⟨σ',H',I,q⟩:=h;exact ⟨σ',H',I.uncaught hd,q⟩
 | ret u=>obtain ⟨v,σ',H',I,r,q⟩:=h;exact ⟨v,σ',H',I.uncaught hd,r,q⟩
theorem Inv.seen {a:Addr} {cls:Value} {B:Heap} (I:Inv X pins σ H1 s1) (F:dD X.prog X.w X.stack H1 s1.heap a cls H' s'.heap B) (os:s'.os=s1.os) (bare:AllBare s'.gens):Inv X pins σ H' s' :=
 I.call' (ch:=[]) os (F.un I.fU) F.held bare fun b z=>nomatch z
theorem Inv.vV (I:Inv X pins σ H1 s1):∀ b∈frs X.stack,∀ o,s1.heap.get? b=some o->∀ vs,o.data ≠ .fields vs:=fun b hb o q=>by
 obtain ⟨_,o',e',d⟩:=I.stack.mem hb;rw [q] at e'
 cases e'
 exact d
theorem Inv.catch (I:Inv X pins σ H1 s1) (hs:X.stack=X.env::X.outer) (hf:X.env.frame=some X.env.locals) (hq:jT X.prog X.w X.stack H1 s1 (fun cls _ H2=>PySem.W.exmOne X.K cls cv=some true/\ts D σ H2) e s')
  (xV:∀ a,cM (X.caught a) (b₀::suite) ts) (hc:Gl X c) (hcm:X.mg c=some cv) (hdb:(c==("__debug__":Str))=false) :
  wpAny (model X.prog X.w) X.A (noteFrame e X.env) (fun _ s₂=>wpAny (model X.prog X.w) X.A (setFlight e none) (fun _ s₃=>wpAny (model X.prog X.w) X.A (handleBy e X.env [.ExceptHandler (some (.Name c cp)) none (b₀::suite) hpos]) (SP X pins D) X.xe s₃) X.xe s₂) X.xe s':=by
 obtain ⟨a,cls,H2,B,dc,rfl,os,bare,F,hdc,hm,ht⟩:=hq;obtain ⟨a0,fl⟩:=F.fl;have nf:=I.vV;have Hr:=fl;rw [hs] at Hr
 have hfr:=I.ok.frames;rw [hs] at hfr
 refine wpAny_looks_onW hfr hf Hr fun h₄ held Tn=>wpAny_landsW held fun h₅ tV oO=>?_
 rw [<- hs] at tV
 have F5:=F.on ⟨a0,tV⟩ nf (Tn.trans oO);have I5:Inv X pins σ H2 { s' with heap:=h₅ }:=I.seen (s':={ s' with heap:=h₅ }) F5 os bare;have Tq:=I5.caught a;refine wpAny_handleBy_cons (codeAny_handlers_test (Wd Tq hc hcm ?_ hdb)) (by intro q;cases q);obtain ⟨ob,hob,hcl⟩:=tV.there;have LT:PySem.W.Looks (model X.prog X.w) h₅ (typeOf (.ref a)) cls:=by
  subst hcl;exact (PySem.W.Looks.ld hob).andThen .now
 refine PySem.W.exm_one (K:=X.K) (h:=h₅) I5.bA LT hm _ _ _ _ (fun _ _ z=>z) ?_;refine codeAny_handlers_suite ?_;refine lands_againW tV fun h₆ Tr Tt=>?_
 have F6:=F5.on ⟨a0,Tr⟩ nf Tt;have I6:Inv X pins σ H2 { s' with heap:=h₆ }:=I.seen (s':={ s' with heap:=h₆ }) F6 os bare;refine wpAny_mono (xV a pins _ σ H2 D (I6.caught a) ht) (fun f s₂ z=>z.uncaught I.ok.hd) fun _ _ z=>z.elim
end
def xW (K:W.Frag) (cv:Value) (sp:Sp) (t:TA) (i:Nat) (ts:TS):TS:=fun D σ H=>t σ H fun vs H1=>sp (vs++[]) H1 (fun v H2=>D.nx (σ.set i (some v)) H2) (fun cls _ H2=>W.exmOne K cls cv=some true/\ts D σ H2)
def UV (k:Nat) (G:Hp->List V->Prop):It :=
 ⟨fun i H=>∃ xs x,G H xs/\xs[i]?=some x,fun i H v H'=>∃ T,v = .ref T/\H T=none/\∀ xs x,G H xs->xs[i]?=some x->H'=upd H T (.tup [.int ((i+k:Nat):Int),x]),fun i H=>∃ xs,G H xs/\xs.length=i⟩
theorem V6 {P:Program} {w:World} {A:Around} {it:Addr} {fp:List Addr} {n:Nat} {R:Nat->Value->Prop} {St:Nat->Heap->Prop} (D:Draws P w A it fp n R St) (k:Nat) :
  Draws P w A it fp (n+k) (fun i v=>∃ j,i=j+k/\R j v) (fun i h=>∃ j,i=j+k/\St j h) where
 live:=fun i h ⟨j,_,st⟩=>D.live j h st
 frame:=fun i h h' ⟨j,e,st⟩ q=>⟨j,e,D.frame j h h' st q⟩
 item:=fun i s Q E hi ⟨j,e,st⟩ hQ=>by
  subst e;exact D.item j s Q E (by omega) st fun x h' tk p st' sb=>hQ x h' tk ⟨j,rfl,p⟩ ⟨j+1,by omega,st'⟩ sb
 done:=fun s Q E ⟨j,e,st⟩ hE=>by
  have:j=n:=by omega
  subst this;exact D.done s Q E st hE
theorem Tv {P:Program} {w:World} {K:W.Frag} {elts:List Expr} {kk:Nat} {pos:Pos} {a e it:Addr} {k:Nat} {G:Hp->List V->Prop} {inner:Nat->Heap->Prop} (ne:e≠it) (na:e≠a)
  (obj:∀ i h,inner i h->∃ o,h.get? it=some o/\∀ v,o.data ≠ .cell v) (keep:∀ i h h',inner i h->(∀ o,h.get? it=some o->h'.get? it=some o)->inner i h')
  (inj:∀ (X:Cx) pins σ H s xs ys,X.prog=P->X.w=w->X.K=K->Inv X pins σ H s->G H xs->G H ys->xs=ys)
  (dr:∀ (X:Cx) pins σ H s xs i,X.prog=P->X.w=w->X.K=K->X.calm=true->Inv X pins σ H s->G H xs->inner i s.heap->∃ its:List Value,Yw xs its/\∃ St:Nat->Heap->Prop,Draws P w X.A.in1 it [it,a] its.length (fun i v=>its[i]?=some v) St/\St i s.heap/\∀ i h,St i h->inner i h) :
  Turn P w K (.Tuple elts kk pos) (UV k G) [e,it] e (fun i h=>(∃ old,IsEnum h e it ((i+k:Nat):Int) old)/\inner i h) where
 mem:=by simp
 obj:=fun i h ⟨⟨old,he⟩,hi⟩ c hc=>by
  simp only [List.mem_cons,List.not_mem_nil,or_false] at hc;rcases hc with rfl | rfl
  ·exact ⟨_,he,fun v z=>by cases z⟩
  ·exact obj i h hi
 keep:=fun i h h' ⟨⟨old,he⟩,hi⟩ q=>⟨⟨old,q e (by simp) _ he⟩,keep i h h' hi fun o z=>q it (by simp) o z⟩
 item:=by
  intro X hP hw hK hc i pins s σ H E I hf ⟨⟨old,he⟩,hi⟩ hg;obtain ⟨xs,x,g1,hx⟩:=hg;obtain ⟨its,rv,St,D,hst,hin⟩:=dr X pins σ H s xs i hP hw hK hc I g1 hi;subst hP hw hK;have hlen:=rv.length;have hil:i<xs.length:=(List.getElem?_eq_some_iff.mp hx).1;refine wpAny_pyNext_enum_itemD (V6 D k) he ⟨i,rfl,hst⟩ (by omega) ne (fun z=>?_) fun u h1 tk hu ho hi1 hT hsz kp=>?_
  ·simp only [List.mem_cons,List.not_mem_nil,or_false] at z
   rcases z with z | z
   ·exact ne z
   ·exact na z
  refine ⟨_,rfl,?_⟩;refine wpAny_letOwnedTupleGo_enum (s:={ s with heap:=h1,toks:=tk+1 }) ho fun h2 he2 sb=>?_
  have elt:e<s.heap.objs.size:=Heap.lt_size he;have Tw:it<s.heap.objs.size:=by obtain ⟨o,q,_⟩:=obj i _ hi;exact Heap.lt_size q
  have jQ:∀ c o,c∉[e,it]->s.heap.get? c=some o->h2.get? c=some o:=fun c o hm z=>by
   have c1:c≠e:=fun q=>hm (by simp [q])
   have c2:c≠it:=fun q=>hm (by simp [q])
   exact sb.extBut c o c1 (kp c o c1 c2 z)
  obtain ⟨j,ej,hu⟩:=hu;have ej:j=i:=by omega
  subst ej;obtain ⟨u',hu',ru⟩:=rv.get hx;rw [hu] at hu'
  cases hu'
  have hT2:h2.get? s.heap.objs.size=some { cls := .type "tuple",data := .seq #[.int ((j+k:Nat):Int) tk,u] }:=sb.extBut _ _ (Nat.ne_of_gt elt) hT;have I':=I.mF (t':=tk+1) (h':=h2) (T:=s.heap.objs.size) (vs:=[.int ((j+k:Nat):Int),x]) jQ hf (Nat.le_refl _) (show YZ X.prog X.w _ h2 _ (.tup [.int ((j+k:Nat):Int),x]) from ⟨by show 2<=sizeLine;decide,[.int ((j+k:Nat):Int) tk,u],.cons ⟨_,rfl⟩ (.cons ru .nil),_,hT2,rfl,_,rfl⟩);have fresh:H s.heap.objs.size=none:=I.hok.fresh (Nat.le_refl _);obtain ⟨j',Hs,st'⟩:=hi1;have Hs:j'=j+1:=by omega
  subst Hs;refine ⟨.ref s.heap.objs.size,_,I',rfl,⟨_,rfl,fresh,fun xs' x' xJ hx'=>?_⟩,⟨⟨u,?_⟩,keep _ _ _ (hin _ _ st') fun o z=>sb.extBut _ _ (Ne.symm ne) z⟩,fun c hm=>?_⟩
  ·rw [inj X pins σ H s _ _ rfl rfl rfl I xJ g1,hx] at hx'
   cases hx'
   rfl
  ·have e2:(((j+1+k:Nat)):Int)=((j+k:Nat):Int)+1:=by omega
   rw [e2];simpa using he2
  ·have h0:=(hf c hm).1
   have xK:c<s.heap.objs.size:=by
    simp only [List.mem_cons,List.not_mem_nil,or_false] at hm;rcases hm with rfl | rfl
    ·exact elt
    ·exact Tw
   rw [Yg (Nat.ne_of_lt xK)];exact h0
 done:=by
  intro X hP hw hK hc i pins s σ H E I hf ⟨⟨old,he⟩,hi⟩ hg;obtain ⟨xs,g1,hx⟩:=hg;obtain ⟨its,rv,St,D,hst,hin⟩:=dr X pins σ H s xs i hP hw hK hc I g1 hi;subst hP hw hK;have hlen:=rv.length;obtain ⟨f0,f1,f2,f3,f4,f5⟩:=hf it (by simp);exact wpAny_pyNext_enum_endD (V6 D k) he ⟨i,by omega,hst⟩ fun h' eb=>⟨rfl,I.turned (t':=s.toks) (fun b o hb z=>eb b o hb z) f0 f1 f3 f4 f5⟩
 self:=fun _ _ _ _ _ ⟨⟨_,he⟩,_⟩ h=>wpAny_pyIter_enum he h
section
variable {prog:Program} {w:World} {A:Around} {E:Value->Shared->Prop} {s:Shared}
theorem Tz {it t:Addr} {i:Nat} {its:Array Value} {x:Value} {Q:Value->Shared->Prop} (hit:IsTupIter s.heap it t i) (ht:IsTup s.heap t its) (hx:its[i]?=some x)
  (hQ:∀ h',IsTupIter h' it t (i+1)->Heap.SameBut it s.heap h'->Q x { s with heap:=h' }):wpAny (model prog w) A (Builtin.SmallTypes.nextOf (.ref it)) Q E s:=by
 have hT:=hit.typeIs;obtain ⟨o,ho,hc,hd⟩:=hit;obtain ⟨ot,hot,_,nt,hdt⟩:=ht;unfold Builtin.SmallTypes.nextOf;refine wpAny_bind (wpAny_callSpecial?_slot (name:=Str.ofString "__next__") hT slot_tupleiter_next (wpAny_call_entry slot_tupleiter_next hT entry_tupleiter_next ?_ (args_tupleiter_next _)))
 change wpAny _ _ (field (.ref it) 0 >>= _) _ _ s
 refine wpAny_bind (wpAny_field (x := .ref t) ho hd rfl ?_)
 change wpAny _ _ (if (Value.ref t==Value.none)=true then _ else _) _ _ s
 rw [if_neg (show ¬ (Value.ref t==Value.none)=true from Bool.false_ne_true)]
 change wpAny _ _ (field (.ref it) 1 >>= _) _ _ s
 refine wpAny_bind (wpAny_field (x := .int i 0) ho hd rfl ?_)
 change wpAny _ _ (seqItems? (.ref t) >>= _) _ _ s
 refine wpAny_bind (wpAny_seqItems hot hdt ?_);simp only [hx,Int.toNat_natCast];refine wpAny_bind (wpAny_setField ho hd (by simp) (wpAny_pure ⟨x,rfl,wpAny_pure (hQ _ ⟨_,Heap.get?_update_self _ ho (Obj.isFreed_of_fields (Obj.data_mapFields hd _)),(Obj.cls_mapFields ..).trans hc,?_⟩ (Heap.SameBut.update ..))⟩));rw [Obj.data_mapFields hd];simp [rawInt]
theorem TF {it t:Addr} {i:Nat} {its:Array Value} {Q:Value->Shared->Prop} (hh:A.handled=none) (hit:IsTupIter s.heap it t i) (ht:IsTup s.heap t its) (hx:its[i]?=none)
  (hE:∀ h' e,Heap.ExtBut it s.heap h'->(∃ o,h'.get? e=some o/\o.cls = .type "StopIteration")->E (.ref e) { s with heap:=h' }):wpAny (model prog w) A (Builtin.SmallTypes.nextOf (.ref it)) Q E s:=by
 have hT:=hit.typeIs;obtain ⟨o,ho,hc,hd⟩:=hit;obtain ⟨ot,hot,_,nt,hdt⟩:=ht;unfold Builtin.SmallTypes.nextOf;refine wpAny_bind (wpAny_callSpecial?_slot (name:=Str.ofString "__next__") hT slot_tupleiter_next (wpAny_call_entry slot_tupleiter_next hT entry_tupleiter_next ?_ (args_tupleiter_next _)))
 change wpAny _ _ (field (.ref it) 0 >>= _) _ _ s
 refine wpAny_bind (wpAny_field (x := .ref t) ho hd rfl ?_)
 change wpAny _ _ (if (Value.ref t==Value.none)=true then _ else _) _ _ s
 rw [if_neg (show ¬ (Value.ref t==Value.none)=true from Bool.false_ne_true)]
 change wpAny _ _ (field (.ref it) 1 >>= _) _ _ s
 refine wpAny_bind (wpAny_field (x := .int i 0) ho hd rfl ?_)
 change wpAny _ _ (seqItems? (.ref t) >>= _) _ _ s
 refine wpAny_bind (wpAny_seqItems hot hdt ?_);simp only [hx,Int.toNat_natCast];refine wpAny_bind (wpAny_rule (wpAny_bind (wpAny_setField ho hd (by simp) ?_)))
 change wpAny _ _ (newExc (.type "StopIteration") [] >>= _) _ _ _
 refine wpAny_bind ?_;simp only [newTuple,newExc];refine wpAny_bind (wpAny_newObj_type ?_ (by size_fits));refine wpAny_bind (m:=firstArgMember _ _) (wpAny_of_eq (a:=Value.none) (by first | (simp only [firstArgMember];rfl) | rfl) ?_);refine wpAny_newObj_type ?_ (by size_fits);simp only [raiseNew];refine wpAny_bind (wpAny_handled ?_)
 first | rw [hh] | rw [show A.in1.handled=none from hh]
 exact wpAny_bind (wpAny_pure (wpAny_throw (hE _ _ (((Heap.SameBut.update ..).extBut.push _).push _) ⟨_,Heap.get?_push_size _ rfl,rfl⟩)))
theorem TJ (hh:A.handled=none) (it t:Addr) (ne:t≠it) (its:Array Value):Draws prog w A it [it,t] its.size (fun i v=>its[i]?=some v) (fun i h=>IsTupIter h it t i/\IsTup h t its) where
 live:=fun _ _ st=>let ⟨o,ho,_⟩:=st.1;⟨o,ho⟩
 frame:=fun _ _ _ st hk=>⟨let ⟨o,ho,r⟩:=st.1;⟨o,hk it (by simp) o ho,r⟩,let ⟨o,ho,r⟩:=st.2;⟨o,hk t (by simp) o ho,r⟩⟩
 item:=fun i s Q E hi st hQ=>by
  refine Tz st.1 st.2 (x:=its[i]) (by simp [hi]) fun h' hit' hs'=>?_
  exact hQ _ h' s.toks (by simp [hi]) ⟨hit',let ⟨o,ho,r⟩:=st.2;⟨o,hs'.extBut t o ne ho,r⟩⟩ hs'
 done:=fun s Q E st hE=>TF hh st.1 st.2 (by simp) hE
open AutoSeq1 (wpAny_loadPart') in
theorem TQ (l:Addr) (o:Obj) (its:Array Value) (n:Nat) (hc:o.cls = .type "tuple") (hd:o.data = .seq its n) :
  Meets (Builtin.«enumerate.__new__» ⟨[.type "enumerate",.ref l],[]⟩) (fun _ R s=>s.heap.get? l=some o /\
   R (.ok (.ret (.ref (s.heap.push { cls := .type "tuple_iterator",data := .fields #[.ref l,.int 0 0] }).objs.size)))
    { s with heap:=(s.heap.push { cls := .type "tuple_iterator",data := .fields #[.ref l,.int 0 0] }).push { cls := .type "enumerate",data := .fields #[.none,.bool false,.ref s.heap.objs.size,rawInt 0,.none,.none] } }) :=
 .of_wp fun prog w A R s h=>by
  obtain ⟨hp,g,d,tk,os⟩:=s;obtain ⟨hl,h⟩:=h;have hsub:=sub_enumerate;have hL:IsTup (Shared.heap ⟨hp,g,d,tk,os⟩) l its:=⟨o,hl,hc,n,hd⟩
  wp_walk using wpAny_loadPart' hl
  refine wpAny_stack_any fun st=>wpAny_pure ?_
  split
  ·rename_i c _ _ _ _ _
   cases (c==Value.type "enumerate")
   ·wp_walk using wpAny_loadPart' hl,iter_tuple hL
    exact ⟨_,rfl,h⟩
   ·wp_walk using wpAny_loadPart' hl,iter_tuple hL
    exact ⟨_,rfl,h⟩
  ·wp_walk using wpAny_loadPart' hl,iter_tuple hL
   exact ⟨_,rfl,h⟩
theorem TV {l:Addr} {its:Array Value} {Q:Value->Shared->Prop} (hL:IsTup s.heap l its)
  (h:∀ h',IsEnum h' (s.heap.objs.size+1) s.heap.objs.size 0 .none->IsTupIter h' s.heap.objs.size l 0->(∀ b o,s.heap.get? b=some o->h'.get? b=some o)->Q (.ref (s.heap.objs.size+1)) { s with heap:=h' }) :
  wpAny (model prog w) A (call (.type "enumerate") [.ref l]) Q E s:=by
 obtain ⟨o,hl,hc,n,hd⟩:=hL;refine callType_new F.called_enumerate (by decide) (F.typeCall_enumerate_1 _) (F.newCall_enumerate_1 _) (fun obj=>F.args_object_init_2 obj _) F.entry_enumerate_new (TQ l o its n hc hd) ⟨hl,?_⟩;have hz:(s.heap.push { cls := .type "tuple_iterator",data := .fields #[.ref l,.int 0 0] }).objs.size=s.heap.objs.size+1:=Heap.size_push ..
 change _/\_
 rw [hz];have he:IsEnum ((s.heap.push { cls := .type "tuple_iterator",data := .fields #[.ref l,.int 0 0] }).push { cls := .type "enumerate",data := .fields #[.none,.bool false,.ref s.heap.objs.size,rawInt 0,.none,.none] }) (s.heap.objs.size+1) s.heap.objs.size 0 .none:=by
  have z:=Heap.get?_push_size (s.heap.push { cls := .type "tuple_iterator",data := .fields #[.ref l,.int 0 0] }) (o:={ cls := .type "enumerate",data := .fields #[.none,.bool false,.ref s.heap.objs.size,rawInt 0,.none,.none] }) rfl;rw [hz] at z
  exact z
 exact ⟨⟨_,he,rfl⟩,h _ he ⟨_,Heap.get?_push_of_some _ (Heap.get?_push_size _ rfl),rfl,rfl⟩ fun b o x=>Heap.get?_push_of_some _ (Heap.get?_push_of_some _ x)⟩
end
section
variable {X:Cx} {elts:List Expr} {kk:Nat} {tpos:Pos}
theorem TX {P:Program} {w:World} {K:W.Frag} {pos:Pos} {a e it:Addr} (ne:e≠it) (na:e≠a) (nt:a≠it) :
  Turn P w K (.Tuple elts kk pos) (UV 0 fun H xs=>aJ K H a xs) [e,it] e (fun i h=>(∃ old,IsEnum h e it ((i+0:Nat):Int) old)/\IsTupIter h it a i):=by
 refine Tv ne na (fun i h ⟨o,q,_,d⟩=>⟨o,q,fun v z=>by rw [d] at z;cases z⟩) (fun i h h' ⟨o,q,r⟩ k=>⟨o,k o q,r⟩) (fun X pins σ H s xs ys hP hw hK I g1 g2=>?_) (fun X pins σ H s xs i hP hw hK hc I g1 hi=>?_)
 ·subst hP hw hK
  exact I.iU g1 g2
 ·subst hP hw hK
  obtain ⟨its,rv,pl,hz⟩:=I.tuple g1;refine ⟨its,rv,fun i h=>IsTupIter h it a i/\IsTup h a its.toArray,by simpa using TJ (prog:=X.prog) (w:=X.w) (A:=X.A.in1) (I.ok.hd hc) it a nt its.toArray,⟨hi,pl⟩,fun i h st=>st.1⟩
def Ht (K:W.Frag) (ta:TA):TI:=fun σ H R=>ta σ H fun vs H1=>∃ a xs,vs=[.ref a]/\aJ K H1 a xs/\R (UV 0 fun H xs=>aJ K H a xs) H1
theorem TY {a:Expr} {ta:TA} {p pos:Pos} (hg:Gl X "enumerate") (hm:X.mg "enumerate"=none) (ha:PA X [a] ta) (hs:starEach [a] X.env=[(false,eval a X.env)]) :
  PI X (.Tuple elts kk tpos) (.Call (.Name "enumerate" p) [a] [] pos) (Ht X.K ta):=by
 intro pins s σ H R I h;refine Call_ (X1 I hg hm boot_enumerate (PyProof.Rows.callWith_type1 (aL (ha pos pins s σ H _ I h) fun us s1 hz=>?_) hs rfl));obtain ⟨vs,H1,I1,r1,x,xs,e,hx,q⟩:=hz;subst e;obtain ⟨u,rfl,ru⟩:=WH r1
 cases ru
 obtain ⟨i1,_,pl,_⟩:=I1.tuple hx;have l1:x<s1.heap.objs.size:=by obtain ⟨_,e,_⟩:=pl;exact Heap.lt_size e
 refine TV pl fun h' he hi keep=>?_
 refine wpAny_pyIter_enum he ?_;have I2:Inv X pins σ H1 { s1 with heap:=h' }:=I1.kept (t':=s1.toks) keep;have l1':@LT.lt Nat _ x s1.heap.objs.size:=l1;refine ⟨_,[s1.heap.objs.size+1,s1.heap.objs.size],_,_,H1,rfl,I2,TX (by intro z;have z':@Eq Nat _ _:=z;omega) (by intro z;have z':@Eq Nat _ _:=z;omega) (by intro z;have z':@Eq Nat _ _:=z;omega),⟨⟨_,he⟩,hi⟩,fun c hc=>?_,q⟩;have hle:s1.heap.objs.size<=c:=by
  simp only [List.mem_cons,List.not_mem_nil,or_false] at hc;rcases hc with e | e<;>(have e':@Eq Nat _ _:=e;show @LE.le Nat _ s1.heap.objs.size c;omega)
 exact I1.eV hle (I1.hok.fresh hle)
end
section
variable {g:TG} {tb:TS} {D:Ends} {σ:St} {H:Hp}
theorem T3 {k:Nat} {G:Hp->List V->Prop} {xs:List V} (Pv:Nat->St->Hp->Prop) (h0:Pv 0 σ H) (hl:∀ i σ H,i<=xs.length->Pv i σ H->G H xs)
  (hs:∀ i x σ H T,xs[i]?=some x->Pv i σ H->H T=none->g (.ref T) σ (upd H T (.tup [.int ((i+k:Nat):Int),x])) fun σ2 H2=>tb { D with nx:=Pv (i+1),ct:=Pv (i+1),bk:=D.nx } σ2 H2) (hd:∀ σ H,Pv xs.length σ H->D.nx σ H) :
  ∃ W:Nat->Nat->St->Hp->Prop,(∃ m,W 0 m σ H)/\∀ i m σ H,W i m σ H ->
   ((UV k G).stop i H/\D.nx σ H)\/((UV k G).go i H/\∃ N:St->Hp->Prop,(∀ σ' H',N σ' H'->∃ m',m'<m/\W (i+1) m' σ' H')/\∀ x H',(UV k G).iV i H x H'->g x σ H' fun σ2 H2=>tb { D with nx:=N,ct:=N,bk:=D.nx } σ2 H2):=by
 refine ⟨fun i m σ H=>m=xs.length - i/\i<=xs.length/\Pv i σ H,⟨xs.length,by simp,Nat.zero_le _,h0⟩,?_⟩;rintro i m σ H ⟨rfl,hi,p⟩;have q:=hl i σ H hi p;by_cases hlt:i<xs.length
 ·have hx:xs[i]?=some xs[i]:=List.getElem?_eq_getElem hlt
  refine .inr ⟨⟨xs,_,q,hx⟩,Pv (i+1),fun σ' H' p'=>⟨xs.length - (i+1),by omega,rfl,hlt,p'⟩,?_⟩;rintro v H' ⟨T,rfl,hT,heq⟩;have e:=heq xs _ q hx;subst e;exact hs i _ σ H T hx p hT
 ·have e:i=xs.length:=by omega
  subst e;exact .inl ⟨⟨xs,q,rfl⟩,hd σ H p⟩
theorem T4 {K:W.Frag} {ta:TA} {a:Addr} {xs:List V} (Pv:Nat->St->Hp->Prop) (ha:∀ R:List V->Hp->Prop,R [.ref a] H->ta σ H R) (h0:Pv 0 σ H) (hl:∀ i σ H,i<=xs.length->Pv i σ H->aJ K H a xs)
  (hs:∀ i x σ H T,xs[i]?=some x->Pv i σ H->H T=none->g (.ref T) σ (upd H T (.tup [.int (i:Int),x])) fun σ2 H2=>tb { D with nx:=Pv (i+1),ct:=Pv (i+1),bk:=D.nx } σ2 H2) (hd:∀ σ H,Pv xs.length σ H->D.nx σ H):Vj (Ht K ta) g tb D σ H:=by
 refine ha _ ⟨a,xs,rfl,hl 0 σ H (Nat.zero_le _) h0,?_⟩;exact T3 Pv h0 hl (fun i x σ H T hx p hT=>hs i x σ H T hx p hT) hd
end
section
variable {X:Cx} {tg:Expr}
def tW (lo c:Int) (n:Nat):It:=⟨fun i _=>i<n,fun i H v H'=>v = .int (lo+i*c)/\H'=H,fun i _=>n<=i⟩
theorem T5 {P:Program} {w:World} {K:PySem.W.Frag} (it:Addr) (lo c:Int) (n:Nat):Turn P w K tg (tW lo c n) [it] it (fun i h=>IsRangeIter h it (lo+i*c) ((n:Int) - i) c) where
 mem:=by simp
 obj:=fun i h st b hb=>by
  have e:b=it:=by simpa using hb
  subst e;exact ⟨_,st,fun v z=>by
   have z':Data.fields _=Data.cell v:=z
   cases z'⟩
 keep:=fun i h h' st k=>k it (by simp) _ st
 item:=by
  intro X hP hw hK hc i pins s σ H E I hf st hg;subst hP hw hK;obtain ⟨f0,f1,f2,f3,f4,f5⟩:=hf it (by simp);have W:=Walks.range (prog:=X.prog) (w:=X.w) (I.ok.hd hc) it lo c n;refine W.item i s _ _ hg st fun v h' tk hv st' kk=>?_
  obtain ⟨t,rfl⟩:=hv;have I1:Inv X pins σ H { s with heap:=h',toks:=tk }:=I.turned (fun b o hb e=>kk b o (by simpa using hb) e) f0 f1 f3 f4 f5;exact ⟨_,rfl,Ul (s:={ s with heap:=h',toks:=tk }) (n:="range_iterator") st' rfl rfl (by decide) ⟨.int (lo+i*c),H,I1,⟨t,rfl⟩,⟨rfl,rfl⟩,st',fun b hb=>(hf b hb).1⟩⟩
 done:=by
  intro X hP hw hK hc i pins s σ H E I hf st hg;subst hP hw hK;obtain ⟨f0,f1,f2,f3,f4,f5⟩:=hf it (by simp);exact wpAny_pyNext_range_end (I.ok.hd hc) st (by have:n<=i:=hg;omega) fun h' eb=>⟨rfl,I.turned (t':=s.toks) (fun b o hb e=>eb b o hb e) f0 f1 f3 f4 f5⟩
 self:=fun _ _ _ _ _ st h=>wpAny_pyIter_rangeiter st h
theorem VS {a b c:Int} (hc:0<c):Builtin.Range.rangeSize a b c=if a<b then (b - a - 1) / c+1 else 0:=by
 unfold Builtin.Range.rangeSize;rw [if_pos hc]
theorem T6 {a b c:Int} (ha : -(2^60)<=a) (ha':a<2^60) (hb : -(2^60)<=b) (hb':b<2^60) (hc:0<c) (hc':c<2^60):Builtin.Range.small a b c=true:=by
 have e:=VS (a:=a) (b:=b) hc;have h2:a<b->(b - a - 1) / c<=b - a - 1:=fun h=>Int.ediv_le_self _ (by omega)
 have h3:a<b->0<=(b - a - 1) / c:=fun h=>Int.ediv_nonneg (by omega) (by omega)
 unfold Builtin.Range.small;rw [e];simp only [Builtin.Range.rangeFitsLong,Bool.and_eq_true,Bool.or_eq_true,decide_eq_true_eq,beq_iff_eq,show c>0 from hc,if_true];by_cases h:a<b
 ·have h2:=h2 h
  have h3:=h3 h;simp only [h,if_true];omega
 ·simp only [h,if_false]
  omega
theorem Ey {pins:List (Addr×Obj)} {σ:St} {H:Hp} {s:Shared} {R:It->Hp->Prop} {E:Value->Shared->Prop} {lo hi c:Int} {t u v:Tok} {tk:Nat} (I:Inv X pins σ H s) (h1 : -(2^60)<=lo) (h2:lo<2^60) (h3 : -(2^60)<=hi) (h4:hi<2^60) (h5:0<c) (h6:c<2^60)
  (q:R (tW lo c (Builtin.Range.rangeSize lo hi c).toNat) H):wpAny (model X.prog X.w) X.A (pyIter (.ref s.heap.objs.size)) (PIE X pins σ tg R) E { s with heap:=s.heap.push { cls := .type "range",data := .fields #[.int lo t,.int hi u,.int c v] },toks:=tk }:=by
 refine wpAny_pyIter_range (IsRange.new ..) (T6 h1 h2 h3 h4 h5 h6) ?_;have I1:Inv X pins σ H { s with heap:=s.heap.push { cls := .type "range",data := .fields #[.int lo t,.int hi u,.int c v] },toks:=tk }:=I.kept fun b o e=>Heap.get?_push_of_some _ e
 refine ⟨(s.heap.push { cls := .type "range",data := .fields #[.int lo t,.int hi u,.int c v] }).objs.size,[(s.heap.push { cls := .type "range",data := .fields #[.int lo t,.int hi u,.int c v] }).objs.size],_,_,H,rfl,
  I1.kept (t':=tk) fun b o e=>Heap.get?_push_of_some _ e,T5 _ lo c (Builtin.Range.rangeSize lo hi c).toNat,?_,fun b hb=>?_,q⟩
 ·have e1:lo+((0:Nat):Int)*c=lo:=by simp
  have e0:0<=Builtin.Range.rangeSize lo hi c:=by
   rw [VS h5]
   split
   ·have:=Int.ediv_nonneg (a:=hi - lo - 1) (b:=c) (by omega) (by omega)
    omega
   ·omega
  have e2:(((Builtin.Range.rangeSize lo hi c).toNat:Nat):Int) - ((0:Nat):Int)=Builtin.Range.rangeSize lo hi c:=by omega
  show IsRangeIter _ _ (lo+((0:Nat):Int)*c) ((((Builtin.Range.rangeSize lo hi c).toNat:Nat):Int) - ((0:Nat):Int)) c
  rw [e1,e2];exact Heap.get?_push_size _ rfl
 ·have e:b=(s.heap.push { cls := .type "range",data := .fields #[.int lo t,.int hi u,.int c v] }).objs.size:=by simpa using hb
  subst e;exact I1.eV (Nat.le_refl _) (I1.hok.fresh (Nat.le_refl _))
def xX (ta:TA):TI:=fun σ H R=>ta σ H fun vs H1=>∃ i j c:Int,vs=[.int i,.int j,.int c]/\(-(2^60)<=i/\i<2^60 /\ -(2^60)<=j/\j<2^60/\0<c/\c<2^29)/\R (tW i c (Builtin.Range.rangeSize i j c).toNat) H1
theorem Qh {a b c:Expr} {ta:TA} {p pos:Pos} (hg:Gl X "range") (hm:X.mg "range"=none) (ha:PA X [a,b,c] ta) (hs:starEach [a,b,c] X.env=[(false,eval a X.env),(false,eval b X.env),(false,eval c X.env)]) (hs2:starEach [b,c] X.env=[(false,eval b X.env),(false,eval c X.env)]) :
  PI X tg (.Call (.Name "range" p) [a,b,c] [] pos) (xX ta):=by
 intro pins s σ H R I h;refine Call_ (X1 I hg hm boot_range (PyProof.Rows.callWith_type1 (aL (ha pos pins s σ H _ I h) fun us s1 hz=>?_) (by rw [hs,hs2]) (by rw [hs2];rfl)));obtain ⟨vs,H1,I1,r1,i,j,k,e,⟨q1,q2,q3,q4,q5,q6⟩,q⟩:=hz;subst e
 cases r1 with
 | cons r rr =>
  cases rr with
  | cons r' rr =>
   cases rr with
   | cons r'' rr =>
    cases rr
    obtain ⟨t,rfl⟩:=r;obtain ⟨t',rfl⟩:=r';obtain ⟨t'',rfl⟩:=r'';exact call_range_3 (by omega) (Ey I1 q1 q2 q3 q4 q5 (by omega) q) (.inl (PyProof.noPylong_small (by omega)))
end
theorem T7 {g:TG} {tb:TS} {D:Ends} {σ:St} {H:Hp} {ta:TA} {n c:Nat} (hc:0<c) (hc':c<2^29) (Pv:Nat->St->Hp->Prop) (ha:∀ R:List V->Hp->Prop,R [.int 0,.int n,.int c] H->ta σ H R) (hn:n<2^60) (h0:Pv 0 σ H)
  (hs:∀ i σ H,i*c<n->Pv i σ H->g (.int ((i*c:Nat):Int)) σ H fun σ2 H2=>tb { D with nx:=Pv (i+1),ct:=Pv (i+1),bk:=D.nx } σ2 H2) (hd:∀ i σ H,n<=i*c->Pv i σ H->D.nx σ H):Vj (xX ta) g tb D σ H:=by
 refine ha _ ⟨0,n,c,rfl,⟨by decide,by decide,by omega,by omega,by omega,by omega⟩,?_⟩;obtain ⟨m,em,hm1,hm2⟩:∃ m:Nat,Builtin.Range.rangeSize 0 n c=m/\(∀ i,i<m->i*c<n)/\n<=m*c:=by
  rw [VS (by omega)];by_cases h:(0:Int)<n
  ·refine ⟨(n - 1) / c+1,?_,fun i hi=>?_,?_⟩
   ·rw [if_pos h]
    have:(n:Int) - 0 - 1=((n - 1:Nat):Int):=by omega
    rw [this];rfl
   ·have h1:i*c<=(n - 1) / c*c:=Nat.mul_le_mul_right c (by omega)
    have h2:=Nat.div_mul_le_self (n - 1) c;omega
   ·have h1:=Nat.div_add_mod (n - 1) c
    have h2:=Nat.mod_lt (n - 1) hc;rw [Nat.add_mul,Nat.mul_comm];omega
  ·exact ⟨0,by rw [if_neg h];rfl,fun i hi=>absurd hi (by omega),by omega⟩
 rw [em,Int.toNat_natCast];refine ⟨fun i r σ H=>r=m - i/\i<=m/\Pv i σ H,⟨m,by simp,Nat.zero_le _,h0⟩,?_⟩;rintro i r σ H ⟨rfl,hi,p⟩;by_cases hlt:i<m
 ·refine .inr ⟨hlt,Pv (i+1),fun σ' H' p'=>⟨m - (i+1),by omega,rfl,hlt,p'⟩,fun x H' y=>?_⟩
  obtain ⟨e1,e2⟩:=y;subst e1 e2;have z:=hs i σ _ (hm1 i hlt) p;rw [Int.zero_add,<- Int.natCast_mul];exact z
 ·have e:i=m:=by omega
  subst e;exact .inl ⟨Nat.le_refl _,hd i σ H hm2 p⟩
def MK (a:Addr) (cls:Value) (dc:Option Addr):HO := .ext fun h=>∃ o vs,h.get? a=some o/\o.cls=cls/\o.data = .fields vs/\o.dict=dc
def Ends.gone (D:Ends) (j:Nat):Ends:={ nx:=fun σ H=>D.nx (σ.set j none) H,rt:=D.rt,bk:=fun σ H=>D.bk (σ.set j none) H,ct:=fun σ H=>D.ct (σ.set j none) H }
def Hu (K:W.Frag) (cv:Value) (sp:Sp) (t:TA) (i j:Nat) (ts:TS):TS:=fun D σ H=>t σ H fun vs H1=>sp (vs++[]) H1 (fun v H2=>D.nx (σ.set i (some v)) H2) (fun cls dc H2=>W.exmOne K cls cv=some true/\∀ a,H2 a=none->ts (D.gone j) (σ.set j (some (.ref a))) (upd H2 a (MK a cls dc)))
section
variable {X:Cx}
theorem T8 {g:Gx} {x:Str} {C:Addr} {pos:Pos} (h:g.mg x=some (.ref C)) (hX:X.gx=g:=by rfl) (hg:Gl X x:=by rfl) (hd:(x==("__debug__":Str))=false:=by decide):PE X (.Name x pos) (tC (.ref C)):=by
 subst hX;exact UJ hg h rfl hd
end
theorem T9 {X:Cx} {a:Addr}:(X.caught a).K=X.K:=rfl
theorem Xl {K:W.Frag} {C:Addr} {f:Str} (h:W.findIn K (.ref C) f=some none):Yp K C f:=h
def Gx.fL (g:Gx) (k:Nat) (f:Addr) (ps:List Str) (sp:Sp):Prop:=∃ fd,aY g.P g.w g.K g.mg g.base cB k f fd ps sp/\Xn g.K fd ps []/\W.keepIn g.K (.ref f)=true
def tFn (g:Gx) (k:Nat) (ps:List Str) (sp:Sp):TE:=fun _ H Q=>∀ f,g.fL k f ps sp->Q (.ref f) H
def Hv (g:Gx) (k i:Nat) (t:TA):TE:=fun σ H Q=>∃ f ps sp,σ[i]?=some (some (.ref f))/\g.fL k f ps sp/\t σ H fun vs H1=>sp vs H1 Q E0
section
variable {X:Cx} {g:Gx} {k j i:Nat} {x:Str} {ps:List Str} {sp:Sp} {p pos:Pos} {e:Expr} {es:List Expr} {t:TA}
theorem Xe (F:g.Fn j x ps sp) (hX:X.gx=g) (hg:Gl X x) (hdb:(x==("__debug__":Str))=false):PE X (.Name x pos) (tFn g j ps sp):=by
 subst hX;obtain ⟨f,fd,F,b,kp,hm⟩:=F;intro pins s σ H Q I h;exact UJ (v := .ref f) hg hm rfl hdb pins s σ H Q I (h f ⟨fd,F,b,kp⟩)
theorem Yd1 (i:Nat) (hr:aP k X.A) (ha:PA X (e::es) t) (hj:j<=k) (hX:X.gx=g) (hN:X.N[i]?=some x) (hv:lU X.env.scope x) (hdb:(x==("__debug__":Str))=false)
  (hcd:(x==("__classdict__":Str))=false) (he:starEach (e::es) X.env=(false,eval e X.env)::starEach es X.env) (hpl:(backTo pos (starEach es X.env)).any (·.1)=false):PE X (.Call (.Name x p) (e::es) [] pos) (Hv g j i t):=by
 subst hX;intro pins s σ H Q I h;obtain ⟨f,ps,sp,hσ,⟨fd,F,b,kp⟩,ht⟩:=h;refine wpAny_Call_Name_kw (aL (Uj hN hv hdb hcd pins s σ H (fun v H1=>v = .ref f/\t σ H1 fun vs H1=>sp vs H1 Q E0) I (VO hσ ⟨rfl,ht⟩)) fun u s1 ⟨v,H1,I1,r,e,ht⟩=>?_);subst e;obtain rfl:u=Value.ref f:=r;refine PySem.W.callWith_K (h₀:=X.base) I1.ok.mod.eZ kp (aL (ha pos pins s1 σ H1 _ I1 ht) fun us s2 ⟨vs,H2,I2,r2,q⟩=>⟨I2.bA,?_⟩) he hpl;exact WC F (hr.mono hj) b .nil WI I2 r2 (by rw [List.append_nil];exact q)
end
theorem Y8 (es:List Expr) (x:Nat) (p:Pos) (es':List Expr) (env:Env):starEach (.Tuple es x p::es') env=(false,eval (.Tuple es x p) env)::starEach es' env:=rfl
theorem QZ (es:List Expr) (p:Pos) (es':List Expr) (env:Env):starEach (.List es p::es') env=(false,eval (.List es p) env)::starEach es' env:=rfl
section
variable {src:List (Option Nat)} {te:TE} {σ:St} {Q:VK}
variable {X:Cx} {H:Hp}
theorem Hw {g:Gx} {j k:Nat} {x:Str} {ps:List Str} {sp:Sp} {p pos:Pos} (F:g.Fn j x ps sp) (hr:aP k X.A) (hj:j<=k) (hX:X.gx=g) (hg:Gl X x) (hdb:(x==("__debug__":Str))=false):PE X (.Call (.Name x p) [] [] pos) (WY sp [] E0 UL):=by
 subst hX;obtain ⟨f,fd,F,b,kp,hm⟩:=F;exact Ph F (hr.mono hj) hg hm kp b .nil WI hdb
end
end L2
namespace L2
open PySem
section
variable {src:List (Option Nat)} {te:TE} {σ:St} {H:Hp} {Q:VK}
theorem UW {J:It} {P:Hp->Prop} {xs:List V} (hJ:X0 J P xs) {H1:Hp} {D:Addr} (Rl:Nat->V->Hp->Prop) (st:∀ i y H H',Rl i y H->Yf H H'->Rl i y H') (su:∀ i y H zs zs',Rl i y H->H D=some (.lst zs)->Rl i y (upd H D (.lst zs')))
  (hP:∀ H',Yf H1 H'->P H') (hD:H1 D=none) (hlen:xs.length<=100000)
  (step:∀ (i:Nat) x H' zs,xs[i]?=some x->Yf H1 H'->H' D=some (.lst zs)->∀ R:VK,(∀ y aO,Yf H' aO->Rl i y aO->R y aO)->te (some x::YN src σ) H' R)
  (fin:∀ (ys:List V) H',Yf H1 H'->H' D=some (.lst ys)->ys.length=xs.length->(∀ (j:Nat) y,ys[j]?=some y->Rl j y H')->Q (.ref D) H'):LC (none::src) J (YT 0) X9 te σ H1 Q D:=by
 have h6:100000<sizeLine:=by decide
 refine Uu hJ (fun i zs σ' H'=>zs.length=i/\(∃ o,σ'=o::YN src σ)/\Yf H1 H'/\H' D=some (.lst zs)/\∀ (j:Nat) y,zs[j]?=some y->Rl j y H')
  ⟨rfl,⟨none,rfl⟩,.aF hD _,Yc,fun j y h=>by simp at h⟩ (fun i zs σ' H' ⟨_,_,p1,p2,_⟩=>⟨hP _ p1,p2⟩) (Wp 0) ?_ ?_
 ·rintro i zs σ' H' x hx ⟨hi',⟨o,rfl⟩,sm,hd,hts⟩
  have hi:=(List.getElem?_eq_some_iff.mp hx).1
  show te (some x::YN src σ) H' _
  refine step i x H' zs hx sm hd _ fun y aO s2 hy=>⟨s2 _ _ hd,by omega,by simp [hi'],⟨_,rfl⟩,.bT hD (sm.trans s2) _,Yc,fun j z hj=>su _ _ _ _ _ ?_ (s2 _ _ hd)⟩
  rcases Nat.lt_trichotomy j zs.length with h1 | h1 | h1
  ·rw [List.getElem?_append_left h1] at hj
   exact st _ _ _ _ (hts j z hj) s2
  ·have hb:y=z:=by subst h1;simpa using hj
   subst hb;rw [h1,hi'];exact hy
  ·rw [List.getElem?_eq_none (by rw [List.length_append,List.length_singleton];omega)] at hj;cases hj
 ·rintro zs σ' H' ⟨hn,_,sm,hd,hts⟩
  exact fin zs H' sm hd hn hts
theorem Q0 {K:W.Frag} {tl:TE} {xs:List V} {b:Addr} (Rl:Addr->Nat->V->Hp->Prop) (st:∀ D i y H H',Rl D i y H->Yf H H'->Rl D i y H') (su:∀ D i y H zs zs',Rl D i y H->H D=some (.lst zs)->Rl D i y (upd H D (.lst zs')))
  (ha:∀ R:V->Hp->Prop,R (.ref b) H->tl σ H R) (hS:aG K H b xs) (hlen:xs.length<=100000)
  (step:∀ D (i:Nat) x H' zs,xs[i]?=some x->Yf H H'->H' D=some (.lst zs)->∀ R:VK,(∀ y aO,Yf H' aO->Rl D i y aO->R y aO)->te (some x::YN src σ) H' R)
  (fin:∀ D (ys:List V) H',H D=none->Yf H H'->H' D=some (.lst ys)->ys.length=xs.length->(∀ (j:Nat) y,ys[j]?=some y->Rl D j y H')->Q (.ref D) H'):fj (none::src) (WG K tl) (YT 0) X9 te σ H Q :=
 ha _ ⟨b,rfl,⟨xs,hS⟩,fun D hD=>UW (Wo.imp fun H' (e:Yf H H')=>e.seq hS) (Rl D) (st D) (su D) (fun _ e=>e) hD hlen (fun i x H' zs hx sm hd R r=>step D i x H' zs hx sm hd R r) fun ys H' sm=>fin D ys H' hD sm⟩
theorem Yc9 {K:W.Frag} {tl:TE} {xs:List V} {b:Addr} (Rl:Addr->Nat->V->Hp->Prop) (st:∀ D i y H H',Rl D i y H->Yf H H'->Rl D i y H') (su:∀ D i y H zs zs',Rl D i y H->H D=some (.lst zs)->Rl D i y (upd H D (.lst zs')))
  (ha:∀ R:V->Hp->Prop,R (.ref b) H->tl σ H R) (hS:aJ K H b xs) (hlen:xs.length<=100000)
  (step:∀ D (i:Nat) x H' zs,xs[i]?=some x->Yf H H'->H' D=some (.lst zs)->∀ R:VK,(∀ y aO,Yf H' aO->Rl D i y aO->R y aO)->te (some x::YN src σ) H' R)
  (fin:∀ D (ys:List V) H',H D=none->Yf H H'->H' D=some (.lst ys)->ys.length=xs.length->(∀ (j:Nat) y,ys[j]?=some y->Rl D j y H')->Q (.ref D) H'):fj (none::src) (qR K tl) (YT 0) X9 te σ H Q :=
 ha _ ⟨b,rfl,⟨xs,hS⟩,fun D hD=>UW (Ry.imp fun H' (e:Yf H H')=>e.tup hS) (Rl D) (st D) (su D) (fun _ e=>e) hD hlen (fun i x H' zs hx sm hd R r=>step D i x H' zs hx sm hd R r) fun ys H' sm=>fin D ys H' hD sm⟩
end
mutual
inductive VL (H:Hp):V->PyData->List Addr->Prop
 | int (i:Int):VL H (.int i) (.int i) []
 | str (x:Str) (h:PyData.strOk x=true):VL H (.str x) (.str x) []
 | lst {a:Addr} {vs:List V} {ds:List PyData} {L:List Addr}:H a=some (.lst vs)->vs.length<=10000->oR H vs ds L->VL H (.ref a) (.list ds) (a::L)
 | tup {a:Addr} {vs:List V} {ds:List PyData} {L:List Addr}:H a=some (.tup vs)->vs.length<=10000->oR H vs ds L->VL H (.ref a) (.tuple ds) L
inductive oR (H:Hp):List V->List PyData->List Addr->Prop
 | nil:oR H [] [] []
 | cons {v:V} {d:PyData} {L:List Addr} {vs:List V} {ds:List PyData} {L':List Addr}:VL H v d L->oR H vs ds L'->oR H (v::vs) (d::ds) (L++L')
end
section
variable {src:List (Option Nat)} {te:TE} {σ:St} {H:Hp} {Q:VK}
theorem Yd2 {lo c:Int} {n:Nat} {P:Hp->Prop}:X0 (tW lo c n) P ((List.range n).map fun (i:Nat)=>V.int (lo+i*c)):=fun H hq i=>by
 refine ⟨fun x hx=>?_,fun hi=>by show n<=i;simpa using hi⟩;have hi:i<n:=by
  have:=(List.getElem?_eq_some_iff.mp hx).1;simpa using this
 refine ⟨hi,fun y H' ⟨e1,e2⟩=>⟨e2,?_⟩⟩;rw [List.getElem?_map,List.getElem?_range hi] at hx
 rw [e1];exact Option.some.inj hx
def UX (n c m:Nat):Prop:=(∀ i,i<m->i*c<n)/\n<=m*c
theorem UX.uniq {n c m m':Nat} (h:UX n c m) (h':UX n c m'):m=m':=by
 rcases Nat.lt_trichotomy m m' with c1 | c1 | c1
 ·have:=h'.1 m c1;have:=h.2;omega
 ·exact c1
 ·have:=h.1 m' c1;have:=h'.2;omega
theorem Yd3 {n c:Nat} (hc:0<c):∃ m:Nat,Builtin.Range.rangeSize 0 n c=m/\UX n c m:=by
 rw [VS (by omega)];by_cases h:(0:Int)<n
 ·refine ⟨(n - 1) / c+1,?_,fun i hi=>?_,?_⟩
  ·rw [if_pos h]
   have:(n:Int) - 0 - 1=((n - 1:Nat):Int):=by omega
   rw [this];rfl
  ·have h1:i*c<=(n - 1) / c*c:=Nat.mul_le_mul_right c (by omega)
   have h2:=Nat.div_mul_le_self (n - 1) c;omega
  ·have h1:=Nat.div_add_mod (n - 1) c
   have h2:=Nat.mod_lt (n - 1) hc;rw [Nat.add_mul,Nat.mul_comm];omega
 ·exact ⟨0,by rw [if_neg h];rfl,fun i hi=>absurd hi (by omega),by omega⟩
end
end L2
namespace L2
open PySem
section
variable {src:List (Option Nat)} {te:TE} {σ:St} {H:Hp} {Q:VK}
theorem Uz {ta:TA} {n:Nat} (I:Addr->Nat->List V->Hp->Prop) (ha:∀ R:List V->Hp->Prop,R [.int n] H->ta σ H R) (hlen:n<=100000)
  (i0:∀ D,H D=none->I D 0 [] (upd H D (.lst []))) (dl:∀ D i zs H',I D i zs H'->zs.length=i/\H' D=some (.lst zs))
  (step:∀ D (i:Nat) zs H',H D=none->i<n->I D i zs H'->∀ R:VK,(∀ y aO,aO D=some (.lst zs)->I D (i+1) (zs++[y]) (upd aO D (.lst (zs++[y])))->R y aO)->te (some (.int i)::YN src σ) H' R)
  (fin:∀ D zs H',H D=none->I D n zs H'->Q (.ref D) H'):fj (none::src) (Qz ta) (YT 0) X9 te σ H Q:=by
 refine ha _ ⟨n,rfl,by omega,by omega,fun D hD=>?_⟩;have h6:100000<sizeLine:=by decide
 refine Uu (V5 (lo:=0) (n:=n) (P:=fun _=>True)) (fun i zs σ' H'=>(∃ o,σ'=o::YN src σ)/\i<=n/\I D i zs H') ⟨⟨none,rfl⟩,Nat.zero_le _,i0 D hD⟩ (fun i zs σ' H' q=>⟨trivial,(dl _ _ _ _ q.2.2).2⟩) (Wp 0) ?_ ?_
 ·rintro i zs σ' H' x hx ⟨⟨o,rfl⟩,_,hI⟩
  have hi:i<n:=by have:=(List.getElem?_eq_some_iff.mp hx).1;simpa using this
  rw [List.getElem?_map,List.getElem?_range hi] at hx
  have e:V.int (0+(i:Int))=x:=Option.some.inj hx;rw [Int.zero_add] at e
  subst e;have hl:=(dl _ _ _ _ hI).1
  show te (some (.int i)::YN src σ) H' _
  exact step D i zs H' hD hi hI _ fun y aO hd hI'=>⟨hd,by omega,⟨_,rfl⟩,hi,hI'⟩
 ·rintro zs σ' H' ⟨_,_,hI⟩
  exact fin D zs H' hD (by simpa using hI)
end
end L2
namespace L2
open PySem PySem.Spec PyProof.Rows
theorem Hy {P:Program} {w:World} {X:Cx}:X3 (jT P w) X (fun _ _ _=>False):=by
 intro pins σ H s e s' I h;obtain ⟨_,_,_,_,_,_,_,_,_,_,z⟩:=h;exact z.elim
def tNo:TE:=fun _ _ _=>False
theorem Yd4 {X:Cx} {e:Expr}:PE X e tNo:=fun _ _ _ _ _ _ h=>h.elim
def Yfq (l:List Str) (v:Str):List Str:=if l.any (·==v) then l else l++[v]
def met (val:Nat->Str) (i:Nat):List Str:=((List.range i).map val).foldl Yfq []
def LQ (a:Addr) (n:Nat):HO := .ext fun h=>∃ (o:Obj) (es:Array (Int×Value)) (ep:Nat) (t:SetTable),h.get? a=some o/\o.ExactSet/\o.data = .set es ep t/\t.fits es.size=true/\es.size=n/\n<scanBound
def MN:TT:=fun _ _ _=>False
theorem Yd5 {X:Cx} {e:Expr}:PT X e MN:=fun _ _ _ _ _ _ h=>h.elim
section
variable {X:Cx} {e lo st:Expr} {te tl ts:TE} {pos p2:Pos}
def HB (K:W.Frag) (te tl ts:TE):TE:=fun σ H Q=>te σ H fun x H1=>tl σ H1 fun y H2=>ts σ H2 fun z H3 =>
 ∃ (a:Addr) (xs:List V) (k n:Int),x = .ref a/\y = .int k/\z = .int n/\0<=k/\0<n/\aG K H3 a xs/\∀ p ys,H3 p=none->(∀ v∈ys,v∈xs)->ys.length<=xs.length->Q (.ref p) (upd H3 p (.lst ys))
end
structure tX (K:W.Frag) (B:Addr) (m:Str) (f:Addr):Prop where
 ga:W.specialIn K (.ref B) "__getattribute__"=some (some (.builtin "type.__getattribute__"))
 rd:W.readsIn K B (.type "type")=true
 at_:W.findCls K (.ref B) (.type "type") m=some (.val (.ref f))
 kp:W.keepIn K (.ref f)=true
def Gx.Cf (g:Gx) (k:Nat) (x m:Str) (ps:List Str) (sp:Sp):Prop:=∃ B f fd,aY g.P g.w g.K g.mg g.base cB k f fd ps sp/\Xn g.K fd ps []/\tX g.K B m f/\g.mg x=some (.ref B)
def Gx.jU (g:Gx) (x m qual:Str) (st:Stmt) (ps:List Str):Prop:=∃ B f fd,eF g.K m qual st f fd/\Xn g.K fd ps []/\tX g.K B m f/\g.mg x=some (.ref B)
theorem Gx.Cf.mono {g:Gx} {j k:Nat} {x m:Str} {ps:List Str} {sp:Sp} (F:g.Cf j x m ps sp) (h:j<=k):g.Cf k x m ps sp:=by
 obtain ⟨B,f,fd,F,r⟩:=F;exact ⟨B,f,fd,F.mono h,r⟩
section
variable {g:Gx} {X:Cx} {k j:Nat} {x m:Str} {ps:List Str} {sp:Sp} {e:Expr} {es:List Expr} {t:TA} {p pos apos:Pos}
theorem HD {pl:Sem Bool} (F:g.Cf j x m ps sp) (hr:aP k X.A) (ha:PA X (e::es) t) (hj:j<=k) (hX:X.gx=g) (hg:Gl X x) (hdb:(x==("__debug__":Str))=false)
  (hst:starEach (e::es) X.env=(false,eval e X.env)::starEach es X.env) (hpl:(backTo pos (starEach es X.env)).any (·.1)=false)
  (ht:eval (.Call (.Attribute (.Name x p) m apos) (e::es) [] pos) X.env=(do
   let ov <- eval (.Name x p) X.env
   standAt apos.atName
   let (f,first) <- holding [ov] (getMethod ov m pl)
   callWith pos f first (backTo pos (starEach (e::es) X.env)) (backToKw pos (keywordEach [] X.env)))):PE X (.Call (.Attribute (.Name x p) m apos) (e::es) [] pos) (WY sp [] E0 t):=by
 subst hX;obtain ⟨B,f,fd,F,b,c,hm⟩:=F;intro pins s σ H Q I h;refine PySem.W.methodCall_KW (pl:=pl) (aL (T8 (g:=X.gx) (pos:=p) hm rfl hg hdb pins s σ H (fun v H1=>v = .ref B/\H1=H) I ⟨rfl,rfl⟩) fun u s1 ⟨v,H1,I1,rv,e1,e2⟩=>?_) ht;subst e1 e2;obtain rfl:u=Value.ref B:=rv;refine PySem.W.method_cls I1.bA c.ga (PySem.W.cls_value I1.bA c.rd c.at_ rfl ?_);have I2:=I1.tok (s1.toks+1);refine PySem.W.callWith_K (h₀:=X.base) I.ok.mod.eZ c.kp (aL (ha pos pins _ σ H1 _ I2 h) fun us s2 ⟨vs,H2,I3,r,q2⟩=>⟨I3.bA,?_⟩) hst hpl;exact WC (bL:=[]) (ds:=[]) F (hr.mono hj) b .nil WI I3 r q2
end
def HF:R2:=fun y x H Q=>∃ a o,x = .ref a/\rG H a y o/\Q (.bl (!o.isSome)) H
def xY:R2:=fun y x H Q=>∃ a o,x = .ref a/\rG H a y o/\Q (.bl o.isSome) H
section
variable {K:W.Frag} {h:Heap} {mg:Str->Option Value} {P:Program} {w:World} {base:Heap} {f B:Addr} {x qual m:Str} {st:Stmt} {ps N:List Str} {oc kV dc pm cd ct:Value} {od an:Option Addr} {sl:Array (Option Value)} {g:Gx} {k:Nat} {sp:Sp}
theorem Gx.jU.cf (R:g.jU x m qual st ps) (S:aH N ps (Yi st)) (len:∀ vs H Q E,sp vs H Q E->vs.length=ps.length) (b:Uc g k N qual st sp):g.Cf (k+1) x m ps sp:=by
 obtain ⟨B,f,fd,F,bd,c,hm⟩:=R;exact ⟨B,f,fd,F.ok S len fun cdv A outer s H vs Q E hr h=>b f cdv A outer s H vs Q E hr h,bd,c,hm⟩
theorem Yfr (X:K.In h) (G:h.Ns mainGlobals mg) (ps:List Str) (aB:PySem.W.nsIn K mainGlobals x=some (some (.ref B))) (ga:PySem.W.specialIn K (.ref B) "__getattribute__"=some (some (.builtin "type.__getattribute__")))
  (rd:PySem.W.readsIn K B (.type "type")=true) (a:PySem.W.findCls K (.ref B) (.type "type") m=some (.val (.ref f)))
  (l:K.lookup f=some ⟨oc,od,.func (PySem.W.fnOf m qual (Xf st) (YY st) (Yi st) .none kV dc pm an cd ct),sl⟩) (c:PySem.W.codeIn K cd qual=true) (k:PySem.W.keepIn K (.ref f)=true)
  (b:∀ (kV doc pm:Value) (an:Option Addr) (cdv ct:Value) (us:List Value),us.length=ps.length->bindArgs (PySem.W.fnOf m qual (Xf st) (YY st) (Yi st) .none kV doc pm an cdv ct) ⟨us,[]⟩=pure (ps.zip us)) :
  ∀ P w base,(Gx.mk P w K mg base).jU x m qual st ps:=fun P w base =>
 have F:=Vb (st:=st) l c k
 ⟨B,f,_,F,F.binds b,⟨ga,rd,a,k⟩,PySem.W.mg_of X G aB⟩
end
end L2
namespace L2
def HJ (a b:TE):TE:=fun σ H Q=>a σ H Q\/b σ H Q
end L2
namespace L2
open PySem PySem.Spec PyProof.Rows
section
variable {g:TG} {tb:TS} {D:Ends} {σ:St} {H:Hp}
theorem Vm {K:W.Frag} {ta:TA} {a:Addr} {xs:List V} (Pv:Nat->St->Hp->Prop) (ha:∀ R:List V->Hp->Prop,R [.ref a] H->ta σ H R) (h0:Pv 0 σ H) (hl:∀ i σ H,i<=xs.length->Pv i σ H->aG K H a xs)
  (hs:∀ i x σ H T,xs[i]?=some x->Pv i σ H->H T=none->g (.ref T) σ (upd H T (.tup [.int (i:Int),x])) fun σ2 H2=>tb { D with nx:=Pv (i+1),ct:=Pv (i+1),bk:=D.nx } σ2 H2) (hd:∀ σ H,Pv xs.length σ H->D.nx σ H):Vj (G7 K ta) g tb D σ H:=by
 refine ha _ ⟨a,xs,rfl,hl 0 σ H (Nat.zero_le _) h0,?_⟩;refine ⟨fun i m σ H=>m=xs.length - i/\i<=xs.length/\Pv i σ H,⟨xs.length,by simp,Nat.zero_le _,h0⟩,?_⟩;rintro i m σ H ⟨rfl,hi,p⟩;have q:=hl i σ H hi p;by_cases hlt:i<xs.length
 ·have hx:xs[i]?=some xs[i]:=List.getElem?_eq_getElem hlt
  refine .inr ⟨⟨xs,_,q,hx⟩,Pv (i+1),fun σ' H' p'=>⟨xs.length - (i+1),by omega,rfl,hlt,p'⟩,?_⟩;rintro v H' ⟨T,rfl,hT,heq⟩;have e:=heq xs _ q hx;subst e;exact hs i _ σ H T hx p hT
 ·have e:i=xs.length:=by omega
  subst e;exact .inl ⟨⟨xs,q,Nat.le_refl _⟩,hd σ H p⟩
end
end L2
namespace L2
open PySem
theorem UY {X:Cx} {K:W.Frag} (h:X.K=K:=by rfl):XH X (.type "tuple") (fun xs H Q=>∃ p ys,xs=[.ref p]/\((aG K H p ys/\∀ l,H l=none->Q (.ref l) (upd H l (.tup ys)))\/aJ K H p ys/\Q (.ref p) H)):=by subst h;exact Xy
theorem Qu {X:Cx} {K:W.Frag} (h:X.K=K:=by rfl):XH X (.type "list") (fun xs H Q=>∃ p ys,xs=[.ref p]/\(aG K H p ys\/aJ K H p ys)/\∀ l,H l=none->Q (.ref l) (upd H l (.lst ys))):=by subst h;exact Xu
end L2
namespace L2
open PySem PySem.Spec PyProof.Rows
abbrev bZ (f:Addr) (fd:FuncData):HO := .ext fun h=>h.get? f=some { cls := .type "function",data := .func fd }
abbrev eN (c:Addr) (q:Str):HO := .ext fun h=>h.CodeRec (.ref c) q
abbrev Wz (c:Addr) (v:V):HO := .ext fun h=>∃ u,YF v u/\h.IsCell c (some u)
section
variable {P:Program} {w:World} {H H':Hp} {h h':Heap}
theorem Q1 {f:Addr} {fd:FuncData} (e:h.get? f=some { cls := .type "function",data := .func fd }):YZ P w H h f (bZ f fd):=⟨e,⟨_,e⟩,fun _ _ p k=>k _ p⟩
theorem YfZ {c:Addr} {q:Str} (e:h.CodeRec (.ref c) q):YZ P w H h c (eN c q):=by
 obtain ⟨c',o,vs,t,e1,e2,e3⟩:=id e
 cases e1
 refine ⟨e,⟨_,e2⟩,fun h1 h2 p k=>?_⟩;obtain ⟨c',o,vs,t,e1,e2,e3⟩:=p
 cases e1
 exact ⟨c,o,vs,t,rfl,k _ e2,e3⟩
theorem Uf {c:Addr} {v:V} {u:Value} (r:YF v u) (e:h.IsCell c (some u)):YZ P w H h c (Wz c v):=by
 obtain ⟨o,e1,e2⟩:=id e;refine ⟨⟨u,r,e⟩,⟨_,e1⟩,fun h1 h2 p k=>?_⟩;obtain ⟨u,r,o,e1,e2⟩:=p;exact ⟨u,r,o,k _ e1,e2⟩
theorem bf.track {c:Addr} {o:HO} (x:bf P w H h) (hn:H c=none) (new:YZ P w (upd H c o) h c o):bf P w (upd H c o) h:=fun b u e=>by
 by_cases hb:b=c
 ·subst hb;rw [Yc] at e;cases e;exact new
 ·rw [Yg hb] at e
  exact (x b u e).stay (fun _ _ _ q=>q) (fun d q=>by rw [Yg (Yj q hn)];exact q) fun d xs q=>by rw [Yg (Yj q hn)];exact q
end
def off (H:Hp) (cs:List Addr):Hp:=fun b=>if b∈cs then none else H b
def on (H' H:Hp) (cs:List Addr):Hp:=fun b=>if b∈cs then H b else H' b
section
variable {H H':Hp} {cs:List Addr} {b:Addr} {o:HO}
theorem Vg (h:b∈cs):off H cs b=none:=if_pos h
theorem YS (h:b∉cs):off H cs b=H b:=if_neg h
theorem VT (h:b∈cs):on H' H cs b=H b:=if_pos h
theorem Xd (h:b∉cs):on H' H cs b=H' b:=if_neg h
theorem XJ (h:H b=none):off H cs b=none:=by unfold off;split<;>first | rfl | exact h
theorem VC (h:off H cs b=some o):H b=some o/\b∉cs:=by
 by_cases hb:b∈cs
 ·rw [Vg hb] at h;cases h
 ·rw [YS hb] at h;exact ⟨h,hb⟩
end
abbrev YE:=List (Str×Addr×V)
def YE.cl (l:YE):List (Str×Addr):=l.map fun p=>(p.1,p.2.1)
def YE.as (l:YE):List Addr:=l.map fun p=>p.2.1
def YE.vs (l:YE):List V:=l.map fun p=>p.2.2
def YE.In (l:YE) (H:Hp):Prop:=∀ p∈l,H p.2.1=some (Wz p.2.1 p.2.2)
section
variable {l:YE} {H:Hp}
theorem Xk {c:Addr} (h:c∈l.as):∃ p∈l,p.2.1=c:=by
 obtain ⟨p,hp,e⟩:=List.mem_map.mp h;exact ⟨p,hp,e⟩
theorem Wq:∀ {l:YE} {x:Str} {c:Addr},l.cl.lookup x=some c->∃ p∈l,p.1=x/\p.2.1=c
 | p::l,x,c,h=>by
  rw [YE.cl,List.map_cons,List.lookup_cons] at h
  cases hb:x==p.1 with
  | true=>rw [hb] at h;exact ⟨p,.head _,(eq_of_beq hb).symm,Option.some.inj h⟩
  | false =>
   rw [hb] at h
   obtain ⟨q,h1,h2⟩:=Wq (l:=l) h;exact ⟨q,.tail _ h1,h2⟩
theorem VD:∀ {l:YE},(l.map (·.1)).Nodup->∀ p∈l,l.cl.lookup p.1=some p.2.1
 | a::q,nd,p,hp=>by
  rw [List.map_cons,List.nodup_cons] at nd
  rw [YE.cl,List.map_cons,List.lookup_cons];rcases List.mem_cons.mp hp with rfl | hp
  ·simp
  ·have:(p.1==a.1)=false:=by
    rw [beq_eq_false_iff_ne];intro z;exact nd.1 (z▸List.mem_map_of_mem hp)
   rw [this];exact VD nd.2 p hp
theorem VU {b:Addr} {xs:List V} (hl:l.In H) (h:H b=some (.tup xs)):off H l.as b=some (.tup xs):=by
 rw [YS fun hb=>?_]
 ·exact h
 ·obtain ⟨p,hp,rfl⟩:=Xk hb
  rw [hl p hp] at h;cases h
theorem WO {b:Addr} {o:HO} (hl:l.In H) (h:H b=some o) (ho:∀ φ,o ≠ .ext φ):off H l.as b=some o:=by
 rw [YS fun hb=>?_]
 ·exact h
 ·obtain ⟨p,hp,rfl⟩:=Xk hb
  rw [hl p hp] at h
  exact ho _ (Option.some.inj h).symm
theorem Yfs {P:Program} {w:World} {h:Heap} (hl:l.In H) (x:bf P w H h):bf P w (off H l.as) h:=fun b o e=>by
 obtain ⟨e1,e2⟩:=VC e;refine (x b o e1).stay (fun _ _ _ q=>q) (fun c q=>WO hl q fun φ z=>by cases z) fun c xs q=>VU hl q
end
def VE (P:Program) (w:World) (K:W.Frag) (mg:Str->Option Value) (base:Heap) (N:List Str) (qual:Str) (scope:Scope) (f:Addr) (cd:Value) (cl:List (Str×Addr)) (A:Around) (outer:List Env) (s:Shared) (H:Hp):Cx where
 prog:=P
 w:=w
 K:=K
 mg:=mg
 base:=base
 A:=A.deeper (W.envX qual scope s.heap.objs.size f cd cl)
 N:=N
 s₀:=s
 H₀:=H
 env:=W.envX qual scope s.heap.objs.size f cd cl
 outer:=outer
 stack:=W.envX qual scope s.heap.objs.size f cd cl::outer
 ex:=[]
 calm:=true
 fn:=fun _=>false
 pn:=[]
 xe:=fun _ _=>False
structure cJ (N ps:List Str) (l:List Str) (sc:Scope):Prop where
 kind:sc.kind = .function
 co:sc.isCoroutine=false
 gen:sc.isGenerator=false
 nd:N.Nodup
 pre:N.take ps.length=ps
 suf:N.drop (N.length - l.length)=l
 len:ps.length+l.length<=N.length
 par:∀ x∈ps,sc.names.lookup x=some .local
 fre:∀ x∈l,sc.names.lookup x=some .free
 ig:∀ y∈sc.names,y.2 ≠ .cell
 all:∀ y∈sc.names,y.2 = .free->y.1∈l
def WU (N:List Str) (vs fv:List V):St:=vs.map some++List.replicate (N.length - vs.length - fv.length) none++fv.map some
section
variable {P:Program} {w:World} {K:W.Frag} {mg:Str->Option Value} {base:Heap} {N ps:List Str} {qual name:Str} {scope:Scope} {f c:Addr} {A:Around} {outer:List Env} {s:Shared} {H:Hp} {us:List Value} {vs:List V} {l:YE} {cd:Value}
theorem UZ:∀ {ps:List Str} {us:List Value} {i:Nat} {x:Str} {u:Value},ps.Nodup->ps[i]?=some x->us[i]?=some u->(ps.zip us).reverse.lookup x=some u:=by
 intro ps us i x u nd h1 h2;have hm:(x,u)∈ps.zip us:=List.mem_of_getElem? (show (ps.zip us)[i]?=some (x,u) from List.getElem?_zip_eq_some.mpr ⟨h1,h2⟩);have key:∀ (q:List (Str×Value)),(q.map (·.1)).Nodup->(x,u)∈q->q.lookup x=some u:=by
  intro q
  induction q with
  | nil=>intro _ h;cases h
  | cons a q ih =>
   intro nd h;rw [List.lookup_cons];rw [List.map_cons,List.nodup_cons] at nd
   rcases List.mem_cons.mp h with rfl | h
   ·simp
   ·have:(x==a.1)=false:=by
     rw [beq_eq_false_iff_ne];intro z;exact nd.1 (z▸List.mem_map_of_mem h)
    rw [this];exact ih nd.2 h
 refine key _ ?_ (List.mem_reverse.mpr hm);rw [List.map_reverse];have hz:∀ (ps:List Str) (us:List Value),ps.Nodup->((ps.zip us).map (·.1)).Nodup/\∀ z∈(ps.zip us).map (·.1),z∈ps:=by
  intro ps
  induction ps with
  | nil=>intro us _;simp
  | cons a ps ih =>
   intro us nd
   cases us with
   | nil=>simp
   | cons u us =>
    have nd':=List.nodup_cons.mp nd;obtain ⟨i1,i2⟩:=ih us nd'.2;rw [List.zip_cons_cons,List.map_cons];refine ⟨List.nodup_cons.mpr ⟨fun hm=>nd'.1 (i2 _ hm),i1⟩,fun z hz=>?_⟩;rcases List.mem_cons.mp hz with rfl | hz
    ·exact .head _
    ·exact .tail _ (i2 z hz)
 exact List.pairwise_reverse.mpr ((hz ps us nd).1.imp fun h=>Ne.symm h)
theorem UA {h1:Heap} {tk:Nat} (S:cJ N ps (l.map (·.1)) scope) (hnd:l.as.Nodup) (hd:A.handled=none) (e0:dB P w K mg base A outer s H) (hl:vs.length=ps.length) (r:Yw vs us) (cellAt:∀ p∈l,∃ u,YF p.2.2 u/\s.heap.IsCell p.2.1 (some u)) (hoff:bf P w (off H l.as) s.heap)
  (hns:h1.Ns s.heap.objs.size (fun x=>(ps.zip us).reverse.lookup x)) (hk:∀ b o,s.heap.get? b=some o->h1.get? b=some o) :
  Inv (VE P w K mg base N qual scope f cd l.cl A outer s (off H l.as)) [] (WU N vs l.vs) (off H l.as) { s with heap:=h1,toks:=tk }:=by
 have afw:l.cl.map (·.1)=l.map (·.1):=by rw [YE.cl,List.map_map];rfl
 have ndN:(l.map (·.1)).Nodup:=by rw [<- S.suf];exact S.nd.sublist (List.drop_sublist _ _)
 have gM:∀ b:Addr,b∉(VE P w K mg base N qual scope f cd l.cl A outer s (off H l.as)).ex:=fun b z=>absurd (show b∈([]:List Addr) from z) (by simp)
 have lk:=VD ndN;have MP:∀ p∈l,∀ q∈l,p.2.1=q.2.1->p=q:=fun p hp q hq e=>by
  obtain ⟨i,hi,e1⟩:=List.getElem_of_mem hp;obtain ⟨j,hj,e2⟩:=List.getElem_of_mem hq;have h1:l.as[i]?=some p.2.1:=by rw [YE.as,List.getElem?_map,List.getElem?_eq_getElem hi,e1];rfl
  have h2:l.as[j]?=some p.2.1:=by rw [YE.as,List.getElem?_map,List.getElem?_eq_getElem hj,e2,e];rfl
  have hij:i=j:=by
   obtain ⟨g1,g2⟩:=List.getElem?_eq_some_iff.mp h1;obtain ⟨g3,g4⟩:=List.getElem?_eq_some_iff.mp h2;exact (List.getElem_inj hnd).mp (g2.trans g4.symm)
  subst hij;rw [<- e1,<- e2]
 refine ⟨⟨e0.mod,S.kind,rfl,rfl,Nat.le_refl _,fun y z c h1 h2=>?_,fun y hy=>?_,fun y c h _=>absurd h (by show ¬ (false=true);decide),fun _=>hd,Around.frames_deeper e0.frames,.inr ⟨rfl,rfl⟩,fun b z=>absurd z (gM b),fun b o e=>⟨(e0.bs b o e).1,XJ (e0.bs b o e).2⟩,e0.dO,fun b _ _=>gM b,fun b z=>absurd z (gM b),e0.bV,fun b hb=>XJ (e0.d9 b hb)⟩,
  rfl,e0.bare,Un.kept hk,⟨_,hns,fun i y v h1 h2 h3=>?_⟩,fun y c h=>?_,XJ (e0.hok.fresh (Nat.le_refl _)),fun y c h=>?_,fun p hp=>absurd (show p∈([]:List (Addr×Obj)) from hp) (by simp),hoff.kept hk,?_⟩
 ·obtain ⟨p,hp,e1,e2⟩:=Wq h1
  obtain ⟨q,hq,e3,e4⟩:=Wq h2;have:=MP p hp q hq (e2.trans e4.symm);rw [<- e1,<- e3,this]
 ·have hy:scope.names.lookup y=some .cell\/scope.names.lookup y=some .free:=hy
  rcases hy with hy | hy
  ·exact absurd rfl (S.ig _ (PySem.mem_of_lookup hy))
  ·obtain ⟨p,hp,e⟩:=List.mem_map.mp (S.all _ (PySem.mem_of_lookup hy) rfl)
   exact ⟨p.2.1,by show l.cl.lookup y=_;rw [<- show p.1=y from e];exact lk p hp⟩
 ·have hvl:l.vs.length=(l.map (·.1)).length:=by rw [YE.vs,List.length_map,List.length_map]
  have hsl:=S.len;unfold WU at h2;by_cases hi:i<vs.length
  ·have ha:vs[i]?=some v:=by
    rw [List.append_assoc,List.getElem?_append_left (by simpa using hi),List.getElem?_map] at h2
    cases e:vs[i]? with
    | none=>rw [e] at h2;cases h2
    | some a=>rw [e] at h2;cases h2;rfl
   obtain ⟨u,hu,rv⟩:=r.get ha;have hp:ps[i]?=some y:=by
    rw [<- S.pre,List.getElem?_take_of_lt (by omega)];exact h1
   have sJ:ps.Nodup:=by rw [<- S.pre];exact S.nd.sublist (List.take_sublist _ _)
   exact ⟨u,rv,.inl ⟨S.par y (List.mem_of_getElem? hp),UZ sJ hp hu⟩⟩
  ·by_cases hi2:i<vs.length+(N.length - vs.length - l.vs.length)
   ·rw [List.getElem?_append_left (by rw [List.length_append,List.length_map,List.length_replicate];exact hi2),List.getElem?_append_right (by rw [List.length_map];omega),List.getElem?_replicate] at h2
    split at h2<;>cases h2
   ·rw [List.getElem?_append_right (by rw [List.length_append,List.length_map,List.length_replicate];omega),List.length_append,List.length_map,List.length_replicate,List.getElem?_map] at h2
    obtain ⟨v',hv',e⟩:=Option.map_eq_some_iff.mp h2
    cases e
    have hv2:(l.map fun p=>p.2.2)[i - (vs.length+(N.length - vs.length - l.vs.length))]?=some _:=hv';rw [List.getElem?_map] at hv2
    obtain ⟨p,hp,rfl⟩:=Option.map_eq_some_iff.mp hv2;have hpm:=List.mem_of_getElem? hp;have hy:(l.map (·.1))[i - (vs.length+(N.length - vs.length - l.vs.length))]?=some y:=by
     rw [<- S.suf,List.getElem?_drop];rw [show N.length - (l.map (·.1)).length+(i - (vs.length+(N.length - vs.length - l.vs.length)))=i by omega];exact h1
    rw [List.getElem?_map,hp] at hy
    have ey:p.1=y:=Option.some.inj hy;obtain ⟨u,ru,hc⟩:=cellAt p hpm;obtain ⟨o,ho,hd'⟩:=hc;refine ⟨u,ru,.inr ⟨.inr ?_,p.2.1,by show l.cl.lookup y=_;rw [<- ey];exact lk p hpm,o,hk _ _ ho,hd'⟩⟩;exact S.fre y (by rw [<- ey];exact List.mem_map_of_mem hpm)
 ·obtain ⟨p,hp,e1,e2⟩:=Wq (show l.cl.lookup y=some c from h)
  obtain ⟨u,ru,o,ho,hd'⟩:=cellAt p hp;exact ⟨some u,o,by rw [<- e2];exact hk _ _ ho,hd'⟩
 ·obtain ⟨p,hp,e1,e2⟩:=Wq (show l.cl.lookup y=some c from h)
  exact Vg (by rw [<- e2];exact List.mem_map_of_mem hp)
 ·unfold WU
  show _=N.length
  have hvl:l.vs.length=(l.map (·.1)).length:=by rw [YE.vs,List.length_map,List.length_map]
  have hsl:=S.len;rw [List.length_append,List.length_append,List.length_map,List.length_map,List.length_replicate];omega
theorem UB {h1:Heap} {tk:Nat} (S:cJ N ps (l.map (·.1)) scope) (hnd:l.as.Nodup) (hd:A.handled=none) (e0:dB P w K mg base A outer s H) (hl:vs.length=ps.length) (r:Yw vs us) (hin:l.In H)
  (hns:h1.Ns s.heap.objs.size (fun x=>(ps.zip us).reverse.lookup x)) (hk:∀ b o,s.heap.get? b=some o->h1.get? b=some o) :
  Inv (VE P w K mg base N qual scope f cd l.cl A outer s (off H l.as)) [] (WU N vs l.vs) (off H l.as) { s with heap:=h1,toks:=tk } :=
 UA S hnd hd e0 hl r (fun p hp=>(e0.hok _ _ (hin p hp)).1) (Yfs hin e0.hok) hns hk
theorem xZ {Q:VK} {v:V} {u:Value} {σ':St} {H':Hp} {s':Shared} (e0:dB P w K mg base A outer s H) (hin:l.In H) (J:Inv (VE P w K mg base N qual scope f cd l.cl A outer s (off H l.as)) [] σ' H' s') (hlk:∀ p∈l,l.cl.lookup p.1=some p.2.1) (rv:YF v u) (q:(∀ c∈l.as,H' c=none)->Q v (on H' H l.as)) :
  CE outer P w H s Q u s':=by
 have un:=J.base;have nin:∀ {b:Addr},H b=none->b∉l.as:=fun hb hm=>by
  obtain ⟨p,hp,rfl⟩:=Xk hm;rw [hin p hp] at hb;cases hb
 have aV:∀ c∈l.as,H' c=none:=fun c hc=>by
  obtain ⟨p,hp,rfl⟩:=Xk hc;exact J.aV p.1 p.2.1 (hlk p hp)
 refine ⟨v,on H' H l.as,J.os,J.bare,⟨fun b o e n hb hx=>un.keep b o e (XJ n) hb hx,fun b o e n hb hx=>un.slot b o e (XJ n) hb hx,fun b o e n hx=>?_,fun b o e hx=>un.there b o e hx,fun b xs e=>?_,fun b o u e=>?_,fun b ps e=>?_⟩,fun b o e=>?_,rv,q aV⟩
 ·rw [Xd (nin n)]
  exact un.free b o e (XJ n) hx
 ·have h1:=VU hin e
  rw [Xd (VC h1).2];exact un.tups b xs h1
 ·have h1:=WO hin e fun φ z=>by cases z
  rw [Xd (VC h1).2];exact un.bF b o u h1
 ·have h1:=WO hin e fun φ z=>by cases z
  rw [Xd (VC h1).2];exact un.bR b ps h1
 ·by_cases hb:b∈l.as
  ·rw [VT hb] at e
   obtain ⟨p,hp,rfl⟩:=Xk hb;rw [hin p hp] at e
   cases e
   obtain ⟨⟨u,r,oc,ho,hd'⟩,_⟩:=e0.hok _ _ (hin p hp);refine Uf r ⟨oc,un.keep _ _ ho (Vg hb) (fun hf=>?_) (by intro z;exact absurd (show p.2.1∈([]:List Addr) from z) (by simp)),hd'⟩;have:=e0.d9 _ hf;rw [hin p hp] at this;cases this
  ·rw [Xd hb] at e
   refine (J.hok b o e).stay (fun _ _ _ q=>q) (fun c q=>?_) fun c xs q=>?_
   ·rw [Xd fun hc=>?_]
    ·exact q
    ·rw [aV c hc] at q;cases q
   ·rw [Xd fun hc=>?_]
    ·exact q
    ·rw [aV c hc] at q;cases q
end
def VF (H:Hp) (f c:Addr) (fd:FuncData) (qual:Str) (l:YE):Prop:=H f=some (bZ f fd)/\H c=some (eN c qual)/\l.In H
theorem Yft {P:Program} {w:World} {K:W.Frag} {mg:Str->Option Value} {base:Heap} {k:Nat} {f c:Addr} {name qual:Str} {params:Arguments} {body:List Stmt} {scope:Scope} {doc pm ctv:Value} {N ps:List Str} {l:YE} {sp:List V->Hp->VK->Prop}
  (S:cJ N ps (l.map (·.1)) scope) (hnd:l.as.Nodup) (len:∀ vs H Q,sp vs H Q->vs.length=ps.length)
  (hbody:∀ (A:Around) (outer:List Env) (s:Shared) (H:Hp) (vs:List V) (Q:VK),aP k (A.deeper (W.envX qual scope s.heap.objs.size f (.ref c) l.cl))->sp vs H Q ->
   ∃ t,cM (VE P w K mg base N qual scope f (.ref c) l.cl A outer s H) body t/\t { nx:=fun _ H'=>Q .non H',rt:=Q } (WU N vs l.vs) H) :
  aY P w K mg base cB (k+1) f (W.fnX name qual params body scope l.cl .none .none doc pm none (.ref c) ctv) ps
   (fun vs H Q _=>VF H f c (W.fnX name qual params body scope l.cl .none .none doc pm none (.ref c) ctv) qual l/\sp vs (off H l.as) fun v H'=>(∀ c∈l.as,H' c=none)->Q v (on H' H l.as)):=by
 refine ⟨fun vs H Q E h=>len _ _ _ h.2,fun A outer s H args us vs Q E hr e0 hb r hsp=>?_⟩;obtain ⟨⟨hf,hc,hin⟩,hsp⟩:=hsp;have hl:=len _ _ _ hsp;have lim:s.heap.NoLimit:=e0.mod.nolimit.keeps fun b o e=>(e0.bs b o e).1
 have hfo:=(e0.hok _ _ hf).1;have hco:s.heap.CodeRec (.ref c) qual:=(e0.hok _ _ hc).1;have hlu:ps.length=us.length:=by rw [<- hl];exact r.length
 refine codeAny_call_function hr.depth hfo rfl S.co S.gen rfl hco (hb _ _ _ _ ?_);refine wpAny_newFunctionEnv S.ig (fun y hy=>S.par y.1 (List.of_mem_zip hy).1) (fun h₁ hns hsb=>?_) S.kind;have hk₁:∀ b o,s.heap.get? b=some o->h₁.get? b=some o:=fun b o e=>hsb.extBut b o (Nat.ne_of_lt (Heap.lt_size e)) (Heap.get?_push_of_some _ e)
 refine ⟨lim.keeps hk₁,codeAny_func ?_⟩;obtain ⟨t,ht,hq⟩:=hbody A outer s (off H l.as) vs _ (hr.deeper _) hsp;have I:=UB (cd := .ref c) (qual:=qual) (f:=f) (tk:=s.toks+(ps.zip us).length) S hnd hr.hd e0 hl r hin hns hk₁;have lk:=VD (l:=l) (by rw [<- S.suf];exact S.nd.sublist (List.drop_sublist _ _));refine wpAny_mono (ht [] _ _ _ _ I hq) (fun fl s' hs=>?_) fun e s' hs=>hs.elim
 cases fl with
 | ret u =>
  obtain ⟨v,σ',H',J,rv,q⟩:=hs;exact xZ e0 hin J lk rv q
 | next =>
  obtain ⟨σ',H',J,q⟩:=hs;exact xZ (v:=V.non) (u:=Value.none) e0 hin J lk rfl q
 | brk =>
  obtain ⟨_,_,_,q⟩:=hs;exact False.elim q
 | cont =>
  obtain ⟨_,_,_,q⟩:=hs;exact False.elim q
def Bm (mg:Str->Option Value) (base:Heap):Prop:=∃ bm ob,mg "__builtins__"=some (.ref bm)/\bm≠builtinsNs/\bm≠mainGlobals/\base.get? bm=some ob/\ob.cls = .type "module"/\ob.dict=some builtinsNs/\ob.data = .plain
section
variable {X:Cx} {pins:List (Addr×Obj)} {σ:St} {H:Hp} {s:Shared}
theorem Inv.tY {P c':Addr} {ps more:Array Value} {h':Heap} {tk:Nat} {fd:FuncData} {qual:Str} (I:Inv X pins σ H s) (hP:H P=some (.aU ps)) (hx:Heap.ExtBut P s.heap h') (hge:s.heap.objs.size<=c') (hlt:c'<h'.objs.size) (hrec:h'.CodeRec (.ref c') qual) (htb:h'.get? P=some (W.tabObj (ps++more))) :
  Inv X pins σ (upd (upd (upd H P (.aU (ps++more))) c' (eN c' qual)) h'.objs.size (bZ h'.objs.size fd)) { s with heap:=h'.push { cls := .type "function",data := .func fd },toks:=tk }:=by
 have hPl:P<s.heap.objs.size:=I.hok.lt hP;have hcf:s.heap.objs.size<=h'.objs.size:=Nat.le_trans hge (Nat.le_of_lt hlt);have oU:∀ {b:Addr},b<s.heap.objs.size->b≠c'/\b≠h'.objs.size:=fun e=>⟨Nat.ne_of_lt (Nat.lt_of_lt_of_le e hge),Nat.ne_of_lt (Nat.lt_of_lt_of_le e hcf)⟩
 have gk:∀ {b:Addr} {o:HO},H b=some o->b≠c'/\b≠h'.objs.size:=fun e=>oU (I.hok.lt e)
 have push:∀ b o,h'.get? b=some o->(h'.push { cls := .type "function",data := .func fd }).get? b=some o:=fun b o e=>Heap.get?_push_of_some _ e
 have hget:∀ {b:Addr},b≠P->b≠c'->b≠h'.objs.size->(upd (upd (upd H P (.aU (ps++more))) c' (eN c' qual)) h'.objs.size (bZ h'.objs.size fd)) b=H b:=fun h1 h2 h3=>by rw [Yg h3,Yg h2,Yg h1]
 have HN:(upd (upd (upd H P (.aU (ps++more))) c' (eN c' qual)) h'.objs.size (bZ h'.objs.size fd)) P=some (.aU (ps++more)):=by rw [Yg (oU hPl).2,Yg (oU hPl).1,Yc]
 refine I.un ⟨fun b o e n _ _=>push b o (hx b o (fun z=>by rw [z,hP] at n;cases n) e),fun b o e n _ _=>⟨o.slots,push b o (hx b o (fun z=>by rw [z,hP] at n;cases n) e)⟩,fun b o e n _=>?_,fun b o e _=>?_,fun b xs e=>?_,fun b o u e=>?_,fun b qs e=>?_⟩ fun b o e=>?_
 ·have:=Heap.lt_size e
  rw [hget (fun z=>by rw [z,hP] at n;cases n) (oU this).1 (oU this).2];exact n
 ·by_cases hb:b=P
  ·subst hb;exact ⟨_,push _ _ htb⟩
  ·exact ⟨o,push b o (hx b o hb e)⟩
 ·rw [hget (YG e hP (by intro z;cases z)) (gk e).1 (gk e).2];exact e
 ·rw [hget (YG e hP (by intro z;cases z)) (gk e).1 (gk e).2];exact e
 ·by_cases hb:b=P
  ·subst hb
   rw [hP] at e;cases e
   exact ⟨more,HN⟩
  ·exact ⟨#[],by rw [hget hb (gk e).1 (gk e).2,e];simp⟩
 ·by_cases h3:b=h'.objs.size
  ·subst h3
   rw [Yc] at e;cases e
   exact Q1 (Heap.get?_push_size _ rfl)
  ·by_cases h2:b=c'
   ·subst h2
    rw [Yg h3,Yc] at e;cases e
    exact YfZ (hrec.push _)
   ·by_cases h1:b=P
    ·subst h1
     rw [HN] at e;cases e
     exact push _ _ htb
    ·rw [hget h1 h2 h3] at e
     refine (I.hok b o e).stay (fun c u hc q=>push c u (hx c u ?_ q)) (fun c q=>?_) fun c xs q=>?_
     ·rcases hc with rfl | hc
      ·exact h1
      ·exact YG hc hP (by intro z;cases z)
     ·rw [hget (YG q hP (by intro z;cases z)) (gk q).1 (gk q).2];exact q
     ·rw [hget (YG q hP (by intro z;cases z)) (gk q).1 (gk q).2];exact q
end
def tZ (P:Addr) (pos:Pos) (q:Str) (mk:Addr->FuncData->Prop) (H:Hp) (Q:VK):Prop:=∃ ps,H P=some (.aU ps)/\TriplesOk ps.toList /\
 ((codeAmong pos ps.toList=none/\∀ f c fd,H f=none->H c=none->f≠c->mk c fd->Q (.ref f) (upd (upd (upd H P (.aU (ps++#[rawInt pos.line,rawInt pos.col,.ref c]))) c (eN c q)) f (bZ f fd))) \/
  ∃ c,codeAmong pos ps.toList=some (.ref c)/\∀ f fd,H f=none->mk c fd->Q (.ref f) (upd H f (bZ f fd)))
section
variable {X:Cx} {c P:Addr} {name qual:Str} {params:Arguments} {body:List Stmt} {eb:Expr} {scope:Scope} {clos:List (Str×Addr)} {pos:Pos} {ln:Nat}
abbrev yc (name qual:Str) (params:Arguments) (body:List Stmt) (scope:Scope) (clos:List (Str×Addr)) (c:Addr) (fd:FuncData):Prop:=∃ doc pm ctv,fd=W.fnX name qual params body scope clos .none .none doc pm none (.ref c) ctv
abbrev HS (qual:Str) (params:Arguments) (body:Expr) (scope:Scope) (clos:List (Str×Addr)) (c:Addr) (fd:FuncData):Prop:=∃ pm ctv,fd=W.kla_fn "<lambda>" qual params body scope clos pm (.ref c) ctv
theorem Qi {pins:List (Addr×Obj)} {σ:St} {H:Hp} {s:Shared} {ps:Array Value} (I:Inv X pins σ H s) (bm:Bm X.mg X.base) (hP:H P=some (.aU ps)):mainGlobals≠P/\s.heap.BuiltinsAt X.mg P:=by
 refine ⟨fun z=>?_,?_⟩
 ·obtain ⟨o,es,ep,e,_⟩:=I.mod.glob
  have:=(I.bs _ _ e).2;rw [z,hP] at this;cases this
 ·obtain ⟨b,ob,h1,h2,h3,h4,h5⟩:=bm
  refine ⟨b,ob,h1,h2,h3,fun z=>?_,(I.bs _ _ h4).1,h5⟩;have:=(I.bs _ _ h4).2;rw [z,hP] at this;cases this
theorem Ez {pins:List (Addr×Obj)} {σ:St} {H:Hp} {s:Shared} {Q:VK} (bm:Bm X.mg X.base) (C:W.CodeHd X.base c P) (hcode:X.env.code = .ref c) (hcl:closureFor scope X.env=pure clos) (I:Inv X pins σ H s) (h:tZ P pos qual (yc name qual params body scope clos) H Q) :
  wpAny (model X.prog X.w) X.A (makeFunction name qual params (.stmts body) scope X.env [] [] [] pos ln) (EP X pins σ Q) X.xe s:=by
 obtain ⟨ps,hP,ht,h⟩:=h;obtain ⟨hgP,hb⟩:=Qi I bm hP;have oV:s.heap.get? P=some (W.tabObj ps):=I.hok P _ hP;rcases h with ⟨hnf,h⟩ | ⟨c',hf,h⟩
 ·refine W.makeFunction_K (mg:=X.mg) hcl I.ok.glob (I.mod.glob.keeps I.bk) hcode (C.keeps I.bk) oV ht hnf hgP hb fun c' ctv doc h' tk hx hge hlt hrec htb=>?_
  refine ⟨.ref h'.objs.size,_,I.tY hP hx hge hlt hrec htb,rfl,h _ _ _ (I.hok.fresh (Nat.le_trans hge (Nat.le_of_lt hlt))) (I.hok.fresh hge) (Nat.ne_of_gt hlt) ⟨_,_,_,rfl⟩⟩
 ·refine W.makeFunction_hit (mg:=X.mg) hcl I.ok.glob (I.mod.glob.keeps I.bk) hcode (C.keeps I.bk) oV ht hf hb fun ctv doc h' tk hk hsz=>?_
  exact ⟨.ref h'.objs.size,_,I.laid (fun b o e=>Heap.get?_push_of_some _ (hk b o e)) hsz (Q1 (Heap.get?_push_size _ rfl)),rfl,h _ _ (I.hok.fresh hsz) ⟨_,_,_,rfl⟩⟩
theorem Yf0 {pins:List (Addr×Obj)} {σ:St} {H:Hp} {s:Shared} {Q:VK} (bm:Bm X.mg X.base) (C:W.CodeHd X.base c P) (hcode:X.env.code = .ref c) (hcl:closureFor scope X.env=pure clos) (I:Inv X pins σ H s) (h:tZ P pos qual (HS qual params eb scope clos) H Q) :
  wpAny (model X.prog X.w) X.A (makeFunction "<lambda>" qual params (.expr eb) scope X.env [] [] [] pos ln) (EP X pins σ Q) X.xe s:=by
 obtain ⟨ps,hP,ht,h⟩:=h;obtain ⟨hgP,hb⟩:=Qi I bm hP;have oV:s.heap.get? P=some (W.tabObj ps):=I.hok P _ hP;rcases h with ⟨hnf,h⟩ | ⟨c',hf,h⟩
 ·refine W.kla_makeFunction (mg:=X.mg) hcl I.ok.glob (I.mod.glob.keeps I.bk) hcode (C.keeps I.bk) oV ht hnf hgP hb fun c' ctv h' tk hx hge hlt hrec htb=>?_
  refine ⟨.ref h'.objs.size,_,I.tY hP hx hge hlt hrec htb,rfl,h _ _ _ (I.hok.fresh (Nat.le_trans hge (Nat.le_of_lt hlt))) (I.hok.fresh hge) (Nat.ne_of_gt hlt) ⟨_,_,rfl⟩⟩
 ·refine W.kla_makeFunctionHit (mg:=X.mg) hcl I.ok.glob (I.mod.glob.keeps I.bk) hcode (C.keeps I.bk) oV ht hf hb fun ctv h' tk hk hsz=>?_
  exact ⟨.ref h'.objs.size,_,I.laid (fun b o e=>Heap.get?_push_of_some _ (hk b o e)) hsz (Q1 (Heap.get?_push_size _ rfl)),rfl,h _ _ (I.hok.fresh hsz) ⟨_,_,rfl⟩⟩
def M4 (i:Nat) (P:Addr) (pos:Pos) (q:Str) (mk:Addr->FuncData->Prop):TS:=fun D σ H=>tZ P pos q mk H fun v H'=>D.nx (σ.set i (some v)) H'
theorem Yf1 (i:Nat) (bm:Bm X.mg X.base) (C:W.CodeHd X.base c P) (hcode:X.env.code = .ref c) (hcl:closureFor scope X.env=pure clos) (hN:X.N.Nodup) (hi:X.N[i]?=some name) (hx:Loc X.env.scope name) (hq:qualnameIn X.env name name=qual)
  (hd0:params.defaults=[]) (hk0:params.kw_defaults=[]) (ha:annTrees params none X.env=[]) (hf:X.fn name=true\/X.env.scope.names.lookup name=some .local) :
  PS X (.FunctionDef name params body [] none [] scope none name pos) (M4 i P pos qual (yc name qual params body scope clos)):=by
 intro pins s σ H D I h;refine W.nestDef_K hd0 hk0 ha ?_;rw [hq];refine aL (Ez bm C hcode hcl I h) fun v s1 ⟨x,H1,I1,r,q⟩=>?_
 exact V7 I1 hN hi hx r (fun s2 I2=>⟨_,H1,I2,q⟩) hf
def M5 (P:Addr) (pos:Pos) (q:Str) (mk:Addr->FuncData->Prop):TE:=fun _ H Q=>tZ P pos q mk H Q
theorem HW (bm:Bm X.mg X.base) (C:W.CodeHd X.base c P) (hcode:X.env.code = .ref c) (hcl:closureFor scope X.env=pure clos) (hq:X.env.qual++"<lambda>"=qual) (hdef:defaultsOf params X.env=([],[])) :
  PE X (.Lambda params eb scope pos) (M5 P pos qual (HS qual params eb scope clos)):=by
 intro pins s σ H Q I h;refine W.kla_eval hdef ?_;rw [hq];exact Yf0 bm C hcode hcl I h
end
def lay (H:Hp):YE->Hp
 | []=>H
 | p::l=>upd (lay H l) p.2.1 (Wz p.2.1 p.2.2)
theorem WP {H:Hp} {b:Addr}:∀ {l:YE},b∉l.as->lay H l b=H b
 | [],_=>rfl
 | p::l,h=>by
  have h1:b≠p.2.1:=fun z=>h (by rw [z];exact .head _)
  rw [lay,Yg h1];exact WP fun z=>h (.tail _ z)
theorem Q2 {H:Hp}:∀ {l:YE},l.as.Nodup->l.In (lay H l)
 | [],_=>fun p hp=>by cases hp
 | q::l,nd=>fun p hp=>by
  have nd':=List.nodup_cons.mp nd;rcases List.mem_cons.mp hp with rfl | hp
  ·exact Yc
  ·have hne:p.2.1≠q.2.1:=fun z=>nd'.1 (by
    have:p.2.1∈YE.as l:=List.mem_map_of_mem (f:=fun p:Str×Addr×V=>p.2.1) hp;rw [z] at this
    exact this)
   rw [lay,Yg hne];exact Q2 nd'.2 p hp
def XN (X:Cx) (σ:St) (l:YE):Prop:=l.as.Nodup/\∀ p∈l,∃ i:Nat,X.N[i]?=some p.1/\σ[i]?=some (some p.2.2)/\X.env.kindOf p.1=some .cell/\X.env.cells.lookup p.1=some p.2.1
theorem Qj {X:Cx} {pins:List (Addr×Obj)} {σ:St} {H:Hp} {s:Shared} (I:Inv X pins σ H s):∀ {l:YE},XN X σ l->bf X.prog X.w (lay H l) s.heap
 | [],_=>I.hok
 | p::l,h=>by
  have nd':=List.nodup_cons.mp h.1;have ih:=Qj I (l:=l) ⟨nd'.2,fun q hq=>h.2 q (.tail _ hq)⟩;obtain ⟨i,h1,h2,h3,h4⟩:=h.2 p (.head _);obtain ⟨m,hn,hl⟩:=I.loc;obtain ⟨u,r,lk⟩:=hl i p.1 p.2.2 h1 h2 (.inr (.inl h3));rcases lk with ⟨k,_⟩ | ⟨_,c,hc,hcell⟩
  ·rw [h3] at k;cases k
  ·rw [h4] at hc
   cases hc
   refine ih.track ?_ (Uf r hcell);rw [WP nd'.1];exact I.aV p.1 p.2.1 h4
def PR (X:Cx) (b:List Stmt) (t:(St->V->Hp->Prop)->St->Hp->Prop):Prop:=∀ (pins:List (Addr×Obj)) (s:Shared) (σ:St) (H:Hp) (R:St->V->Hp->Prop),Inv X pins σ H s->t R σ H ->
 wpAny (model X.prog X.w) X.A (execs b X.env) (fun fl s'=>∃ u,fl = .ret u/\∃ v σ' H',Inv X pins σ' H' s'/\YF v u/\R σ' v H') X.xe s
section
variable {X:Cx} {st:Stmt} {rest:List Stmt} {t:TS} {u:(St->V->Hp->Prop)->St->Hp->Prop} {e:Expr} {te:TE} {pos:Pos}
def M6 (te:TE):(St->V->Hp->Prop)->St->Hp->Prop:=fun R σ H=>te σ H fun v H'=>R σ v H'
theorem HX (he:PE X e te):PR X [.Return (some e) pos] (M6 te):=by
 intro pins s σ H R I h;refine wpAny_execs_cons (wpAny_Return_some (aL (he pins s σ H _ I h) fun v s1 ⟨x,H1,I1,r1,q1⟩=>⟨v,rfl,x,σ,H1,I1,r1,q1⟩))
def M7 (t:TS) (u:(St->V->Hp->Prop)->St->Hp->Prop):(St->V->Hp->Prop)->St->Hp->Prop:=fun R σ H=>t { nx:=u R,rt:=fun _ _=>False } σ H
theorem Yfu (h1:PS X st t) (h2:PR X rest u):PR X (st::rest) (M7 t u):=by
 intro pins s σ H R I h;refine wpAny_execs_cons (aL (h1 pins s σ H _ I h) fun f s1 q=>?_)
 cases f with
 | next =>
  obtain ⟨σ',H',I',q⟩:=q;exact h2 pins s1 σ' H' R I' q
 | ret v=>obtain ⟨_,_,_,_,_,q⟩:=q;exact q.elim
 | brk=>obtain ⟨_,_,_,q⟩:=q;exact q.elim
 | cont=>obtain ⟨_,_,_,q⟩:=q;exact q.elim
end
theorem eF.okC {P:Program} {w:World} {K:PySem.W.Frag} {mg:Str->Option Value} {base:Heap} {x qual:Str} {st:Stmt} {f:Addr} {fd:FuncData} {N ps:List Str} {k:Nat} {sp:Sp} (F:eF K x qual st f fd) (S:aH N ps (Yi st)) (len:∀ vs H Q E,sp vs H Q E->vs.length=ps.length)
  (hbody:∀ (cdv:Value) (A:Around) (outer:List Env) (s:Shared) (H:Hp) (vs:List V) (Q:VK) (E:XK),fd.code=cdv->aP k (A.deeper (envOfC qual (Yi st) s.heap.objs.size f cdv))->sp vs H Q E ->
   ∃ t,PR (WE cB P w K mg base N qual (Yi st) f cdv A outer s H E).cN (YY st) t /\
    t (fun σ v H'=>∃ l,XN (WE cB P w K mg base N qual (Yi st) f cdv A outer s H E).cN σ l/\((∀ c∈l.as,H' c=none)->Q v (lay H' l))) (XA N vs) H):aY P w K mg base cB (k+1) f fd ps sp:=by
 obtain ⟨oc,od,kV,doc,pm,an,cdv,ct,osl,rfl,lk,hcd⟩:=F.ex;refine ⟨len,fun A outer s H args us vs Q E hr e0 hb r hsp=>?_⟩;have hl:=len _ _ _ _ hsp;have KX:K.In s.heap:=e0.mod.eZ.keeps fun b o e=>(e0.bs b o e).1
 have lim:s.heap.NoLimit:=e0.mod.nolimit.keeps fun b o e=>(e0.bs b o e).1
 have hkind:∀ y∈ps.zip us,(Yi st).names.lookup y.1=some .local\/((Yi st).names.lookup y.1=some .cell/\((cellsFrom (s.heap.objs.size+1) (Yi st).names []).lookup y.1).isSome=true):=fun ⟨n,v⟩ hy=>by
  rcases S.par n (List.of_mem_zip hy).1 with q | q
  ·exact .inl q
  ·exact .inr ⟨q,PySem.W.cellsFrom_some _ _ _ (.inl q)⟩
 refine codeAny_call_function hr.depth (KX _ _ lk) rfl S.co S.gen rfl (PySem.W.codeRec_of KX hcd) (hb _ _ _ _ ?_);refine wpAny_newFunctionEnv_cells S.kind hkind fun env he s1 xx=>?_
 subst he;refine ⟨lim.keeps xx.toInCall.keep,codeAny_func ?_⟩;obtain ⟨t,ht,hq⟩:=hbody cdv A outer s H vs Q E rfl (hr.deeper _) hsp;have I:Inv (WE cB P w K mg base N qual (Yi st) f cdv A outer s H E).cN [] (XA N vs) H s1:=(Qb (CX:=cB) (E:=E) S hr.hd e0 hl r xx).wish _;refine wpAny_mono (ht [] s1 (XA N vs) H _ I hq) (fun fl s' hs=>?_) fun e s' hs=>hs.elim
 obtain ⟨u,rfl,v,σ',H',J,rv,l,hc,q⟩:=hs;have un:=J.base;have hab:∀ b∈l.as,s.heap.objs.size<=b:=fun b hb=>by
  obtain ⟨p,hp,rfl⟩:=Xk hb;obtain ⟨i,h1,h2,h3,h4⟩:=hc.2 p hp;exact J.ok.cab p.1 p.2.1 rfl h4
 have hno:∀ b∈l.as,H' b=none:=fun b hb=>by
  obtain ⟨p,hp,rfl⟩:=Xk hb;obtain ⟨i,h1,h2,h3,h4⟩:=hc.2 p hp;exact J.aV p.1 p.2.1 h4
 have keep:∀ {b:Addr} {o:HO},H' b=some o->lay H' l b=some o:=fun {b o} e=>by
  rw [WP fun hb=>?_]
  ·exact e
  ·rw [hno b hb] at e;cases e
 refine ⟨v,lay H' l,J.os,J.bare,⟨un.keep,un.slot,fun b o e n hx=>?_,un.there,fun b xs e=>keep (un.tups b xs e),fun b o u e=>keep (un.bF b o u e),fun b qs e=>?_⟩,Qj J hc,rv,q hno⟩
 ·rw [WP fun hb=>?_]
  ·exact un.free b o e n hx
  ·have h1:=hab b hb
   have h2:=Heap.lt_size (show s.heap.get? b=some o from e);exact absurd (Nat.lt_of_lt_of_le h2 h1) (Nat.lt_irrefl _)
 ·obtain ⟨more,e'⟩:=un.bR b qs e
  exact ⟨more,keep e'⟩
def Yf2 (g:Gx) (k i:Nat) (t:TA):TE:=fun σ H Q=>∃ f fd ps sp,σ[i]?=some (some (.ref f))/\aY g.P g.w g.K g.mg g.base cB k f fd ps sp/\(∀ us:List Value,us.length=ps.length->bindArgs fd ⟨us,[]⟩=pure (ps.zip us))/\H f=some (bZ f fd)/\t σ H fun vs H1=>H1 f=some (bZ f fd)/\sp vs H1 Q E0
section
variable {X:Cx} {g:Gx} {k j i:Nat} {x:Str} {p pos:Pos} {e:Expr} {es:List Expr} {t:TA}
theorem HY {pins:List (Addr×Obj)} {σ:St} {H:Hp} {s:Shared} {f:Addr} {fd:FuncData} (I:Inv X pins σ H s) (h:H f=some (bZ f fd)):W.FnAt f s.heap:=⟨_,_,_,_,(I.hok _ _ h).1⟩
theorem Wu (i:Nat) (hr:aP k X.A) (ha:PA X (e::es) t) (hj:j<=k) (hX:X.gx=g) (hN:X.N[i]?=some x) (hv:lU X.env.scope x) (hdb:(x==("__debug__":Str))=false)
  (hcd:(x==("__classdict__":Str))=false) (he:starEach (e::es) X.env=(false,eval e X.env)::starEach es X.env) (hpl:(backTo pos (starEach es X.env)).any (·.1)=false):PE X (.Call (.Name x p) (e::es) [] pos) (Yf2 g j i t):=by
 subst hX;intro pins s σ H Q I h;obtain ⟨f,fd,ps,sp,hσ,F,b,hf,ht⟩:=h;refine wpAny_Call_Name_kw (aL (Uj hN hv hdb hcd pins s σ H (fun v H1=>v = .ref f/\H1 f=some (bZ f fd)/\t σ H1 fun vs H1=>H1 f=some (bZ f fd)/\sp vs H1 Q E0) I (VO hσ ⟨rfl,hf,ht⟩)) fun u s1 ⟨v,H1,I1,r,e,hf1,ht⟩=>?_);subst e;obtain rfl:u=Value.ref f:=r;refine PySem.W.callWith_F (HY I1 hf1) (aL (ha pos pins s1 σ H1 _ I1 ht) fun us s2 ⟨vs,H2,I2,r2,hf2,q⟩=>⟨HY I2 hf2,?_⟩) he hpl;exact WC F (hr.mono hj) (.all b) .nil WI I2 r2 (by rw [List.append_nil];exact q)
end
abbrev yd:=List (Str×Addr×Addr)
theorem Ydd {P:Program} {w:World} {K:PySem.W.Frag} {mg mb:Str->Option Value} {CX:dH} {k:Nat} {fa a:Addr} {fd:FuncData} {x:Str} {sp:Sp} {s₁:Shared} {vs:List Value} {ns:List Int} (tabs:yd)
  (KX:K.In s₁.heap) (hns:s₁.heap.Ns mainGlobals mg) (hb:s₁.heap.Ns builtinsNs mb) (hbb:∀ x:Str,x≠"__name__"->mb x=bootBuiltins x) (hlim:s₁.heap.NoLimit) (hg:s₁.gens=#[])
  (ha:s₁.heap.get? a=some { cls := .type "list",data := .seq vs.toArray }) (hi:IntsAre vs ns) (hl:ns.length<=sizeLine) (hr:aP k callerA)
  (hT:∀ q∈tabs,PySem.W.CodeHd s₁.heap q.2.1 q.2.2/\s₁.heap.get? q.2.2=some (PySem.W.tabObj #[])) (hK:∀ q∈tabs,K.lookup q.2.2=none)
  (bmn:∃ bm ob,mg "__builtins__"=some (.ref bm)/\bm≠builtinsNs/\s₁.heap.get? bm=some ob/\ob.cls = .type "module"/\ob.dict=some builtinsNs/\ob.data = .plain)
  (F:∀ base:Heap,K.In base->base.Ns mainGlobals mg->Bm mg base->(∀ q∈tabs,PySem.W.CodeHd base q.2.1 q.2.2)->aY P w K mg base CX k fa fd [x] sp) (hbind:∀ (s:Shared) (u:Value),BindsTo s fd ⟨[u],[]⟩ [(x,u)])
  (hsp:∀ H:Hp,(∀ q∈tabs,H q.2.2=some (.aU #[]))->aG K H a (ns.map V.int)->sp [.ref a] H (fun v _=>v = .bl true) fun _ _ _=>False)
  (hCX:∀ H e s',CX [] H s₁ (fun _ _ _=>False) e s'->False) :
  codeAny (model P w) callerA (.call (.ref fa) ⟨[.ref a],[]⟩) (fun r s'=>r = .ok (.ret (.bool true))/\OldK s₁.heap s'.heap/\s'.os=s₁.os/\AllBare s'.gens) s₁:=by
 have rv:=Qf hi;have lenV:=hi.length;have tobj:∀ b∈tabs.map (·.2.2),s₁.heap.get? b=some (PySem.W.tabObj #[]):=fun b hb=>by
  obtain ⟨q,hq,rfl⟩:=List.mem_map.mp hb;exact (hT q hq).2
 have aT:a∉tabs.map (·.2.2):=fun hb=>by
  have:=tobj a hb;rw [ha] at this
  cases this
 have core:∀ H:Hp,(∀ b,H b=none\/(∃ o xs,H b=some (.bH o (.lst xs)))\/(b∈tabs.map (·.2.2)/\H b=some (.aU #[])))->aG K H a (ns.map V.int)->bf P w H s₁.heap->(∀ b,H b≠none->b=a\/b∈tabs.map (·.2.2))->(H a≠none->K.lookup a=none)->(∀ q∈tabs,H q.2.2=some (.aU #[])) ->
   codeAny (model P w) callerA (.call (.ref fa) ⟨[.ref a],[]⟩) (fun r s'=>r = .ok (.ret (.bool true))/\OldK s₁.heap s'.heap/\s'.os=s₁.os/\AllBare s'.gens) s₁:=by
  intro H hO hS hok hA hKa hTb;have fV:∀ {b:Addr} {o:Obj},s₁.heap.get? b=some o->H b=none->(WQ s₁.heap H).get? b=some o:=fun e n=>N5 e n
  have Ia:∀ {b:Addr} {o:Obj},s₁.heap.get? b=some o->o.cls ≠ .type "list"->o≠PySem.W.tabObj #[]->H b=none:=fun {b o} e d1 d2=>by
   cases q:H b with
   | none=>rfl
   | some u =>
    rcases hA b (by rw [q];simp) with e' | e'
    ·subst e'
     rw [ha] at e;cases e
     exact absurd rfl d1
    ·rw [tobj b e'] at e
     exact absurd (Option.some.inj e).symm d2
  have gM:∀ {b:Addr} {o:Obj} {es:Array DictEntry} {ep:Nat},s₁.heap.get? b=some o->o.data = .dict es ep->H b=none:=fun {b o es ep} e d=>by
   cases q:H b with
   | none=>rfl
   | some u =>
    rcases hA b (by rw [q];simp) with e' | e'
    ·subst e'
     rw [ha] at e;cases e
     have d':Data.seq vs.toArray _=Data.dict es ep:=d
     cases d'
    ·rw [tobj b e'] at e
     cases e
     have d':Data.fields #[]=Data.dict es ep:=d
     cases d'
  have uc:∀ {b:Addr} {m:Str->Option Value},s₁.heap.Ns b m->(WQ s₁.heap H).Ns b m:=fun {b m} ⟨o,es,ep,e,d,r⟩=>⟨o,es,ep,fV e (gM e d),d,r⟩
  have Ib:K.In (WQ s₁.heap H):=fun b o e=>fV (KX b o e) (by
   cases q:H b with
   | none=>rfl
   | some u =>
    rcases hA b (by rw [q];simp) with e' | e'
    ·subst e'
     rw [hKa (by rw [q];simp)] at e;cases e
    ·obtain ⟨z,hz,rfl⟩:=List.mem_map.mp e'
     rw [hK z hz] at e;cases e)
  have hM:Mod K mg (WQ s₁.heap H):=⟨Ib,uc hns,⟨mb,uc hb,hbb⟩,let ⟨mc,h1,h2⟩:=hlim;⟨mc,uc h1,h2⟩⟩;have e0:dB P w K mg (WQ s₁.heap H) callerA [] s₁ H:=⟨rfl,hM,fun b o e=>N6 e,Nat.le_of_eq (NZ _ _),trivial,fun b hb=>absurd (show b∈([]:List Addr) from hb) (by simp),hok,.of_eq hg⟩;have hBm:Bm mg (WQ s₁.heap H):=by
   obtain ⟨bm,ob,b1,b2,b3,b4,b5,b6⟩:=bmn;refine ⟨bm,ob,b1,b2,fun z=>?_,fV b3 (Ia b3 (by rw [b4];decide) fun z=>by rw [z] at b4;cases b4),b4,b5,b6⟩;obtain ⟨o,es,ep,e,d,_⟩:=hns;rw [z,e] at b3;cases b3
   rw [d] at b6;cases b6
  have hCd:∀ q∈tabs,PySem.W.CodeHd (WQ s₁.heap H) q.2.1 q.2.2:=fun q hq=>by
   obtain ⟨o,vs',file,tf,flags,tg,inF,text,tt,e1,e2,r⟩:=(hT q hq).1;exact ⟨o,vs',file,tf,flags,tg,inF,text,tt,fV e1 (Ia e1 (by rw [e2];decide) fun z=>by rw [z] at e2;cases e2),e2,r⟩
  refine codeAny_mono ((F _ Ib (uc hns) hBm hCd).run callerA [] s₁ H ⟨[.ref a],[]⟩ [.ref a] [.ref a] _ _ hr e0 (hbind s₁ (.ref a)) (.cons rfl .nil) (hsp H hTb hS)) fun r s' h=>?_
  cases r with
  | error e=>exact (hCX H e s' h).elim
  | ok fl =>
   cases fl with
   | next=>exact False.elim h
   | brk=>exact False.elim h
   | cont=>exact False.elim h
   | ret u =>
    obtain ⟨v,H',os,bare,un,hok',r',q⟩:=h;have q':v = .bl true:=q;subst q';obtain rfl:u=Value.bool true:=r';have each:∀ b o,s₁.heap.get? b=some o->s'.heap.get? b=some o\/((∃ z∈tabs,z.2.2=b)/\o=PySem.W.tabObj #[]/\∃ ps,s'.heap.get? b=some (PySem.W.tabObj ps)):=fun b o e=>by
     rcases hO b with q | ⟨ob,xs,z⟩ | ⟨z1,z2⟩
     ·exact .inl (un.keep b o e q (by intro z;exact absurd (show b∈([]:List Addr) from z) (by simp)) (by simp))
     ·have z2:=un.bF b ob _ z
      obtain ⟨e1,_⟩:=hok b _ z;obtain ⟨e2,_⟩:=hok' b _ z2;rw [e] at e1;cases e1
      exact .inl e2
     ·obtain ⟨q,hq,e3⟩:=List.mem_map.mp z1
      obtain ⟨more,e4⟩:=un.bR b _ z2;have e5:s'.heap.get? b=some (PySem.W.tabObj (#[]++more)):=hok' b _ e4;rw [tobj b z1] at e
      exact .inr ⟨⟨q,hq,e3⟩,(Option.some.inj e).symm,_,e5⟩
    refine ⟨rfl,⟨fun b o e=>?_,fun b o e=>?_⟩,os,bare⟩
    ·rcases each b o e with h | ⟨⟨z,hz,rfl⟩,rfl,ps,h⟩
     ·exact .inl h
     ·exact .inr (.inl ⟨((hT z hz).1.tab (hT z hz).2).isCodeTable,rfl,#[],ps,rfl,by rw [Array.empty_append];exact h⟩)
    ·rcases each b o e with h | ⟨_,_,ps,h⟩
     ·exact ⟨o,h⟩
     ·exact ⟨_,h⟩
 have yg:∀ q∈tabs,q.2.2∈tabs.map (·.2.2):=fun q hq=>List.mem_map_of_mem hq
 have yh:∀ {H:Hp} {b:Addr},b∈tabs.map (·.2.2)->YZ P w H s₁.heap b (.aU #[]):=fun hb=>tobj _ hb
 cases hk:K.lookup a with
 | some o =>
  have e:=KX a o hk;rw [ha] at e
  cases e
  refine core (fun b=>if b∈tabs.map (·.2.2) then some (.aU #[]) else none) (fun b=>?_) (.inr ⟨_,vs.toArray,_,hk,rfl,rfl,rfl,by rw [List.size_toArray,lenV];exact hl,by simpa using rv⟩) (fun b u z=>?_) (fun b z=>?_) (fun z=>absurd (if_neg aT) z) fun q hq=>if_pos (yg q hq)
  ·by_cases hb:b∈tabs.map (·.2.2)
   ·exact .inr (.inr ⟨hb,if_pos hb⟩)
   ·exact .inl (if_neg hb)
  ·by_cases hb:b∈tabs.map (·.2.2)
   ·have z':=(if_pos hb).symm.trans z
    cases z'
    exact yh hb
   ·have z':=(if_neg hb).symm.trans z
    cases z'
  ·by_cases hb:b∈tabs.map (·.2.2)
   ·exact .inr hb
   ·exact absurd (if_neg hb) z
 | none =>
  refine core (fun b=>if b∈tabs.map (·.2.2) then some (.aU #[]) else if b=a then some (.bH { cls := .type "list",data := .seq vs.toArray } (.lst (ns.map V.int))) else none) (fun b=>?_) (.inl (.inr ⟨{ cls := .type "list",data := .seq vs.toArray },(if_neg aT).trans (if_pos rfl)⟩)) (fun b u z=>?_) (fun b z=>?_) (fun _=>hk) fun q hq=>if_pos (yg q hq)
  ·by_cases hb:b∈tabs.map (·.2.2)
   ·exact .inr (.inr ⟨hb,if_pos hb⟩)
   ·by_cases hb2:b=a
    ·exact .inr (.inl ⟨_,_,(if_neg hb).trans (if_pos hb2)⟩)
    ·exact .inl ((if_neg hb).trans (if_neg hb2))
  ·by_cases hb:b∈tabs.map (·.2.2)
   ·have z':=(if_pos hb).symm.trans z
    cases z'
    exact yh hb
   ·have z1:=(if_neg hb).symm.trans z
    by_cases hb2:b=a
    ·have z':=(if_pos hb2).symm.trans z1
     cases z'
     subst hb2;exact ⟨ha,by rw [List.length_map];exact hl,vs,_,rv,ha⟩
    ·have z':=(if_neg hb2).symm.trans z1
     cases z'
  ·by_cases hb:b∈tabs.map (·.2.2)
   ·exact .inr hb
   ·by_cases hb2:b=a
    ·exact .inl hb2
    ·exact absurd ((if_neg hb).trans (if_neg hb2)) z
def VV (K:W.Frag) (tabs:yd):Sp:=fun vs H Q _=>∃ (a:Addr) (ns:List Int),vs=[.ref a]/\aG K H a (ns.map V.int)/\ns.length<=63/\(∀ q∈tabs,H q.2.2=some (.aU #[]))/\∀ H',Q (.bl true) H'
theorem Yd6 {l:PySem.W.OpenLaw} {q:Program} {loose:List Str} {XP:(Str->Option Value)->Heap->Prop} {YP:World->Heap->Prop} {d:DefRec} {K:Params->PySem.W.Frag} (tabs:yd) (k:Nat) (x:Str) (st:Stmt) (N:List Str) (hn:l.most=some 63) (hdf:d.params.defaults=[]) (hk:aP (k+1) callerA) (S:aH N [x] (Yi st))
  (hY:∀ (w:World) (h:Heap),YP w h->(K w.params).In h)
  (hrec:∀ p∈tabs,∃ d',(recsOf q).find? (fun e=>e.name==p.1)=some d')
  (htab:∀ (w:World),∀ p∈tabs,PySem.W.tabIn (K w.params) p.1=some p.2)
  (hno:∀ (w:World),∀ p∈tabs,(K w.params).lookup p.2.2=none)
  (F:∀ (w:World) (mg:Str->Option Value) (h:Heap),(K w.params).In h->h.Ns mainGlobals mg->GZ (K w.params) mg st x d.name/\∀ base,Bm mg base->(∀ p∈tabs,PySem.W.CodeHd base p.2.1 p.2.2)->Uc (Gx.mk l.prog w (K w.params) mg base) k N d.name st (VV (K w.params) tabs)) :
  PySem.W.WalkO q loose XP YP l.row.toRowW d [] (fun f vs=>PySem.call f vs):=by
 refine GC.lG hn hdf fun w s₀ s₁ mg mb fa o pm cd doc a vs ns G Y ho hd hcd hmg hobj hints hlen hg=>?_
 have KX:=hY w _ Y;obtain ⟨⟨f,fd,Fu,hb,hm⟩,B⟩:=F w mg _ KX G.T.g;have e:=hmg.symm.trans hm
 cases e
 refine Ydd (CX:=cB) (sp:=VV (K w.params) tabs) tabs KX G.T.g G.T.b G.T.builtins G.T.nolimit hg hobj hints (Nat.le_trans hlen (by decide)) hk (fun p hp=>?_) (hno w) G.T.bmain
  (fun base _ _ hB hC=>Fu.ok S (fun vs H Q E h=>by obtain ⟨a,ns,rfl,_⟩:=h;rfl) fun cdv A outer s H vs Q E hr h=>B base hB hC fa cdv A outer s H vs Q E hr h) hb (fun H hT hS=>⟨a,ns,rfl,hS,hlen,hT,fun _=>rfl⟩) fun H e s' z=>z
 obtain ⟨d',hd'⟩:=hrec p hp;exact PySem.W.tab_of G.T KX hd' (htab w p hp)
def yj (s:Stmt) (j:Nat):Stmt:=(YY s).getD j (.Pass ⟨0,0,0,0⟩)
def Gx.dI (g:Gx) (x qual:Str) (st:Stmt) (ps:List Str) (c:Addr):Prop:=∃ f fd,eF g.K x qual st f fd/\Xn g.K fd ps []/\g.mg x=some (.ref f)/\fd.code = .ref c
theorem Gx.dI.Ie {g:Gx} {k:Nat} {x qual:Str} {st:Stmt} {N ps:List Str} {c:Addr} {sp:Sp} (R:g.dI x qual st ps c) (S:aH N ps (Yi st)) (len:∀ vs H Q E,sp vs H Q E->vs.length=ps.length)
  (b:∀ (f:Addr) (A:Around) (outer:List Env) (s:Shared) (H:Hp) (vs:List V) (Q:VK) (E:XK),aP k (g.cx N qual st f (.ref c) A outer s H E).A->sp vs H Q E ->
   ∃ t,PR (g.cx N qual st f (.ref c) A outer s H E) (YY st) t/\t (fun σ v H'=>∃ l,XN (g.cx N qual st f (.ref c) A outer s H E) σ l/\((∀ c∈l.as,H' c=none)->Q v (lay H' l))) (XA N vs) H):g.Fn (k+1) x ps sp:=by
 obtain ⟨f,fd,F,bd,hm,hc⟩:=R;refine ⟨f,fd,F.okC S len fun cdv A outer s H vs Q E e hr h=>?_,bd,F.kp,hm⟩;have e':cdv = .ref c:=e.symm.trans hc;subst e';exact b f A outer s H vs Q E hr h
theorem U0 {K:PySem.W.Frag} {h:Heap} {mg:Str->Option Value} {f:Addr} {x:Str} {st:Stmt} {c:Addr} {oc kV dc pm cd ct:Value} {od an:Option Addr} {sl:Array (Option Value)} (X:K.In h) (G:h.Ns mainGlobals mg) (ps:List Str)
  (a:PySem.W.nsIn K mainGlobals x=some (some (.ref f))) (l:K.lookup f=some ⟨oc,od,.func (PySem.W.fnOf x x (Xf st) (YY st) (Yi st) .none kV dc pm an cd ct),sl⟩) (cc:PySem.W.codeIn K cd x=true) (k:PySem.W.keepIn K (.ref f)=true) (e:cd = .ref c)
  (b:∀ (kV doc pm:Value) (an:Option Addr) (cdv ct:Value) (us:List Value),us.length=ps.length->bindArgs (PySem.W.fnOf x x (Xf st) (YY st) (Yi st) .none kV doc pm an cdv ct) ⟨us,[]⟩=pure (ps.zip us)) :
  ∀ P w base,(Gx.mk P w K mg base).dI x x st ps c:=fun P w base =>
 have F:=Vb (st:=st) l cc k
 ⟨f,_,F,F.binds b,PySem.W.mg_of X G a,e⟩
end L2
namespace HT
open PySem PySem.Spec PyProof.Rows
variable {prog:Program} {w:World} {A:Around} {E:Value->Shared->Prop} {s:Shared}
end HT
namespace L2
open PySem PySem.Spec PyProof.Rows
def M8 (s:Stmt):Expr:=match s with
 | .Return (some e) _=>e
 | _ => .Constant .none 0 ⟨0,0,0,0⟩
def Ig (e:Expr):Arguments:=match e with
 | .Lambda a _ _ _=>a
 | _=>{ posonlyargs:=[],args:=[],vararg:=none,kwonlyargs:=[],kw_defaults:=[],kwarg:=none,defaults:=[] }
def Ih (e:Expr):Expr:=match e with
 | .Lambda _ b _ _=>b
 | e=>e
def Vn (e:Expr):Scope:=match e with
 | .Lambda _ _ sc _=>sc
 | _=>{ kind := .function,names:=[],isGenerator:=false,isCoroutine:=false }
theorem Yf3 {P:Program} {w:World} {K:W.Frag} {mg:Str->Option Value} {base:Heap} {k:Nat} {f c:Addr} {qual:Str} {params:Arguments} {body:Expr} {scope:Scope} {pm ctv:Value} {N ps:List Str} {l:YE} {sp:List V->Hp->VK->Prop}
  (S:cJ N ps (l.map (·.1)) scope) (hnd:l.as.Nodup) (len:∀ vs H Q,sp vs H Q->vs.length=ps.length)
  (hbody:∀ (A:Around) (outer:List Env) (s:Shared) (H:Hp) (vs:List V) (Q:VK),aP k (A.deeper (W.envX qual scope s.heap.objs.size f (.ref c) l.cl))->sp vs H Q ->
   ∃ t,PE (VE P w K mg base N qual scope f (.ref c) l.cl A outer s H) body t/\t (WU N vs l.vs) H Q) :
  aY P w K mg base cB (k+1) f (W.kla_fn "<lambda>" qual params body scope l.cl pm (.ref c) ctv) ps
   (fun vs H Q _=>VF H f c (W.kla_fn "<lambda>" qual params body scope l.cl pm (.ref c) ctv) qual l/\sp vs (off H l.as) fun v H'=>(∀ c∈l.as,H' c=none)->Q v (on H' H l.as)):=by
 refine ⟨fun vs H Q E h=>len _ _ _ h.2,fun A outer s H args us vs Q E hr e0 hb r hsp=>?_⟩;obtain ⟨⟨hf,hc,hin⟩,hsp⟩:=hsp;have hl:=len _ _ _ hsp;have lim:s.heap.NoLimit:=e0.mod.nolimit.keeps fun b o e=>(e0.bs b o e).1
 have hfo:=(e0.hok _ _ hf).1;have hco:s.heap.CodeRec (.ref c) qual:=(e0.hok _ _ hc).1;refine W.kla_callFunE hr.depth hfo rfl S.co S.gen rfl hco (hb _ _ _ _ ?_);refine wpAny_newFunctionEnv S.ig (fun y hy=>S.par y.1 (List.of_mem_zip hy).1) (fun h₁ hns hsb=>?_) S.kind;have hk₁:∀ b o,s.heap.get? b=some o->h₁.get? b=some o:=fun b o e=>hsb.extBut b o (Nat.ne_of_lt (Heap.lt_size e)) (Heap.get?_push_of_some _ e)
 refine ⟨lim.keeps hk₁,W.kla_codeExpr ?_⟩;obtain ⟨t,ht,hq⟩:=hbody A outer s (off H l.as) vs _ (hr.deeper _) hsp;have I:=UB (cd := .ref c) (qual:=qual) (f:=f) (tk:=s.toks+(ps.zip us).length) S hnd hr.hd e0 hl r hin hns hk₁;have lk:=VD (l:=l) (by rw [<- S.suf];exact S.nd.sublist (List.drop_sublist _ _));refine wpAny_mono (ht [] _ _ _ _ I hq) (fun u s' hs=>?_) fun e s' hs=>hs.elim
 obtain ⟨v,H',J,rv,q⟩:=hs;exact xZ e0 hin J lk rv q
section
variable {src:List (Option Nat)} {te:TE} {σ:St} {H:Hp} {Q:VK}
theorem Yde {K:W.Frag} {tl:TE} {xs:List V} {b:Addr} (I:Addr->Nat->List V->Hp->Prop) (ha:∀ R:V->Hp->Prop,R (.ref b) H->tl σ H R) (hS:aG K H b xs) (hlen:xs.length<=100000)
  (i0:∀ D,H D=none->I D 0 [] (upd H D (.lst []))) (dl:∀ D i zs H',H D=none->I D i zs H'->zs.length=i/\H' D=some (.lst zs)/\aG K H' b xs)
  (step:∀ D (i:Nat) x zs H',H D=none->xs[i]?=some x->I D i zs H'->∀ R:VK,(∀ y aO,aO D=some (.lst zs)->I D (i+1) (zs++[y]) (upd aO D (.lst (zs++[y])))->R y aO)->te (some x::YN src σ) H' R)
  (fin:∀ D zs H',H D=none->I D xs.length zs H'->Q (.ref D) H'):fj (none::src) (WG K tl) (YT 0) X9 te σ H Q:=by
 refine ha _ ⟨b,rfl,⟨xs,hS⟩,fun D hD=>?_⟩;have h6:100000<sizeLine:=by decide
 refine Uu Wo (fun i zs σ' H'=>(∃ o,σ'=o::YN src σ)/\i<=xs.length/\I D i zs H') ⟨⟨none,rfl⟩,Nat.zero_le _,i0 D hD⟩ (fun i zs σ' H' q=>⟨(dl _ _ _ _ hD q.2.2).2.2,(dl _ _ _ _ hD q.2.2).2.1⟩) (Wp 0) ?_ ?_
 ·rintro i zs σ' H' x hx ⟨⟨o,rfl⟩,_,hI⟩
  have hi:i<xs.length:=(List.getElem?_eq_some_iff.mp hx).1;have hl:=(dl _ _ _ _ hD hI).1
  show te (some x::YN src σ) H' _
  exact step D i x zs H' hD hx hI _ fun y aO hd hI'=>⟨hd,by omega,⟨_,rfl⟩,hi,hI'⟩
 ·rintro zs σ' H' ⟨_,_,hI⟩
  exact fin D zs H' hD hI
theorem YbZ {ta:TA} {n:Nat} (f:Nat->V) (ha:∀ R:List V->Hp->Prop,(∀ H1,Yf H H1->R [.int n] H1)->ta σ H R) (hlen:n<=100000)
  (step:∀ (i:Nat) H',i<n->Yf H H'->∀ R:VK,(∀ aO,Yf H' aO->R (f i) aO)->te (some (.int i)::YN src σ) H' R)
  (fin:∀ D H',H D=none->Yf H H'->H' D=some (.lst ((List.range n).map f))->Q (.ref D) H'):fj (none::src) (Qz ta) (YT 0) X9 te σ H Q:=by
 refine ha _ fun H1 s1=>⟨n,rfl,by omega,by omega,fun D hD=>?_⟩
 refine G9 (V5 (lo:=0) (n:=n) (P:=fun _=>True)) ((List.range n).map f) (fun _ _=>trivial) hD (by simp) (by simpa using hlen) (fun i x y H' hx hy sm R r=>?_) fun H' sm hd=>fin D H' (s1.free hD) (s1.trans sm) hd
 have hi:i<n:=by have:=(List.getElem?_eq_some_iff.mp hx).1;simpa using this
 rw [List.getElem?_map,List.getElem?_range hi] at hx hy
 have e:V.int (0+(i:Int))=x:=Option.some.inj hx;rw [Int.zero_add] at e
 have e2:f i=y:=Option.some.inj hy;subst e e2;exact step i H' hi (s1.trans sm) R r
end
mutual
inductive RK (h:Heap):Value->PyData->Prop
 | int (i:Int) (t:Tok):RK h (.int i t) (.int i)
 | str (x:Str) (t:Tok) (hx:PyData.strOk x=true):RK h (.str x t) (.str x)
 | tup {a:Addr} {o:Obj} {vs:Array Value} {n:Nat} {ds:List PyData}:h.get? a=some o->o.cls = .type "tuple"->o.data = .seq vs n->dg h vs.toList ds->RK h (.ref a) (.tuple ds)
inductive dg (h:Heap):List Value->List PyData->Prop
 | nil:dg h [] []
 | cons {v:Value} {d:PyData} {vs:List Value} {ds:List PyData}:RK h v d->dg h vs ds->dg h (v::vs) (d::ds)
end
mutual
inductive KO:PyData->Prop
 | int (i:Int):KO (.int i)
 | str (x:Str):KO (.str x)
 | tup {ds:List PyData}:gn ds->KO (.tuple ds)
inductive gn:List PyData->Prop
 | nil:gn []
 | cons {d:PyData} {ds:List PyData}:KO d->gn ds->gn (d::ds)
end
mutual
theorem RK.ko {h:Heap}:∀ {v:Value} {d:PyData},RK h v d->KO d
 | _,_,.int i t => .int i
 | _,_,.str x t _ => .str x
 | _,_,.tup _ _ _ hs => .tup hs.ko
theorem dg.ko {h:Heap}:∀ {vs:List Value} {ds:List PyData},dg h vs ds->gn ds
 | _,_,.nil => .nil
 | _,_,.cons a b => .cons a.ko b.ko
end
mutual
theorem RK.reads {h:Heap}:∀ {v:Value} {d:PyData},RK h v d->(∃ as,Reads h v d as)/\d.canLay0=true
 | _,_,.int i t=>⟨⟨_,.int i t⟩,rfl⟩
 | _,_,.str x t hx=>⟨⟨_,.str x t⟩,by simpa [PyData.canLay0] using hx⟩
 | _,_,.tup h1 h2 h3 hs=>by
  obtain ⟨⟨as,r⟩,l⟩:=hs.reads;exact ⟨⟨_,.tuple h1 h2 h3 r⟩,by rw [PyData.canLay0];exact l⟩
theorem dg.reads {h:Heap}:∀ {vs:List Value} {ds:List PyData},dg h vs ds->(∃ as,ReadsAll h vs ds as)/\PyData.canLayAll0 ds=true
 | _,_,.nil=>⟨⟨_,.nil⟩,rfl⟩
 | _,_,.cons a b=>by
  obtain ⟨⟨as,r⟩,l⟩:=a.reads;obtain ⟨⟨bs,r'⟩,l'⟩:=b.reads;exact ⟨⟨_,.cons r r'⟩,by rw [PyData.canLayAll0,l,l'];rfl⟩
end
theorem RK.of {h:Heap} {d:PyData} {v:Value} {as:List Addr} (k:KO d) (r:Reads h v d as) (l:d.canLay0=true):RK h v d:=by
 induction k using KO.rec (motive_2:=fun ds _=>∀ {vs:List Value} {as:List Addr},ReadsAll h vs ds as->PyData.canLayAll0 ds=true->dg h vs ds) generalizing v as with
 | int i=>cases r with | int _ t=>exact .int i t
 | str x=>cases r with | str _ t=>exact .str x t (by simpa [PyData.canLay0] using l)
 | tup _ ih=>cases r with | tuple h1 h2 h3 hs=>exact .tup h1 h2 h3 (ih hs (by rw [PyData.canLay0] at l;exact l))
 | nil=>rename_i r l;cases r;exact .nil
 | cons _ _ ih ihs =>
  rename_i r l;rw [PyData.canLayAll0,Bool.and_eq_true] at l
  cases r with | cons r rs=>exact .cons (ih r l.1) (ihs rs l.2)
theorem RK.inj {h:Heap} {d:PyData} {v:Value} {e:PyData} (a:RK h v d) (b:RK h v e):d=e:=by
 obtain ⟨⟨_,r⟩,l⟩:=a.reads;obtain ⟨⟨_,r'⟩,_⟩:=b.reads;exact (r.unique _ _ r').1
mutual
theorem RK.keeps {h h':Heap} {x:Addr} {o:Obj} {es:Array DictEntry} {ep:Nat} (ho:h.get? x=some o) (hd:o.data = .dict es ep) (hs:Heap.SameBut x h h'):∀ {v:Value} {d:PyData},RK h v d->RK h' v d
 | _,_,.int i t => .int i t
 | _,_,.str y t hy => .str y t hy
 | _,_,.tup (a:=a) h1 h2 h3 ks=>by
  have hne:a≠x:=by
   rintro rfl;rw [ho] at h1
   cases h1
   rw [hd] at h3
   exact nomatch h3
  exact .tup ((hs.2 a hne).trans h1) h2 h3 (dg.keeps ho hd hs ks)
theorem dg.keeps {h h':Heap} {x:Addr} {o:Obj} {es:Array DictEntry} {ep:Nat} (ho:h.get? x=some o) (hd:o.data = .dict es ep) (hs:Heap.SameBut x h h'):∀ {vs:List Value} {ds:List PyData},dg h vs ds->dg h' vs ds
 | _,_,.nil => .nil
 | _,_,.cons a b => .cons (RK.keeps ho hd hs a) (dg.keeps ho hd hs b)
end
noncomputable instance afv:DecidableEq PyData:=fun a b=>Classical.propDecidable (a=b)
mutual
theorem KO.eqv:∀ {d e:PyData},KO d->KO e->d.eqv e=decide (d=e)
 | .int a,.int b,_,_=>by
  by_cases h:a=b
  ·subst h;simp [PyData.eqv]
  ·simp [PyData.eqv,h]
 | .str a,.str b,_,_=>by
  by_cases h:a=b
  ·subst h;simp [PyData.eqv]
  ·simp [PyData.eqv,h]
 | .int a,.str b,_,_=>by simp [PyData.eqv]
 | .str a,.int b,_,_=>by simp [PyData.eqv]
 | .int a,.tuple b,_,_=>by simp [PyData.eqv]
 | .str a,.tuple b,_,_=>by simp [PyData.eqv]
 | .tuple a,.int b,_,_=>by simp [PyData.eqv]
 | .tuple a,.str b,_,_=>by simp [PyData.eqv]
 | .tuple a,.tuple b,.tup x,.tup y=>by
  rw [PyData.eqv,gn.eqv x y];by_cases h:a=b
  ·subst h;simp
  ·simp [h]
theorem gn.eqv:∀ {ds es:List PyData},gn ds->gn es->PyData.eqvAll ds es=decide (ds=es)
 | [],[],_,_=>by simp [PyData.eqvAll]
 | [],_::_,_,_=>by simp [PyData.eqvAll]
 | _::_,[],_,_=>by simp [PyData.eqvAll]
 | d::ds,e::es,.cons x xs,.cons y ys=>by
  rw [PyData.eqvAll,KO.eqv x y,gn.eqv xs ys];by_cases h:d=e
  ·subst h
   by_cases h2:ds=es
   ·subst h2;simp
   ·simp [h2]
  ·simp [h]
end
section
variable {P:Program} {w:World}
mutual
def kh (P:Program) (w:World):PyData->Int
 | .int i=>(XY P w).hash (.inl i)
 | .str x=>(XY P w).hash (.inr x)
 | .tuple ds=>reduceHash (Builtin.Tuple.tupleHashOf (dJ P w ds))
 | _=>0
def dJ (P:Program) (w:World):List PyData->List Int
 | []=>[]
 | d::ds=>kh P w d::dJ P w ds
end
mutual
def kdr:PyData->Nat
 | .int _=>1
 | .str _=>1
 | .tuple ds=>Wv ds+1
 | _=>0
def Wv:List PyData->Nat
 | []=>0
 | d::ds=>kdr d+Wv ds
end
theorem Yfv (a b:List PyData):dJ P w (a++b)=dJ P w a++dJ P w b:=by
 induction a with
 | nil=>simp [dJ]
 | cons x a ih=>simp [dJ,ih]
theorem Yd7 (a b:List PyData):Wv (a++b)=Wv a+Wv b:=by
 induction a with
 | nil=>simp [Wv]
 | cons x a ih=>simp [Wv,ih,Nat.add_assoc]
theorem Yd8 (a b:List PyData):PyData.depthAll (a++b)=max (PyData.depthAll a) (PyData.depthAll b):=by
 induction a with
 | nil=>simp [PyData.depthAll]
 | cons x a ih=>simp [PyData.depthAll,ih,Nat.max_assoc]
theorem UC {s:Shared} {a:Addr} {o:Obj} (h1:s.heap.get? a=some o) (h2:o.cls = .type "tuple"):s.TypeIs (.ref a) "tuple":=⟨o,h1,h2⟩
theorem Ij:∀ (n:Nat) {A:Around} {E:Value->Shared->Prop} {s:Shared} {v:Value} {d:PyData} {Q:Int->Shared->Prop},RK s.heap v d->d.depth<=n->A.units+n<cLine->Q (kh P w d) { s with toks:=s.toks+kdr d }->wpAny (model P w) A (pyHash v) Q E s
 | n,A,E,s,_,_,Q,.int i t,_,_,h=>(XY P w).pyHash (GD (k := .inl i) (show YF (.int i) (.int i t) from ⟨t,rfl⟩)) (by simpa [kh,kdr] using h)
 | n,A,E,s,_,_,Q,.str x t _,_,_,h=>(XY P w).pyHash (GD (k := .inr x) (show YF (.str x) (.str x t) from ⟨t,rfl⟩)) (by simpa [kh,kdr] using h)
 | 0,A,E,s,_,_,Q,.tup _ _ _ _,hd,_,h=>by simp [PyData.depth] at hd
 | n+1,A,E,s,_,_,Q,.tup (a:=a) (ds:=ds) h1 h2 h3 ks,hd,hu,h=>by
  have hT:=UC h1 h2;unfold pyHash
  first | unfold pyHashByItsType | skip
  first | refine wpAny_bind (wpAny_cRoomFor_or (.inr (by omega)) ?_) | skip
  refine wpAny_bind (wpAny_specialOf hT F.slot_tuple_hash.lookup ?_)
  show wpAny _ _ (if (some (Value.builtin "tuple.__hash__")==some Value.none)=true then _ else _) Q E s
  rw [if_neg (by rw [beq_builtin_none];exact Bool.false_ne_true)];refine wpAny_bind (wpAny_specialOf hT F.slot_tuple_hash.lookup ?_);refine wpAny_bind (wpAny_callSpecialIfBoundUnlessNone?_slot hT F.slot_tuple_hash (wpAny_call_entry F.slot_tuple_hash hT F.entry_tuple_hash ?_ (F.args_tuple_hash_1 _)))
  show wpAny _ _ (Builtin.Tuple.tupleItemsOf (.ref a) >>= _) _ _ s
  refine wpAny_bind (wpAny_tupleItemsOf h1 h3 ?_);refine wpAny_bind ?_;rw [<- Array.forIn_toList];have hdd:PyData.depthAll ds<=n:=by simp only [PyData.depth] at hd;omega
  refine wpAny_forIn_list _ (fun rest (b:Array Int) s'=>∃ done left,ds=done++left/\dg s.heap rest left/\b.toList=dJ P w done/\s'={ s with toks:=s.toks+Wv done }) _ ?_ ?_ _ _ ⟨[],ds,rfl,ks,by simp [dJ],by simp [Wv]⟩
  ·rintro x rest b s' ⟨done,left,e,hl,hb,rfl⟩
   cases hl with
   | @cons _ d _ ds' hk hl' =>
    have hdk:d.depth<=n:=by
     rw [e,Yd8] at hdd
     simp only [PyData.depthAll] at hdd;omega
    have hin:A.in1.units+n<cLine:=by
     have:A.in1.units=A.units+1:=rfl;omega
    refine wpAny_bind (Ij n (s:={ s with toks:=s.toks+Wv done }) hk hdk hin ?_);have fin:∃ nH left',ds=nH++left'/\dg s.heap rest left'/\(b.push (kh P w d)).toList=dJ P w nH/\({ s with toks:=s.toks+Wv done+kdr d }:Shared)={ s with toks:=s.toks+Wv nH } :=
     ⟨done++[d],ds',by rw [e];simp,hl',by rw [Yfv,Array.toList_push,hb];simp [dJ],by rw [Yd7];simp [Wv,Nat.add_assoc]⟩
    first
     | exact wpAny_pure fin
     | exact wpAny_bind (wpAny_pure (wpAny_pure fin))
  ·rintro b s' ⟨done,left,e,hl,hb,rfl⟩
   cases hl
   rw [List.append_nil] at e
   subst e
   show wpAny _ _ (retInt (Builtin.Tuple.tupleHashOf b.toList)) _ _ _
   rw [hb];refine wpAny_ret_mkInt ?_;simp only [kh,kdr] at h;unfold reduceHash at h
   show wpAny _ _ (if (decide (-(2:Int)^63<=Builtin.Tuple.tupleHashOf (dJ P w ds))&&decide (Builtin.Tuple.tupleHashOf (dJ P w ds)<2^63))=true then _ else _) Q E _
   by_cases hr:(decide (-(2:Int)^63<=Builtin.Tuple.tupleHashOf (dJ P w ds))&&decide (Builtin.Tuple.tupleHashOf (dJ P w ds)<2^63))=true
   ·rw [if_pos hr]
    rw [if_pos hr] at h
    exact wpAny_pure (by simpa [Nat.add_assoc] using h)
   ·rw [if_neg hr]
    rw [if_neg hr] at h
    exact wpAny_bind (wpAny_rule (wpAny_pure (by simpa [Nat.add_assoc] using h)))
theorem Q3:∀ (n:Nat) {A:Around} {E:Value->Shared->Prop} {s:Shared} {v:Value} {d:PyData} {Q:Bool->Shared->Prop},RK s.heap v d->d.depth<=n->Q true s->wpAny (model P w) A (eqIsQuiet n v) Q E s
 | n,A,E,s,_,_,Q,.int i t,_,h=>by rw [eqIsQuiet_byValue _ (by rfl)];exact wpAny_pure h
 | n,A,E,s,_,_,Q,.str x t _,_,h=>by rw [eqIsQuiet_byValue _ (by rfl)];exact wpAny_pure h
 | 0,A,E,s,_,_,Q,.tup _ _ _ _,hd,h=>by simp [PyData.depth] at hd
 | n+1,A,E,s,_,_,Q,.tup (a:=a) (ds:=ds) h1 h2 h3 ks,hd,h=>by
  have hT:=UC h1 h2;have hdd:PyData.depthAll ds<=n:=by simp only [PyData.depth] at hd;omega
  unfold eqIsQuiet;refine wpAny_bind (wpAny_specialOf hT F.slot_tuple_eq.lookup ?_);refine wpAny_bind (wpAny_isInstance hT isSubtype_tuple_tuple ?_);simp only [Bool.not_true,Bool.false_eq_true,if_false];refine wpAny_bind (wpAny_seqItems h1 h3 ?_);refine wpAny_bind ?_;rw [Option.getD_some,<- Array.forIn_toList];refine wpAny_forIn_list _ (fun rest r s'=>r.1=none/\s'=s/\∃ left,dg s.heap rest left/\PyData.depthAll left<=n) _ ?_ ?_ _ _ ⟨rfl,rfl,ds,ks,hdd⟩
  ·rintro v rest r s' ⟨hr,rfl,left,hl,hdl⟩
   cases hl with
   | @cons _ d _ ds' hk hl' =>
    simp only [PyData.depthAll] at hdl;refine wpAny_bind (Q3 n hk (by omega) ?_);simp only [Bool.not_true,Bool.false_eq_true,if_false];exact wpAny_pure ⟨rfl,rfl,ds',hl',by omega⟩
  ·rintro ⟨r1,r2⟩ s' ⟨hr,rfl,_⟩
   simp only at hr;subst hr;exact wpAny_pure h
noncomputable def eX (P:Program) (w:World):HeapKind P w PyData where
 is:=fun h d a=>RK h (.ref a) d/\d.depth<=8
 hash:=kh P w
 draws:=kdr
 room:=fun A=>A.units+8<cLine
 inj:=fun hx hy=>hx.1.inj hy.1
 keeps:=fun x ho hd hs=>⟨x.1.keeps ho hd hs,x.2⟩
 pyHash:=fun hu hk h=>Ij 8 hk.1 hk.2 hu h
 eqBool:=fun {A E s x y a b Q} hu hx hy h=>by
  obtain ⟨⟨as,r1⟩,l1⟩:=hx.1.reads;obtain ⟨⟨bs,r2⟩,l2⟩:=hy.1.reads;have hm:min x.depth y.depth<=8:=Nat.le_trans (Nat.min_le_left _ _) hx.2;exact SeqAt.eqAt_reads x y A s _ _ _ _ r1 r2 l1 l2 (by omega) P w E Q (by rw [KO.eqv hx.1.ko hy.1.ko];exact h)
 quiet:=fun hk h=>Q3 8 hk.1 hk.2 h
end
abbrev Dx:=List (PyData×Addr×Addr)
def Wr (x:PyData×Addr×Addr):PyData×Addr×Value:=(x.1,x.2.1,.ref x.2.2)
noncomputable def cU (P:Program) (w:World) (a:Addr) (xs:Dx):HO := .ext fun h=>(a==sysModules)=false/\∃ o es ep,h.get? a=some o/\o.ExactDict/\o.data = .dict es ep/\es.toList=(xs.map Wr).map (entryOfKey (eX P w))
theorem Ik {P:Program} {w:World} {H:Hp} {h:Heap} {a:Addr} {xs:Dx} (hd:(a==sysModules)=false) (e:∃ o es ep,h.get? a=some o/\o.ExactDict/\o.data = .dict es ep/\es.toList=(xs.map Wr).map (entryOfKey (eX P w))):YZ P w H h a (cU P w a xs):=by
 refine ⟨⟨hd,e⟩,?_,fun h1 h2 p k=>?_⟩
 ·obtain ⟨o,es,ep,h1,_⟩:=e
  exact ⟨o,h1⟩
 ·obtain ⟨q,o,es,ep,g1,g2⟩:=p
  exact ⟨q,o,es,ep,k _ g1,g2⟩
structure DK (K:W.Frag) (H:Hp) (b:Addr) (d:PyData):Prop where
 den:Den K H (.ref b) d
 ko:KO d
 dp:d.depth<=8
theorem DK.keep {K:W.Frag} {H H':Hp} {b:Addr} {d:PyData} (h:DK K H b d) (s:Yf H H'):DK K H' b d:=⟨h.den.keep s,h.ko,h.dp⟩
noncomputable def aZ (xs:Dx) (d:PyData):Option Addr:=(xs.find? fun x=>decide (x.1=d)).map (·.2.2)
structure bM (P:Program) (w:World) (K:W.Frag) (H:Hp) (a:Addr) (xs:Dx):Prop where
 at_:H a=some (cU P w a xs)
 nd:(xs.map (·.1)).Nodup
 len:xs.length<=1000
 keys:∀ x∈xs,DK K H x.2.1 x.1
section
variable {X:Cx} {pins:List (Addr×Obj)} {σ:St} {H:Hp} {s:Shared} {a b:Addr} {d:PyData} {xs:Dx} {u r:Value} {A:Around} {E:Value->Shared->Prop}
theorem QC (I:Inv X pins σ H s) (h:DK X.K H b d):(eX X.prog X.w).is s.heap d b:=by
 obtain ⟨as,r⟩:=h.den.reads I (show YF (.ref b) (.ref b) from rfl);exact ⟨RK.of h.ko r h.den.lay,h.dp⟩
theorem QD (I:Inv X pins σ H s) (h:bM X.prog X.w X.K H a xs):(a==sysModules)=false/\s.heap.DictOfH (eX X.prog X.w) a (xs.map Wr):=by
 obtain ⟨⟨hd,o,es,ep,h1,h2,h3,h4⟩,_⟩:=(show YZ X.prog X.w H s.heap a (cU X.prog X.w a xs) from I.hok a _ h.at_);refine ⟨hd,o,es,ep,h1,h2,h3,h4,fun x hx=>?_,?_⟩
 ·obtain ⟨y,hy,rfl⟩:=List.mem_map.mp hx
  exact QC I (h.keys y hy)
 ·have:(xs.map Wr).map (·.1)=xs.map (·.1):=by rw [List.map_map];rfl
  rw [this];exact h.nd
theorem W7 (xs:Dx) (d:PyData):(atKey (xs.map Wr) d).map (·.2)=(aZ xs d).map Value.ref:=by
 induction xs with
 | nil=>rfl
 | cons x xs ih =>
  by_cases h:x.1=d
  ·simp [atKey,aZ,List.find?_cons,Wr,h]
  ·simp only [atKey,aZ,List.map_cons,List.find?_cons,Wr,h] at ih ⊢
   simpa using ih
theorem Yb0 {p:Addr} {Q:Value->Shared->Prop} (hu:A.units+9<cLine) (I:Inv X pins σ H s) (g:bM X.prog X.w X.K H a xs) (k:DK X.K H b d) (l:aZ xs d=some p) (h:∀ s',Inv X pins σ H s'->Q (.ref p) s') :
  wpAny (model X.prog X.w) A (getItem (.ref a) (.ref b)) Q E s:=by
 obtain ⟨hd,dd⟩:=QD I g;have e:=W7 xs d;rw [l] at e
 obtain ⟨q,hq,hq2⟩:=Option.map_eq_some_iff.mp e;refine wpAny_getItem_heap (show A.in1.units+8<cLine from by have:A.in1.units=A.units+1:=rfl;omega) (QC I k) dd hq ?_;rw [hq2];exact h _ (I.tok _)
theorem Yd9 {Q:Value->Shared->Prop} (hu:A.units+9<cLine) (I:Inv X pins σ H s) (g:bM X.prog X.w X.K H a xs) (k:DK X.K H b d) (h:∀ s',Inv X pins σ H s'->Q (.bool (!(aZ xs d).isSome)) s') :
  wpAny (model X.prog X.w) A (compareOp .NotIn (.ref b) (.ref a)) Q E s:=by
 obtain ⟨hd,dd⟩:=QD I g;refine wpAny_notIn_heap (show A.in1.units+8<cLine from by have:A.in1.units=A.units+1:=rfl;omega) (QC I k) hd dd ?_;have e:=congrArg Option.isSome (W7 xs d);rw [Option.isSome_map,Option.isSome_map] at e
 rw [e];exact h _ (I.tok _)
theorem Yb1 {p:Addr} {Q:Unit->Shared->Prop} (hu:A.units+9<cLine) (I:Inv X pins σ H s) (g:bM X.prog X.w X.K H a xs) (k:DK X.K H b d) (l:aZ xs d=none) (hl:xs.length<1000) (h:∀ s',Inv X pins σ (upd H a (cU X.prog X.w a (xs++[(d,b,p)]))) s'->Q () s') :
  wpAny (model X.prog X.w) A (setItem (.ref a) (.ref b) (.ref p)) Q E s:=by
 obtain ⟨hd,dd⟩:=QD I g;have hz:(xs.map Wr).length<=sizeLine:=by rw [List.length_map];exact Nat.le_trans (Nat.le_of_lt hl) (by decide)
 refine wpAny_setItem_heap (hsz:=hz) (show A.in1.units+8<cLine from by have:A.in1.units=A.units+1:=rfl;omega) (QC I k) dd fun h' Il hs=>h _ ?_
 have e:atKey (xs.map Wr) d=none:=by
  have e:=W7 xs d;rw [l] at e
  cases q:atKey (xs.map Wr) d with
  | none=>rfl
  | some z=>rw [q] at e;cases e
 rw [storedH_new e] at Il
 obtain ⟨q,es,ep,hq,h2,h3,h4,_,h5⟩:=Il;refine Rh I (by rw [g.at_];exact True.intro) hs ⟨q,hq⟩ (Ik hd ⟨q,es,ep,hq,h2,h3,?_⟩);rw [h4,List.map_append (f:=Wr)];rfl
end
def Q4 (P:Program) (w:World) (K:W.Frag) (td ty:TE):TE:=fun σ H Q=>td σ H fun x H1=>ty σ H1 fun y H2=>∃ a b xs d p,x = .ref a/\y = .ref b/\bM P w K H2 a xs/\DK K H2 b d/\aZ xs d=some p/\Q (.ref p) H2
def Im (P:Program) (w:World) (K:W.Frag) (td ty tv:TE):TS:=fun D σ H=>tv σ H fun v H1=>td σ H1 fun x H2=>ty σ H2 fun y H3=>∃ a b xs d p,v = .ref p/\x = .ref a/\y = .ref b/\bM P w K H3 a xs/\DK K H3 b d/\aZ xs d=none/\xs.length<1000/\D.nx σ (upd H3 a (cU P w a (xs++[(d,b,p)])))
def Yf4 (P:Program) (w:World):TE:=fun _ H Q=>∀ p,H p=none->Q (.ref p) (upd H p (cU P w p []))
section
variable {X:Cx} {o i e value:Expr} {pos pos' tpos:Pos} {td ty tv:TE} {k:Nat}
theorem Q5 {A:Around} {k:Nat} (hr:aP k A):A.units+9<cLine:=Nat.lt_of_le_of_lt (Nat.add_le_add_left (by decide:9<=64) _) hr.units
theorem Yea (hr:aP k X.A) (ho:PE X o td) (hi:PE X i ty) (hs:xr i):PE X (.Subscript o i pos) (Q4 X.prog X.w X.K td ty):=by
 intro pins s σ H Q I h;refine Ri F.slot_dict_getitem.lookup hs (aL (ho pins s σ H _ I h) fun u s1 ⟨x,H1,I1,rx,q1⟩=>aL (hi pins s1 σ H1 _ I1 q1) fun iv s2 ⟨y,H2,I2,ry,a,b,xs,d,p,ex,ey,g,kk,l,q2⟩=>?_);subst ex ey;obtain rfl:u=Value.ref a:=rx;obtain rfl:iv=Value.ref b:=ry;exact ⟨(QD I2 g).2.typeIs,Yb0 (Q5 hr) I2 g kk l fun s3 I3=>⟨.ref p,H2,I3,rfl,q2⟩⟩
theorem Yeb (hr:aP k X.A) (ho:PE X o td) (hi:PE X i ty) (hv:PE X value tv) (hs:swapsWith value (some (.Subscript o i pos')) pos.line X.env=pure false) :
  PS X (.Assign [.Subscript o i pos'] value pos) (Im X.prog X.w X.K td ty tv):=by
 intro pins s σ H D I h;refine wpAny_Assign_Subscript (aL (hv pins s σ H _ I h) fun r s1 ⟨v,H1,I1,rv,q1⟩=>aL (ho pins s1 σ H1 _ I1 q1) fun u s2 ⟨x,H2,I2,rx,q2⟩=>aL (hi pins s2 σ H2 _ I2 q2) fun iv s3 ⟨y,H3,I3,ry,a,b,xs,d,p,ev,ex,ey,g,kk,l,hl,q3⟩=>?_) hs;subst ex ey ev;obtain rfl:u=Value.ref a:=rx;obtain rfl:iv=Value.ref b:=ry;obtain rfl:r=Value.ref p:=rv;exact Yb1 (Q5 hr) I3 g kk l hl fun s4 I4=>⟨σ,_,I4,q3⟩
theorem Yec:PE X (.Dict [] [] pos) (Yf4 X.prog X.w):=fun pins s σ H Q I h =>
 wpAny_Dict_empty ⟨.ref s.heap.objs.size,_,I.laid (a:=s.heap.objs.size) (o:=cU X.prog X.w s.heap.objs.size []) (t':=s.toks) (fun _ _ q=>Heap.get?_push_of_some _ q) (Nat.le_refl _) (Ik (beq_eq_false_iff_ne.mpr (Ne.symm (Nat.ne_of_lt I.big))) ⟨_,#[],0,Heap.get?_push_size _ rfl,⟨rfl,rfl,rfl⟩,rfl,rfl⟩),rfl,h _ (I.hok.fresh (Nat.le_refl _))⟩
end
def VG (H H':Hp):Prop:=∀ b xs,Rd H b (.tup xs)->Rd H' b (.tup xs)
theorem VG.sq {K:W.Frag} {H H':Hp} (t:VG H H') {b:Addr} {xs:List V} (h:aJ K H b xs):aJ K H' b xs:=by
 rcases h with h | h
 ·exact .inl (t _ _ h)
 ·exact .inr h
theorem Io {H H':Hp} (s:Yf H H'):VG H H':=fun b xs h=>by
 rcases h with h | ⟨o,h⟩
 ·exact .inl (s _ _ h)
 ·exact .inr ⟨o,s _ _ h⟩
theorem Yed {H H':Hp} {P:Addr} {u:HO} (hk:∀ b o,b≠P->H b=some o->H' b=some o) (hP:H P=some u) (h1:∀ xs,u ≠ .tup xs) (h2:∀ o v,u ≠ .bH o v):VG H H':=fun b xs h=>by
 rcases h with h | ⟨o,h⟩
 ·exact .inl (hk _ _ (YG h hP (fun z=>h1 _ z.symm)) h)
 ·exact .inr ⟨o,hk _ _ (YG h hP (fun z=>h2 _ _ z.symm)) h⟩
theorem Yee {K:W.Frag} {H H':Hp} (t:VG H H') {d:PyData} {v:V} (k:KO d) (r:Den K H v d):Den K H' v d:=by
 induction k using KO.rec (motive_2:=fun ds _=>∀ {vs:List V},cC K H vs ds->cC K H' vs ds) generalizing v with
 | int i=>cases r with | int _=>exact .int i
 | str x=>cases r with | str _ h=>exact .str x h
 | tup _ ih=>cases r with | tup h hs=>exact .tup (t.sq h) (ih hs)
 | nil=>rename_i r;cases r;exact .nil
 | cons _ _ ih ihs=>rename_i r;cases r with | cons a b=>exact .cons (ih a) (ihs b)
theorem DK.nJ {K:W.Frag} {H H':Hp} {b:Addr} {d:PyData} (h:DK K H b d) (t:VG H H'):DK K H' b d:=⟨Yee t h.ko h.den,h.ko,h.dp⟩
theorem bM.keep {P:Program} {w:World} {K:W.Frag} {H H':Hp} {a:Addr} {xs:Dx} (h:bM P w K H a xs) (t:VG H H') (e:H' a=some (cU P w a xs)):bM P w K H' a xs:=⟨e,h.nd,h.len,fun x hx=>(h.keys x hx).nJ t⟩
theorem Yb2 {xs:Dx} {d:PyData} (h:aZ xs d=none):d∉xs.map (·.1):=by
 intro hm;obtain ⟨x,hx,rfl⟩:=List.mem_map.mp hm;unfold aZ at h;rw [Option.map_eq_none_iff,List.find?_eq_none] at h
 exact h x hx (by simp)
theorem UD (xs:Dx) (d e:PyData) (b p:Addr) (h:aZ xs d=none):aZ (xs++[(d,b,p)]) e=if e=d then some p else aZ xs e:=by
 unfold aZ;rw [List.find?_append];by_cases c:e=d
 ·subst c
  have h':xs.find? (fun x=>decide (x.1=e))=none:=by
   unfold aZ at h
   rwa [Option.map_eq_none_iff] at h
  rw [h',if_pos rfl];simp
 ·rw [if_neg c]
  have:([(d,b,p)]:Dx).find? (fun x=>decide (x.1=e))=none:=by simp [Ne.symm c]
  rw [this];simp
theorem bM.put {P:Program} {w:World} {K:W.Frag} {H:Hp} {a b p:Addr} {d:PyData} {xs:Dx} (h:bM P w K H a xs) (k:DK K H b d) (l:aZ xs d=none) (hl:xs.length<1000):bM P w K (upd H a (cU P w a (xs++[(d,b,p)]))) a (xs++[(d,b,p)]):=by
 have t:VG H (upd H a (cU P w a (xs++[(d,b,p)]))):=Yed (fun b o hb e=>by rw [Yg hb];exact e) h.at_ (by intro xs z;cases z) (by intro o v z;cases z);refine ⟨Yc,?_,by rw [List.length_append,List.length_singleton];omega,fun x hx=>?_⟩
 ·rw [List.map_append]
  refine List.nodup_append.mpr ⟨h.nd,by simp,fun x hx y hy e=>?_⟩;subst e;have:x=d:=by simpa using hy
  subst this;exact Yb2 l hx
 ·rcases List.mem_append.mp hx with hx | hx
  ·exact (h.keys x hx).nJ t
  ·have:x=(d,b,p):=by simpa using hx
   subst this;exact k.nJ t
theorem Ydh {P:Program} {w:World} {K:W.Frag} {H:Hp} {a:Addr} (h:H a=some (cU P w a [])):bM P w K H a []:=⟨h,by simp,by simp,fun x hx=>by cases hx⟩
section
variable {X:Cx} {k:Nat}
theorem Yb3 (hr:aP k X.A):bI X (compareOp .NotIn) (fun y x H Q=>∃ a b xs d,x = .ref a/\y = .ref b/\bM X.prog X.w X.K H a xs/\DK X.K H b d/\Q (.bl (!(aZ xs d).isSome)) H):=by
 intro pins s σ H y x u v Q I ry rx h;obtain ⟨a,b,xs,d,rfl,rfl,g,kk,q⟩:=h
 cases (show u=Value.ref b from ry)
 cases (show v=Value.ref a from rx)
 exact Yd9 (Q5 hr) I g kk fun s' I'=>⟨.bl (!(aZ xs d).isSome),H,I',rfl,q⟩
end
end L2
namespace PySem.W
open PySem PyProof.Rows
abbrev excFs (a0:Value):Array Value:=#[a0,.none,.none,.none,.bool false,.none]
end PySem.W
namespace L2
open PySem PySem.Spec PyProof.Rows
open PySem.W (excFs)
def del (H:Hp) (a:Addr):Hp:=fun b=>if b=a then none else H b
end L2
namespace L2
open PySem PySem.Spec PyProof.Rows
structure cZ (H Hz:Hp) (h:Heap) (cs:List Addr):Prop where
 one:∀ b∈cs,∃ o u,Hz b=some (.bH o u)/\h.get? b=some o/\H b=none
 oth:∀ b,b∉cs->Hz b=H b
section
variable {P:Program} {w:World} {H Hz H':Hp} {h h' B:Heap} {cs fs:List Addr}
theorem cZ.out (L:cZ H Hz h cs) {b:Addr} {o:HO} (e:H b=some o):b∉cs:=fun z=>by
 obtain ⟨_,_,_,_,n⟩:=L.one b z;rw [n] at e
 cases e
theorem cZ.get (L:cZ H Hz h cs) {b:Addr} {o:HO} (e:H b=some o):Hz b=some o:=by rw [L.oth b (L.out e)];exact e
theorem Ug (x:bf P w H' h') (z:∀ b∈cs,∃ o u,H' b=some (.bH o u)):bf P w (off H' cs) h':=fun b o e=>by
 obtain ⟨e1,e2⟩:=VC e;refine (x b o e1).stay (fun _ _ _ q=>q) (fun c q=>?_) fun c xs q=>?_
 ·rw [YS fun hc=>by obtain ⟨_,_,y⟩:=z c hc;rw [y] at q;cases q]
  exact q
 ·rw [YS fun hc=>by obtain ⟨_,_,y⟩:=z c hc;rw [y] at q;cases q]
  exact q
theorem cZ.un (L:cZ H Hz h cs) (u:Un fs [] Hz H' h h') (hok:bf P w H' h') (nf:∀ b∈cs,b∉fs):Un fs [] H (off H' cs) h h':=by
 have z:∀ {b:Addr} {o:HO},H b=some o->b∉cs:=fun e=>L.out e
 refine ⟨fun b o e n hf hx=>?_,fun b o e n hf hx=>?_,fun b o e n hx=>?_,u.there,fun b xs e=>?_,fun b o x e=>?_,fun b ps e=>?_⟩
 ·by_cases hb:b∈cs
  ·obtain ⟨o1,u1,y1,y2,_⟩:=L.one b hb
   rw [e] at y2
   cases y2
   exact (hok b _ (u.bF b _ _ y1)).1
  ·exact u.keep b o e ((L.oth b hb).trans n) hf hx
 ·exact u.slot b o e ((L.oth b fun hb=>nf b hb hf).trans n) hf hx
 ·by_cases hb:b∈cs
  ·exact Vg hb
  ·rw [YS hb]
   exact u.free b o e ((L.oth b hb).trans n) hx
 ·rw [YS (z e)]
  exact u.tups b xs (L.get e)
 ·rw [YS (z e)]
  exact u.bF b o x (L.get e)
 ·rw [YS (z e)]
  exact u.bR b ps (L.get e)
theorem cZ.behind (L:cZ H Hz h cs) (u:Un fs [] Hz H' h h'):∀ b∈cs,∃ o v,H' b=some (.bH o v):=fun b hb=>by
 obtain ⟨o1,u1,y1,_⟩:=L.one b hb;exact ⟨o1,u1,u.bF b _ _ y1⟩
theorem cZ.fly {l:List Env} {e:Addr} {cls:Value} (L:cZ H Hz h cs) (F:dD P w l Hz h e cls H' h' B) (nf:∀ b∈cs,b∉frs l):dD P w l H h e cls (off H' cs) h' B:=by
 have z:∀ {b:Addr} {o:HO},H b=some o->b∉cs:=fun e=>L.out e
 have bh:∀ b∈cs,∃ o v,H' b=some (.bH o v):=fun b hb=>by
  obtain ⟨o1,u1,y1,_⟩:=L.one b hb;exact ⟨o1,u1,F.bF b _ _ y1⟩
 refine ⟨F.fl,Ug F.hok bh,fun b o q n hf=>?_,fun b o q n hf=>F.slot b o q ((L.oth b fun hb=>nf b hb hf).trans n) hf,F.al,fun b o q n=>?_,fun b xs q=>?_,fun b o x q=>?_,fun b ps q=>?_⟩
 ·by_cases hb:b∈cs
  ·obtain ⟨o1,u1,y1,y2,_⟩:=L.one b hb
   rw [q] at y2
   cases y2
   exact (F.hok b _ (F.bF b _ _ y1)).1
  ·exact F.keep b o q ((L.oth b hb).trans n) hf
 ·by_cases hb:b∈cs
  ·exact Vg hb
  ·rw [YS hb]
   exact F.free b o q ((L.oth b hb).trans n)
 ·rw [YS (z q)]
  exact F.tups b xs (L.get q)
 ·rw [YS (z q)]
  exact F.bF b o x (L.get q)
 ·rw [YS (z q)]
  exact F.bR b ps (L.get q)
end
def W1 (H Hz:Hp) (l:YE):Prop:=(∀ p∈l,∃ o,Hz p.2.1=some (.bH o (Wz p.2.1 p.2.2))/\H p.2.1=none)/\∀ b,b∉l.as->Hz b=H b
def Ww (H:Hp) (h:Heap):YE->Hp
 | []=>H
 | p::l=>match h.get? p.2.1 with
  | some o=>upd (Ww H h l) p.2.1 (.bH o (Wz p.2.1 p.2.2))
  | none=>Ww H h l
section
variable {X:Cx} {pins:List (Addr×Obj)} {σ:St} {H:Hp} {s:Shared}
theorem WV {h:Heap} {b:Addr}:∀ {l:YE},b∉l.as->Ww H h l b=H b
 | [],_=>rfl
 | p::l,hb=>by
  have h1:b≠p.2.1:=fun z=>hb (by rw [z];exact .head _)
  have h2:b∉YE.as l:=fun z=>hb (.tail _ z)
  cases e:h.get? p.2.1 with
  | some o =>
   have hz:Ww H h (p::l)=upd (Ww H h l) p.2.1 (.bH o (Wz p.2.1 p.2.2)):=by
    show (match h.get? p.2.1 with | some o=>_ | none=>_)=_
    rw [e]
   rw [hz,Yg h1];exact WV h2
  | none =>
   have hz:Ww H h (p::l)=Ww H h l:=by
    show (match h.get? p.2.1 with | some o=>_ | none=>_)=_
    rw [e]
   rw [hz];exact WV h2
theorem Ip (I:Inv X pins σ H s) {l:YE} (hc:XN X σ l) {p:Str×Addr×V} (hp:p∈l):H p.2.1=none/\∃ o u,s.heap.get? p.2.1=some o/\YF p.2.2 u/\s.heap.IsCell p.2.1 (some u):=by
 obtain ⟨i,h1,h2,h3,h4⟩:=hc.2 p hp;obtain ⟨m,hn,hl⟩:=I.loc;obtain ⟨u,r,lk⟩:=hl i p.1 p.2.2 h1 h2 (.inr (.inl h3));rcases lk with ⟨k,_⟩ | ⟨_,c,hc,hcell⟩
 ·rw [h3] at k;cases k
 ·rw [h4] at hc
  cases hc
  obtain ⟨o,e1,e2⟩:=id hcell;exact ⟨I.aV p.1 p.2.1 h4,o,u,e1,r,hcell⟩
theorem Ir (I:Inv X pins σ H s):∀ {l:YE},XN X σ l->W1 H (Ww H s.heap l) l/\cZ H (Ww H s.heap l) s.heap l.as/\bf X.prog X.w (Ww H s.heap l) s.heap
 | [],_=>⟨⟨(fun p hp=>nomatch hp),fun _ _=>rfl⟩,⟨(fun b hb=>nomatch hb),fun _ _=>rfl⟩,I.hok⟩
 | p::l,h=>by
  have nd':=List.nodup_cons.mp h.1;obtain ⟨⟨a1,a2⟩,⟨b1,b2⟩,ok⟩:=Ir I (l:=l) ⟨nd'.2,fun q hq=>h.2 q (.tail _ hq)⟩;obtain ⟨n,o,u,e,r,hcell⟩:=Ip I h (.head _);have hz:Ww H s.heap (p::l)=upd (Ww H s.heap l) p.2.1 (.bH o (Wz p.2.1 p.2.2)):=by
   show (match s.heap.get? p.2.1 with | some o=>_ | none=>_)=_
   rw [e]
  have hne:∀ q∈l,q.2.1≠p.2.1:=fun q hq z=>nd'.1 (by
   have:q.2.1∈YE.as l:=List.mem_map_of_mem (f:=fun p:Str×Addr×V=>p.2.1) hq;rw [z] at this
   exact this)
  rw [hz];refine ⟨⟨fun q hq=>?_,fun b hb=>?_⟩,⟨fun b hb=>?_,fun b hb=>?_⟩,ok.track ((WV nd'.1).trans n) ⟨e,Uf r hcell⟩⟩
  ·rcases List.mem_cons.mp hq with rfl | hq
   ·exact ⟨o,Yc,n⟩
   ·obtain ⟨o',y1,y2⟩:=a1 q hq
    exact ⟨o',by rw [Yg (hne q hq)];exact y1,y2⟩
  ·rw [Yg fun z=>hb (by rw [z];exact .head _)]
   exact a2 b fun z=>hb (.tail _ z)
  ·by_cases z:b=p.2.1
   ·subst z
    exact ⟨o,_,Yc,e,n⟩
   ·rw [Yg z]
    have:b∈YE.as l:=by
     rcases List.mem_cons.mp (show b∈p.2.1::YE.as l from hb) with y | y
     ·exact absurd y z
     ·exact y
    exact b1 b this
  ·rw [Yg fun z=>hb (by rw [z];exact .head _)]
   exact b2 b fun z=>hb (.tail _ z)
theorem Q6 (I:Inv X pins σ H s) {l:YE} (hc:XN X σ l) (hfn:∀ x,X.fn x=true) {b:Addr} (hb:b∈l.as):X.s₀.heap.objs.size<=b/\b≠X.env.locals:=by
 obtain ⟨p,hp,rfl⟩:=Xk hb;obtain ⟨i,h1,h2,h3,h4⟩:=hc.2 p hp;exact ⟨I.ok.cab _ _ (hfn _) h4,I.iT _ _ h4⟩
theorem Yfw (I:Inv X pins σ H s) (hs:X.stack=X.env::X.outer) (hf:X.env.frame=some X.env.locals) {l:YE} (hc:XN X σ l) (hfn:∀ x,X.fn x=true):∀ b∈l.as,b∉frs X.stack:=fun b hb z=>by
 obtain ⟨n1,n2⟩:=Q6 I hc hfn hb;rw [hs] at z
 unfold frs at z;rw [List.filterMap_cons,hf] at z
 rcases List.mem_cons.mp z with z | z
 ·exact n2 z
 ·obtain ⟨_,o,e,_⟩:=I.ok.bV.mem z
  exact absurd (Nat.lt_of_lt_of_le (Heap.lt_size e) n1) (Nat.lt_irrefl _)
end
section
variable {X:Cx} {CX:dH} {k:Nat} {f:Addr} {fd:FuncData} {ps:List Str} {sp:Sp} {E:XK} {pins:List (Addr×Obj)} {σ:St} {H:Hp} {s:Shared} {Q:VK} {us:List Value} {vs:List V} {l:YE}
theorem Yef (F:aY X.prog X.w X.K X.mg X.base CX k f fd ps sp) (hr:aP k X.A) (hb:Xn X.K fd ps []) (hs:X.stack=X.env::X.outer) (hf:X.env.frame=some X.env.locals) (hfn:∀ x,X.fn x=true)
  (hx:∀ Hz e s',cZ H Hz s.heap l.as->(∀ b∈l.as,b∉frs X.stack)->CX X.stack Hz s (fun c d H'=>E c d (off H' l.as)) e s'->X.xe e s')
  (I:Inv X pins σ H s) (hc:XN X σ l) (r:Yw vs us) (h:∀ Hz,W1 H Hz l->sp vs Hz (fun v H'=>Q v (off H' l.as)) fun c d H'=>E c d (off H' l.as)):wpAny (model X.prog X.w) X.A (call (.ref f) us) (EP X pins σ Q) X.xe s:=by
 obtain ⟨L1,L2,ok⟩:=Ir I hc;have nf:=Yfw I hs hf hc hfn;have hsp:=h _ L1;have hl:us.length=ps.length:=by rw [<- r.length];exact F.len _ _ _ _ hsp
 have e0:dB X.prog X.w X.K X.mg X.base X.A X.stack s (Ww H s.heap l):=by
  have e:=I.env0;refine ⟨e.frames,e.mod,fun b o q=>⟨(e.bs b o q).1,?_⟩,e.dO,e.bV,fun b q=>?_,ok,e.bare⟩
  ·rw [WV fun z=>?_]
   ·exact (e.bs b o q).2
   ·have n1:=(Q6 I hc hfn z).1
    have:=I.ok.dO;exact absurd (Nat.lt_of_lt_of_le (Heap.lt_size q) (Nat.le_trans this n1)) (Nat.lt_irrefl _)
  ·rw [WV fun z=>nf b z q]
   exact e.d9 b q
 refine wpAny_call (codeAny_mono (F.run X.A X.stack s _ ⟨us,[]⟩ us vs _ _ hr e0 (by have:=hb s us I.bA (by rw [List.append_nil];exact hl);rwa [List.append_nil] at this) r hsp) fun r s' hq=>?_)
 cases r with
 | error e=>exact hx _ e s' L2 nf hq
 | ok fl =>
  cases fl with
  | ret u =>
   obtain ⟨v,H',os,bare,un,hok,rv,q⟩:=hq;exact I.after ⟨v,off H' l.as,os,bare,L2.un un hok nf,Ug hok (L2.behind un),rv,q⟩
  | next=>exact False.elim hq
  | brk=>exact False.elim hq
  | cont=>exact False.elim hq
end
theorem Yb4 {g:Gx} {N:List Str} {qual:Str} {st:Stmt} {f:Addr} {cdv:Value} {A:Around} {outer:List Env} {s0:Shared} {H0:Hp} {E:XK} {pins:List (Addr×Obj)} {σ:St} {H:Hp} {s:Shared} {cs:List Addr}
  (I:Inv (g.cI N qual st f cdv A outer s0 H0 E) pins σ H s):∀ Hz e s',cZ H Hz s.heap cs->(∀ b∈cs,b∉frs (g.cI N qual st f cdv A outer s0 H0 E).stack)->jT g.P g.w (g.cI N qual st f cdv A outer s0 H0 E).stack Hz s (fun c d H'=>E c d (off H' cs)) e s'->(g.cI N qual st f cdv A outer s0 H0 E).xe e s':=by
 rintro Hz e s' L nf ⟨a,cls,H',B,dc,rfl,os,bare,F,hd,q⟩;exact Eu pins σ H s _ s' I ⟨a,cls,off H' cs,B,dc,rfl,os,bare,L.fly F nf,hd,q⟩
def YE.Z (l:YE) (H:Hp):Prop:=∀ p∈l,∃ o,H p.2.1=some (.bH o (Wz p.2.1 p.2.2))
theorem W1.z {H Hz:Hp} {l:YE} (h:W1 H Hz l):l.Z Hz:=fun p hp=>by
 obtain ⟨o,z,_⟩:=h.1 p hp;exact ⟨o,z⟩
theorem YE.Z.keep {l:YE} {H H':Hp} (h:l.Z H) (s:Yf H H'):l.Z H':=fun p hp=>by
 obtain ⟨o,z⟩:=h p hp;exact ⟨o,s _ _ z⟩
def Iu (H:Hp) (f c:Addr) (fd:FuncData) (qual:Str) (l:YE):Prop:=H f=some (bZ f fd)/\H c=some (eN c qual)/\l.Z H
section
variable {P:Program} {w:World} {K:W.Frag} {mg:Str->Option Value} {base:Heap} {N ps:List Str} {qual:Str} {scope:Scope} {f c:Addr} {A:Around} {outer:List Env} {s:Shared} {H:Hp} {l:YE} {cd:Value}
theorem Yf5 {Q:VK} {v:V} {u:Value} {σ':St} {H':Hp} {s':Shared} (e0:dB P w K mg base A outer s H) (hin:l.Z H) (J:Inv (VE P w K mg base N qual scope f cd l.cl A outer s (off H l.as)) [] σ' H' s') (hlk:∀ p∈l,l.cl.lookup p.1=some p.2.1) (rv:YF v u) (q:(∀ c∈l.as,H' c=none)->Q v (on H' H l.as)) :
  CE outer P w H s Q u s':=by
 have un:=J.base;have zc:∀ {b:Addr},b∈l.as->∃ o u,H b=some (.bH o u):=fun hm=>by
  obtain ⟨p,hp,rfl⟩:=Xk hm;obtain ⟨o,z⟩:=hin p hp;exact ⟨o,_,z⟩
 have nin:∀ {b:Addr},H b=none->b∉l.as:=fun hb hm=>by
  obtain ⟨o,u,z⟩:=zc hm;rw [z] at hb;cases hb
 have out:∀ {b:Addr} {o:HO},H b=some o->(∀ x u,o ≠ .bH x u)->b∉l.as:=fun hb no hm=>by
  obtain ⟨o,u,z⟩:=zc hm;rw [z] at hb
  exact no _ _ (Option.some.inj hb).symm
 have aV:∀ c∈l.as,H' c=none:=fun c hc=>by
  obtain ⟨p,hp,rfl⟩:=Xk hc;exact J.aV p.1 p.2.1 (hlk p hp)
 refine ⟨v,on H' H l.as,J.os,J.bare,⟨fun b o e n hb hx=>un.keep b o e (XJ n) hb hx,fun b o e n hb hx=>un.slot b o e (XJ n) hb hx,fun b o e n hx=>?_,fun b o e hx=>un.there b o e hx,fun b xs e=>?_,fun b o u e=>?_,fun b ps e=>?_⟩,fun b o e=>?_,rv,q aV⟩
 ·rw [Xd (nin n)]
  exact un.free b o e (XJ n) hx
 ·have h1:=out e fun _ _ z=>by cases z
  rw [Xd h1];exact un.tups b xs ((YS h1).trans e)
 ·by_cases hb:b∈l.as
  ·rw [VT hb];exact e
  ·rw [Xd hb]
   exact un.bF b o u ((YS hb).trans e)
 ·have h1:=out e fun _ _ z=>by cases z
  rw [Xd h1];exact un.bR b ps ((YS h1).trans e)
 ·by_cases hb:b∈l.as
  ·rw [VT hb] at e
   obtain ⟨p,hp,rfl⟩:=Xk hb;obtain ⟨ob,z⟩:=hin p hp;rw [z] at e
   cases e
   obtain ⟨ho,y1,y2,y3⟩:=e0.hok _ _ z;have hk:=un.keep _ _ ho (Vg hb) (fun hf=>by have:=e0.d9 _ hf;rw [z] at this;cases this) (by intro z;exact absurd (show p.2.1∈([]:List Addr) from z) (by simp));exact ⟨hk,y3 _ _ y1 fun o q=>by rw [ho] at q;cases q;exact hk,⟨ob,hk⟩,y3⟩
  ·rw [Xd hb] at e
   refine (J.hok b o e).stay (fun _ _ _ q=>q) (fun c q=>?_) fun c xs q=>?_
   ·rw [Xd fun hc=>?_]
    ·exact q
    ·rw [aV c hc] at q;cases q
   ·rw [Xd fun hc=>?_]
    ·exact q
    ·rw [aV c hc] at q;cases q
end
theorem Yfx {P:Program} {w:World} {K:W.Frag} {mg:Str->Option Value} {base:Heap} {k:Nat} {f c:Addr} {qual:Str} {params:Arguments} {body:Expr} {scope:Scope} {pm ctv:Value} {N ps:List Str} {l:YE} {sp:List V->Hp->VK->Prop}
  (S:cJ N ps (l.map (·.1)) scope) (hnd:l.as.Nodup) (len:∀ vs H Q,sp vs H Q->vs.length=ps.length)
  (hbody:∀ (A:Around) (outer:List Env) (s:Shared) (H:Hp) (vs:List V) (Q:VK),aP k (A.deeper (W.envX qual scope s.heap.objs.size f (.ref c) l.cl))->sp vs H Q ->
   ∃ t,PE (VE P w K mg base N qual scope f (.ref c) l.cl A outer s H) body t/\t (WU N vs l.vs) H Q) :
  aY P w K mg base cB (k+1) f (W.kla_fn "<lambda>" qual params body scope l.cl pm (.ref c) ctv) ps
   (fun vs H Q _=>Iu H f c (W.kla_fn "<lambda>" qual params body scope l.cl pm (.ref c) ctv) qual l/\sp vs (off H l.as) fun v H'=>(∀ c∈l.as,H' c=none)->Q v (on H' H l.as)):=by
 refine ⟨fun vs H Q E h=>len _ _ _ h.2,fun A outer s H args us vs Q E hr e0 hb r hsp=>?_⟩;obtain ⟨⟨hf,hc,hin⟩,hsp⟩:=hsp;have hl:=len _ _ _ hsp;have lim:s.heap.NoLimit:=e0.mod.nolimit.keeps fun b o e=>(e0.bs b o e).1
 have hfo:=(e0.hok _ _ hf).1;have hco:s.heap.CodeRec (.ref c) qual:=(e0.hok _ _ hc).1;refine W.kla_callFunE hr.depth hfo rfl S.co S.gen rfl hco (hb _ _ _ _ ?_);refine wpAny_newFunctionEnv S.ig (fun y hy=>S.par y.1 (List.of_mem_zip hy).1) (fun h₁ hns hsb=>?_) S.kind;have hk₁:∀ b o,s.heap.get? b=some o->h₁.get? b=some o:=fun b o e=>hsb.extBut b o (Nat.ne_of_lt (Heap.lt_size e)) (Heap.get?_push_of_some _ e)
 refine ⟨lim.keeps hk₁,W.kla_codeExpr ?_⟩;obtain ⟨t,ht,hq⟩:=hbody A outer s (off H l.as) vs _ (hr.deeper _) hsp;have zc:∀ b∈l.as,∃ o u,H b=some (.bH o u):=fun b hm=>by
  obtain ⟨p,hp,rfl⟩:=Xk hm;obtain ⟨o,z⟩:=hin p hp;exact ⟨o,_,z⟩
 have I:=UA (cd := .ref c) (qual:=qual) (f:=f) (tk:=s.toks+(ps.zip us).length) S hnd hr.hd e0 hl r (fun p hp=>by
  obtain ⟨o,z⟩:=hin p hp;exact (e0.hok _ _ z).2.1) (Ug e0.hok zc) hns hk₁
 have lk:=VD (l:=l) (by rw [<- S.suf];exact S.nd.sublist (List.drop_sublist _ _));refine wpAny_mono (ht [] _ _ _ _ I hq) (fun u s' hs=>?_) fun e s' hs=>hs.elim
 obtain ⟨v,H',J,rv,q⟩:=hs;exact Yf5 e0 hin J lk rv q
def Iv (X:Cx) (sp:Sp) (E:XK) (t:TA):TE:=fun σ H Q=>t σ H fun vs H1=>∃ l,XN X σ l/\((∀ c∈l.as,H1 c=none)->∀ Hz,W1 H1 Hz l->sp vs Hz (fun v H'=>Q v (off H' l.as)) fun c d H'=>E c d (off H' l.as))
theorem Yeg {g:Gx} {N:List Str} {qual:Str} {st:Stmt} {f:Addr} {cdv:Value} {A:Around} {outer:List Env} {s0:Shared} {H0:Hp} {E:XK} {j k:Nat} {x:Str} {ps:List Str} {sp:Sp} {e:Expr} {es:List Expr} {t:TA} {p pos:Pos} (F:g.eH j x ps sp) (hr:aP k (g.cI N qual st f cdv A outer s0 H0 E).A) (ha:PA (g.cI N qual st f cdv A outer s0 H0 E) (e::es) t) (hj:j<=k) (hg:Gl (g.cI N qual st f cdv A outer s0 H0 E) x) (hdb:(x==("__debug__":Str))=false)
  (he:starEach (e::es) (g.cI N qual st f cdv A outer s0 H0 E).env=(false,eval e (g.cI N qual st f cdv A outer s0 H0 E).env)::starEach es (g.cI N qual st f cdv A outer s0 H0 E).env) (hpl:(backTo pos (starEach es (g.cI N qual st f cdv A outer s0 H0 E).env)).any (·.1)=false) :
  PE (g.cI N qual st f cdv A outer s0 H0 E) (.Call (.Name x p) (e::es) [] pos) (Iv (g.cI N qual st f cdv A outer s0 H0 E) sp E t):=by
 obtain ⟨f',fd,F,b,kp,hm⟩:=F;intro pins s σ H Q I h;refine wpAny_Call_Name_kw (Wd I hg hm ?_ hdb);refine PySem.W.callWith_K (h₀:=(g.cI N qual st f cdv A outer s0 H0 E).base) I.ok.mod.eZ kp (aL (ha pos pins s σ H _ I h) fun us s1 ⟨vs,H1,I1,r,l,hc,q⟩=>⟨I1.bA,?_⟩) he hpl;exact Yef F (hr.mono hj) b rfl rfl (fun _=>rfl) (Yb4 I1) I1 hc r (q fun c hcc=>by
  obtain ⟨p,hp,rfl⟩:=Xk hcc;exact (Ip I1 hc hp).1)
theorem Gx.dI.fnX {g:Gx} {k:Nat} {x qual:Str} {st:Stmt} {N ps:List Str} {c:Addr} {sp:Sp} (R:g.dI x qual st ps c) (S:aH N ps (Yi st)) (len:∀ vs H Q E,sp vs H Q E->vs.length=ps.length)
  (b:∀ (f:Addr) (A:Around) (outer:List Env) (s:Shared) (H:Hp) (vs:List V) (Q:VK) (E:XK),aP k (g.cI N qual st f (.ref c) A outer s H E).A->sp vs H Q E ->
   ∃ t,cM (g.cI N qual st f (.ref c) A outer s H E) (YY st) t/\t { nx:=fun _ H'=>Q .non H',rt:=Q } (XA N vs) H):g.eH (k+1) x ps sp:=by
 obtain ⟨f,fd,F,bd,hm,hc⟩:=R;refine ⟨f,fd,?_,bd,F.kp,hm⟩;obtain ⟨oc,od,kV,doc,pm,an,cdv,ct,osl,rfl,lk,hcd⟩:=F.ex;have hc':cdv = .ref c:=hc;subst hc';exact wQ lk hcd S len fun A outer s H vs Q E hr h=>b f A outer s H vs Q E hr h
end L2
namespace L2
open PySem
def Kt (H H':Hp):Prop:=∀ a o,(∀ ps,o ≠ .aU ps)->H a=some o->H' a=some o
theorem Kt.trans {H H1 H2:Hp} (a:Kt H H1) (b:Kt H1 H2):Kt H H2:=fun c o n e=>b c o n (a c o n e)
theorem Yx {H H':Hp} (s:Yf H H'):Kt H H':=fun c o _ e=>s _ _ e
theorem Kt.lst {H H':Hp} (h:Kt H H') {a:Addr} {xs:List V} (e:H a=some (.lst xs)):H' a=some (.lst xs):=h a _ (by intro ps z;cases z) e
theorem Kt.tup {H H':Hp} (h:Kt H H') {a:Addr} {xs:List V} (e:H a=some (.tup xs)):H' a=some (.tup xs):=h a _ (by intro ps z;cases z) e
end L2
namespace HT
open PySem PySem.Spec PyProof.Rows
variable {prog:Program} {w:World} {A:Around} {E:Value->Shared->Prop} {s:Shared}
end HT
namespace L2
open PySem
noncomputable def sm (a b:PyData):Bool:=@decide (a=b) (Classical.propDecidable _)
abbrev Say:=Except Str PyData
def take (mk:Str) (s:Say) (f:PyData->Option α):Except Str α:=match s with
 | .error m => .error m
 | .ok d=>match f d with
  | some a => .ok a
  | none => .error mk
structure IB (n:Nat) (i:Int):Prop where
 h:i.natAbs<2^(200*2^n)
mutual
def hb:PyData->Prop
 | .list xs=>xs.length<=64/\hbs xs
 | .tuple xs=>xs.length<=64/\hbs xs
 | .str x=>x.length<=64
 | .int i=>IB 0 i
 | .none=>True
 | .bool _=>True
 | .dict _=>False
def hbs:List PyData->Prop
 | []=>True
 | d::ds=>hb d/\hbs ds
end
end L2
namespace L2
open PySem PySem.Spec PyProof.Rows
def cb:Nat->Nat
 | 0=>0
 | n+1=>1+4*cb n
def sb:Nat->Nat
 | 0=>60
 | n+1=>4*sb n+11
end L2
set_option maxHeartbeats 4000000
namespace PySem.W
open PySem PySem.Calls PyProof.Rows
section sort
variable {f:Nat->Nat->Bool} {n:Nat}
structure M9 (f:Nat->Nat->Bool) (n:Nat):Prop where
 asy:∀ i j,i<n->j<n->f i j=true->f j i=false
 tr:∀ i j k,i<n->j<n->k<n->f j i=false->f k j=false->f k i=false
variable (O:M9 f n) (h0:0<n)
include O h0
end sort
end PySem.W
set_option maxHeartbeats 4000000
set_option maxHeartbeats 4000000
set_option maxHeartbeats 4000000
set_option maxHeartbeats 4000000
set_option maxHeartbeats 4000000
set_option maxHeartbeats 4000000
set_option maxHeartbeats 4000000
set_option maxHeartbeats 4000000
set_option maxHeartbeats 4000000
namespace L2
open PySem PySem.Spec PyProof.Rows
inductive Nb (L:List (Addr×Sp)) (H:Hp) (a:Addr) (m:Str) (Q:Sp->Prop):Prop
 | mk (C:Addr) (sp:Sp) (hm:(C,sp)∈L) (dx:Addr) (fs:List (Str×V)) (h:H a=some (.ins C dx fs)) (l:fs.lookup m=none) (q:Q sp)
theorem Ym {s u:TS} {D:Ends} {σ:St} {H:Hp} (h:∀ R:St->Hp->Prop,(∀ σ' H',u D σ' H'->R σ' H')->s { D with nx:=R } σ H):UK s u D σ H:=h _ fun _ _ h=>h
def Q7 (L:List (Addr×Sp)) (m:Str) (ta:TE) (t:TA):TE:=fun σ H Q=>ta σ H fun x H1=>kR x fun a=>Nb L H1 a m fun sp=>t σ H1 fun vs H2=>sp (.ref a::vs) H2 Q E0
def Gx.ud (g:Gx) (j:Nat) (m:Str) (ps:List Str) (L:List (Addr×Sp)):Prop:=∀ C sp,(C,sp)∈L->g.Me j C m ps sp/\Cls g.K C
section
variable {X:Cx} {g:Gx} {j k:Nat} {C:Addr} {m:Str} {ps:List Str} {sp:Sp} {L:List (Addr×Sp)} {o e:Expr} {es:List Expr} {ta:TE} {t:TA} {apos pos:Pos}
theorem Iw:g.ud j m ps []:=fun _ _ h=>by cases h
theorem Vo (F:g.Me j C m ps sp) (c:Cls g.K C) (h:g.ud j m ps L):g.ud j m ps ((C,sp)::L):=fun C' sp' hm=>by
 rcases List.mem_cons.mp hm with e | hm
 ·cases e;exact ⟨F,c⟩
 ·exact h C' sp' hm
theorem Iz {pl:Sem Bool} (F:g.ud j m ps L) (hr:aP k X.A) (ho:PE X o ta) (ha:PA X (e::es) t) (hj:j<=k) (hX:X.gx=g)
  (hst:starEach (e::es) X.env=(false,eval e X.env)::starEach es X.env) (hpl:(backTo pos (starEach es X.env)).any (·.1)=false)
  (ht:eval (.Call (.Attribute o m apos) (e::es) [] pos) X.env=(do
   let ov <- eval o X.env
   standAt apos.atName
   let (f,first) <- holding [ov] (getMethod ov m pl)
   callWith pos f first (backTo pos (starEach (e::es) X.env)) (backToKw pos (keywordEach [] X.env)))):PE X (.Call (.Attribute o m apos) (e::es) [] pos) (Q7 L m ta t):=by
 subst hX;intro pins s σ H Q I h;refine PySem.W.methodCall_KW (pl:=pl) (aL (ho pins s σ H _ I h) fun u s1 ⟨x,H1,I1,rx,q⟩=>?_) ht
 replace q:=WR.mp q
 obtain ⟨a,ex,C,sp,hL,dx,fs,ea,l,q⟩:=q;subst ex;obtain rfl:u=Value.ref a:=rx;obtain ⟨⟨f,fd,F,b,hm⟩,c⟩:=F C sp hL;refine Uq I1 ea c hm l ?_;refine PySem.W.callWith_K (first:=[.ref a]) (h₀:=X.base) I.ok.mod.eZ hm.kp (aL (ha pos pins s1 σ H1 _ I1 q) fun us s2 ⟨vs,H2,I2,r,q2⟩=>⟨I2.bA,?_⟩) hst hpl;exact WC (us := .ref a::us) (vs := .ref a::vs) F (hr.mono hj) b .nil WI I2 (.cons rfl r) (by rw [List.append_nil];exact q2)
end
def EY (s:Stmt):Expr:=match s with
 | .Assign _ (.Call _ as _ _) _=>as.getLastD (.Constant .none 0 ⟨0,0,0,0⟩)
 | .Return (some (.Call _ as _ _)) _=>as.getLastD (.Constant .none 0 ⟨0,0,0,0⟩)
 | .If (.Compare (.Call _ as _ _) _ _ _) _ _ _=>as.getLastD (.Constant .none 0 ⟨0,0,0,0⟩)
 | _ => .Constant .none 0 ⟨0,0,0,0⟩
theorem Qk {X:Cx} {g:Gx} {k j:Nat} {x:Str} {p pos:Pos} (i:Nat) (hr:aP k X.A) (hj:j<=k) (hX:X.gx=g) (hN:X.N[i]?=some x) (hv:lU X.env.scope x) (hdb:(x==("__debug__":Str))=false)
  (hcd:(x==("__classdict__":Str))=false):PE X (.Call (.Name x p) [] [] pos) (Hv g j i UL):=by
 subst hX;intro pins s σ H Q I h;obtain ⟨f,ps,sp,hσ,⟨fd,F,b,kp⟩,ht⟩:=h;have ht:sp [] H Q E0:=ht;refine wpAny_Call_Name_kw (aL (Uj hN hv hdb hcd pins s σ H (fun v H1=>v = .ref f/\sp [] H1 Q E0) I (VO hσ ⟨rfl,ht⟩)) fun u s1 ⟨v,H1,I1,r,e,ht⟩=>?_);subst e;obtain rfl:u=Value.ref f:=r;refine PySem.W.callWith_K0 I1.bA kp ?_;exact WC F (hr.mono hj) b .nil WI I1 .nil (by rw [List.append_nil];exact ht)
def IK (K:W.Frag) (cv:Value) (sp:Sp) (t:TA) (ts:TS):TS:=fun D σ H=>t σ H fun vs H1=>sp (vs++[]) H1 (fun v H2=>D.nx σ H2) (fun cls _ H2=>W.exmOne K cls cv=some true/\ts D σ H2)
section
variable {g:Gx} {X:Cx} {k jj:Nat} {f c:Str} {ps:List Str} {sp:Sp} {e:Expr} {es:List Expr} {t:TA} {ts:TS} {b₀:Stmt} {suite:List Stmt} {cv:Value} {fp cp hpos apos cpos pos:Pos}
theorem Yeh (F:g.eH jj f ps sp) (hr:aP k X.A) (ha:PA X.cN (e::es) t) (hcm:g.mg c=some cv) (xV:∀ a,cM (X.caught a) (b₀::suite) ts)
  (hjk:jj<=k) (hX:X.gx=g) (hs:X.stack=X.env::X.outer) (hf:X.env.frame=some X.env.locals) (hg:Gl X f) (hc:Gl X c) (hdf:(f==("__debug__":Str))=false) (hdb:(c==("__debug__":Str))=false)
  (he:starEach (e::es) X.env=(false,eval e X.env)::starEach es X.env) (hpl:(backTo cpos (starEach es X.env)).any (·.1)=false)
  (hsw:swapsWith (.Call (.Name f fp) (e::es) [] cpos) none apos.line X.env=pure false) :
  PS X (.Try [.Expr (.Call (.Name f fp) (e::es) [] cpos) apos] [.ExceptHandler (some (.Name c cp)) none (b₀::suite) hpos] [] [] pos) (IK X.K cv sp t ts):=by
 subst hX;intro pins s σ H D I h;obtain ⟨fa,fd,F,b,kp,hm⟩:=F;refine wpAny_Try_except ?_;refine wpAny_execs_cons ?_;refine wpAny_Expr_any (aL (Q:=EP X pins σ fun v H2=>D.nx σ H2) ?_ fun v s1 hz=>?_) I.quiet hsw
 ·refine wpAny_Call_Name_kw (Wd I hg hm ?_ hdf)
  refine PySem.W.callWith_K (h₀:=X.base) I.ok.mod.eZ kp (wpAny_mono (ha cpos pins s σ H _ (I.wish _) h) (fun us s1 hz=>?_) fun _ _ z=>z.elim) he hpl;obtain ⟨vs,H1,I1,r,q⟩:=hz;have I1:=I1.cA;refine ⟨I1.bA,?_⟩;have r2:Yw (vs++[]) (us++[]):=r.append .nil;have hl:(us++[]).length=ps.length:=by rw [<- r2.length];exact F.len _ _ _ _ q
  refine wpAny_call (codeAny_mono (F.run X.A X.stack s1 H1 ⟨us,[]⟩ (us++[]) (vs++[]) _ _ (hr.mono hjk) I1.env0 (b s1 us I1.bA hl) r2 q) fun r s' hq=>?_)
  cases r with
  | error e=>exact I1.catch hs hf hq xV hc hcm hdb
  | ok fl =>
   cases fl with
   | ret u=>exact I1.after hq
   | next=>exact False.elim hq
   | brk=>exact False.elim hq
   | cont=>exact False.elim hq
 ·obtain ⟨y,H1,I1,r1,q1⟩:=hz
  exact wpAny_execs_nil (wpAny_execs_nil ⟨_,H1,I1,q1⟩)
end
end L2
set_option maxHeartbeats 8000000
namespace KW
open PySem L2
def top (i:Nat):Stmt:=PySem.Challenge.pw_countgen_k94_whole_deeds_to_rest.main.body.getD i (.Pass ⟨0,0,0,0⟩)
abbrev Uh:Stmt:=top 2
theorem Ydk:aH ["thing"] ["thing"] (Yi Uh):=⟨rfl,rfl,rfl,by decide +kernel,rfl,by decide +kernel,by decide +kernel⟩
abbrev yp:Stmt:=top 10
theorem IV:aH ["shape","kind"] ["shape"] (Yi yp):=⟨rfl,rfl,rfl,by decide +kernel,rfl,by decide +kernel,by decide +kernel⟩
abbrev yq:Stmt:=top 14
theorem Z37:aH ["thing"] ["thing"] (Yi yq):=⟨rfl,rfl,rfl,by decide +kernel,rfl,by decide +kernel,by decide +kernel⟩
abbrev yr:Stmt:=top 15
theorem yt:aH ["branches","mark","place","branch"] ["branches","mark"] (Yi yr):=⟨rfl,rfl,rfl,by decide +kernel,rfl,by decide +kernel,by decide +kernel⟩
abbrev yu:Stmt:=top 16
theorem YaC:aH ["branches","value"] ["branches","value"] (Yi yu):=⟨rfl,rfl,rfl,by decide +kernel,rfl,by decide +kernel,by decide +kernel⟩
abbrev yw:Stmt:=top 17
theorem IW:aH ["shape","value","kind"] ["shape","value"] (Yi yw):=⟨rfl,rfl,rfl,by decide +kernel,rfl,by decide +kernel,by decide +kernel⟩
abbrev yC:Stmt:=top 18
theorem Ja:aH ["book","shape","value","kind"] ["book","shape","value"] (Yi yC):=⟨rfl,rfl,rfl,by decide +kernel,rfl,by decide +kernel,by decide +kernel⟩
abbrev yD:Stmt:=top 19
theorem Z3T:aH ["keys"] ["keys"] (Yi yD):=⟨rfl,rfl,rfl,by decide +kernel,rfl,by decide +kernel,by decide +kernel⟩
abbrev yE:Stmt:=top 25
theorem yF:aH ["shape","keys","kind","size","rises"] ["shape","keys"] (Yi yE):=⟨rfl,rfl,rfl,by decide +kernel,rfl,by decide +kernel,by decide +kernel⟩
abbrev yG:Stmt:=top 26
theorem Jb:aH ["shape","value","keys","kind"] ["shape","value","keys"] (Yi yG):=⟨rfl,rfl,rfl,by decide +kernel,rfl,by decide +kernel,by decide +kernel⟩
abbrev yH:Stmt:=top 27
theorem oW:aH ["book","shape","value","keys","part","thing","key"] ["book","shape","value"] (Yi yH):=⟨rfl,rfl,rfl,by decide +kernel,rfl,by decide +kernel,by decide +kernel⟩
abbrev Q8:Stmt:=top 30
theorem Yfy:aH ["one","other"] ["one","other"] (Yi Q8):=⟨rfl,rfl,rfl,by decide +kernel,rfl,by decide +kernel,by decide +kernel⟩
abbrev yI:Stmt:=top 31
theorem YaD:aH ["thing"] ["thing"] (Yi yI):=⟨rfl,rfl,rfl,by decide +kernel,rfl,by decide +kernel,by decide +kernel⟩
abbrev yJ:Stmt:=top 32
theorem Yb5:aH ["thing"] ["thing"] (Yi yJ):=⟨rfl,rfl,rfl,by decide +kernel,rfl,by decide +kernel,by decide +kernel⟩
abbrev yK:Stmt:=top 33
theorem Yb6:aH ["thing"] ["thing"] (Yi yK):=⟨rfl,rfl,rfl,by decide +kernel,rfl,by decide +kernel,by decide +kernel⟩
abbrev U3:Stmt:=top 35
theorem ZY:aH ["begin","done","model_begin","model_done","deeds","state","model_state","place","deed","pair","model_pair"] ["begin","done","model_begin","model_done","deeds"] (Yi U3):=⟨rfl,rfl,rfl,by decide +kernel,rfl,by decide +kernel,by decide +kernel⟩
abbrev uf:Stmt:=top 36
theorem Qv:aH ["begin","done","model_begin","model_done"] ["begin","done","model_begin","model_done"] (Yi uf):=⟨rfl,rfl,rfl,by decide +kernel,rfl,by decide +kernel,by decide +kernel⟩
abbrev yL:Stmt:=top 38
theorem Jc:aH ["book","shape","value","key"] ["book","shape","value"] (Yi yL):=⟨rfl,rfl,rfl,by decide +kernel,rfl,by decide +kernel,by decide +kernel⟩
abbrev Q9:Stmt:=top 39
theorem Yfz:aH ["book","shape","value"] ["book","shape","value"] (Yi Q9):=⟨rfl,rfl,rfl,by decide +kernel,rfl,by decide +kernel,by decide +kernel⟩
abbrev yM:Stmt:=top 40
theorem Z3b:aH ["book","shape","value"] ["book","shape","value"] (Yi yM):=⟨rfl,rfl,rfl,by decide +kernel,rfl,by decide +kernel,by decide +kernel⟩
abbrev yN:Stmt:=top 41
theorem Yb7:aH ["book","shape","value"] ["book","shape","value"] (Yi yN):=⟨rfl,rfl,rfl,by decide +kernel,rfl,by decide +kernel,by decide +kernel⟩
abbrev yO:Stmt:=top 56
theorem Z3y:aH ["size"] ["size"] (Yi yO):=⟨rfl,rfl,rfl,by decide +kernel,rfl,by decide +kernel,by decide +kernel⟩
abbrev U4:Stmt:=top 68
theorem Yei:aH ["judge","value"] ["judge","value"] (Yi U4):=⟨rfl,rfl,rfl,by decide +kernel,rfl,by decide +kernel,by decide +kernel⟩
abbrev yP:Stmt:=top 70
theorem Jd:aH ["maker","below","size"] ["maker","below"] (Yi yP):=⟨rfl,rfl,rfl,by decide +kernel,rfl,by decide +kernel,by decide +kernel⟩
abbrev yQ:Stmt:=top 72
theorem ug:aH ["low","value","steps","distance"] ["low","value"] (Yi yQ):=⟨rfl,rfl,rfl,by decide +kernel,rfl,by decide +kernel,by decide +kernel⟩
abbrev yR:Stmt:=top 73
theorem Z3U:aH ["things"] ["things"] (Yi yR):=⟨rfl,rfl,rfl,by decide +kernel,rfl,by decide +kernel,by decide +kernel⟩
abbrev yS:Stmt:=top 74
theorem ZK:aH ["things","inner","changed","place","steps"] ["things","inner"] (Yi yS):=⟨rfl,rfl,rfl,by decide +kernel,rfl,by decide +kernel,by decide +kernel⟩
abbrev yU:Stmt:=top 77
theorem YaE:aH ["book","shape","value"] ["book","shape","value"] (Yi yU):=⟨rfl,rfl,rfl,by decide +kernel,rfl,by decide +kernel,by decide +kernel⟩
abbrev yV:Stmt:=top 79
theorem Je:aH ["judge","values","value"] ["judge","values"] (Yi yV):=⟨rfl,rfl,rfl,by decide +kernel,rfl,by decide +kernel,by decide +kernel⟩
abbrev yW:Stmt:=top 80
theorem uh:aH ["judge","value","values_next","breaches","reached"] ["judge","value","values_next"] (Yi yW):=⟨rfl,rfl,rfl,by decide +kernel,rfl,by decide +kernel,by decide +kernel⟩
abbrev yX:Stmt:=top 82
theorem VW:aH ["deeds","told","length"] ["deeds"] (Yi yX):=⟨rfl,rfl,rfl,by decide +kernel,rfl,by decide +kernel,by decide +kernel⟩
abbrev ZN:Stmt:=top 83
theorem yZ:aH ["book","shape","begin","done","model_begin","model_done","deeds","many","judge"] ["book","shape","begin","done","model_begin","model_done","deeds"] (Yi ZN):=⟨rfl,rfl,rfl,by decide +kernel,rfl,by decide +kernel,by decide +kernel⟩
abbrev za:Stmt:=top 85
theorem Z45:aH ["_law_script","_law_k"] ["_law_script","_law_k"] (Yi za):=⟨rfl,rfl,rfl,by decide +kernel,rfl,by decide +kernel,by decide +kernel⟩
abbrev zf:Stmt:=top 86
theorem Yab:aH [] [] (Yi zf):=⟨rfl,rfl,rfl,by decide +kernel,rfl,by decide +kernel,by decide +kernel⟩
abbrev zj:Stmt:=top 87
theorem Yac:aH ["_law_state","_law_deed"] ["_law_state","_law_deed"] (Yi zj):=⟨rfl,rfl,rfl,by decide +kernel,rfl,by decide +kernel,by decide +kernel⟩
abbrev um:Stmt:=top 88
theorem Jf:aH ["_law_slip","_law_bound","_law_low","_law_done"] ["_law_slip","_law_bound","_law_low"] (Yi um):=⟨rfl,rfl,rfl,by decide +kernel,rfl,by decide +kernel,by decide +kernel⟩
abbrev zm:Stmt:=top 89
theorem Qw:aH ["_law_one","_law_other"] ["_law_one","_law_other"] (Yi zm):=⟨rfl,rfl,rfl,by decide +kernel,rfl,by decide +kernel,by decide +kernel⟩
abbrev zp:Stmt:=top 90
theorem ZD:aH ["_law_done","_law_deeds","_law_here","_law_there","_law_k","_law_one","_law_other"] ["_law_done","_law_deeds"] (Yi zp):=⟨rfl,rfl,rfl,by decide +kernel,rfl,by decide +kernel,by decide +kernel⟩
abbrev zq:Stmt:=top 91
theorem oX:aH ["_law_book","_law_shape","_law_deeds","_law_some","_law_size","_law_k"] ["_law_book","_law_shape","_law_deeds"] (Yi zq):=⟨rfl,rfl,rfl,by decide +kernel,rfl,by decide +kernel,by decide +kernel⟩
abbrev zu:Stmt:=top 92
theorem oY:aH ["_law_book","_law_shape","_law_done","_law_found","_law_k","_law_first","_law_one"] ["_law_book","_law_shape","_law_done","_law_found"] (Yi zu):=⟨rfl,rfl,rfl,by decide +kernel,rfl,by decide +kernel,by decide +kernel⟩
abbrev zx:Stmt:=top 93
theorem Z46:aH ["_law_book","_law_shape","_law_done","_law_deeds"] ["_law_book","_law_shape","_law_done","_law_deeds"] (Yi zx):=⟨rfl,rfl,rfl,by decide +kernel,rfl,by decide +kernel,by decide +kernel⟩
abbrev zy:Stmt:=top 94
theorem ZO:aH ["_law_book","_law_shape","_law_done","_law_deeds","_law_holds","_law_way_here","_law_one","_law_told"] ["_law_book","_law_shape","_law_done","_law_deeds","_law_holds"] (Yi zy):=⟨rfl,rfl,rfl,by decide +kernel,rfl,by decide +kernel,by decide +kernel⟩
abbrev QE:Stmt:=top 95
theorem Xg:aH ["_law_script","_law_low","_law_slip","_law_done","_law_marks","_law_turn","_law_shape","_law_book","_law_deeds","_law_left","_law_first","_law_cell","_law_far","_law_kept","_law_due","_law_found","_law_holds","_law_answer"] ["_law_script"] (Yi QE):=⟨rfl,rfl,rfl,by decide +kernel,rfl,by decide +kernel,by decide +kernel⟩
abbrev zA:Stmt:=Xc (top 66) 0
theorem Z3f:aH ["self","book"] ["self","book"] (Yi zA):=⟨rfl,rfl,rfl,by decide +kernel,rfl,by decide +kernel,by decide +kernel⟩
abbrev zB:Stmt:=Xc (top 66) 1
theorem Z3g:aH ["self","shape"] ["self","shape"] (Yi zB):=⟨rfl,rfl,rfl,by decide +kernel,rfl,by decide +kernel,by decide +kernel⟩
abbrev zE:Stmt:=Xc (top 66) 3
theorem zF:aH ["self","shape","kind","parts"] ["self","shape"] (Yi zE):=⟨rfl,rfl,rfl,by decide +kernel,rfl,by decide +kernel,by decide +kernel⟩
abbrev ZP:Stmt:=Xc (top 57) 0
theorem Z1R:aH ["self","low","high"] ["self","low","high"] (Yi ZP):=⟨rfl,rfl,rfl,by decide +kernel,rfl,by decide +kernel,by decide +kernel⟩
abbrev ZQ:Stmt:=Xc (top 57) 1
theorem Jg:aH ["self","size","greatest"] ["self","size"] (Yi ZQ):=⟨rfl,rfl,rfl,by decide +kernel,rfl,by decide +kernel,by decide +kernel⟩
abbrev ZR:Stmt:=Xc (top 57) 2
theorem Z1S:aH ["self","size","number"] ["self","size","number"] (Yi ZR):=⟨rfl,rfl,rfl,by decide +kernel,rfl,by decide +kernel,by decide +kernel⟩
abbrev zG:Stmt:=Xc (top 52) 0
theorem Z2s:aH ["self","parts"] ["self","parts"] (Yi zG):=⟨rfl,rfl,rfl,by decide +kernel,rfl,by decide +kernel,by decide +kernel⟩
abbrev zH:Stmt:=Xc (top 52) 1
theorem Z2N:aH ["self","place","left"] ["self","place","left"] (Yi zH):=⟨rfl,rfl,rfl,by decide +kernel,rfl,by decide +kernel,by decide +kernel⟩
abbrev zJ:Stmt:=Xc (top 52) 2
theorem Jh:aH ["self","size","place"] ["self","size"] (Yi zJ):=⟨rfl,rfl,rfl,by decide +kernel,rfl,by decide +kernel,by decide +kernel⟩
abbrev zK:Stmt:=Xc (top 59) 0
theorem Z2t:aH ["self","parts"] ["self","parts"] (Yi zK):=⟨rfl,rfl,rfl,by decide +kernel,rfl,by decide +kernel,by decide +kernel⟩
abbrev zL:Stmt:=Xc (top 59) 1
theorem Z2u:aH ["self","size"] ["self","size"] (Yi zL):=⟨rfl,rfl,rfl,by decide +kernel,rfl,by decide +kernel,by decide +kernel⟩
abbrev zM:Stmt:=Xc (top 59) 2
theorem Zs:aH ["self","size","number","things","left","rest","place","part","found"] ["self","size","number"] (Yi zM):=⟨rfl,rfl,rfl,by decide +kernel,rfl,by decide +kernel,by decide +kernel⟩
abbrev zN:Stmt:=Xc (top 76) 0
theorem Z2O:aH ["self","book"] ["self","book"] (Yi zN):=⟨rfl,rfl,rfl,by decide +kernel,rfl,by decide +kernel,by decide +kernel⟩
abbrev ZZ:Stmt:=Xc (top 76) 1
theorem ZE:aH ["self","shape","value","inner","part","thing"] ["self","shape","value"] (Yi ZZ):=⟨rfl,rfl,rfl,by decide +kernel,rfl,by decide +kernel,by decide +kernel⟩
abbrev zO:Stmt:=Xc (top 76) 2
theorem zP:aH ["self","shape","value","inner","kind","steps"] ["self","shape","value","inner"] (Yi zO):=⟨rfl,rfl,rfl,by decide +kernel,rfl,by decide +kernel,by decide +kernel⟩
abbrev ZI:Stmt:=Xc (top 76) 3
theorem Zq:aH ["self","shape","value","below","steps","mark","part","least"] ["self","shape","value"] (Yi ZI):=⟨rfl,rfl,rfl,by decide +kernel,rfl,by decide +kernel,by decide +kernel⟩
abbrev zQ:Stmt:=Xc (top 55) 0
theorem Z3z:aH ["self"] ["self"] (Yi zQ):=⟨rfl,rfl,rfl,by decide +kernel,rfl,by decide +kernel,by decide +kernel⟩
abbrev ZS:Stmt:=Xc (top 55) 1
theorem Z1T:aH ["self","size"] ["self","size"] (Yi ZS):=⟨rfl,rfl,rfl,by decide +kernel,rfl,by decide +kernel,by decide +kernel⟩
abbrev zR:Stmt:=Xc (top 55) 1
theorem Z2v:aH ["self","size"] ["self","size"] (Yi zR):=⟨rfl,rfl,rfl,by decide +kernel,rfl,by decide +kernel,by decide +kernel⟩
abbrev uo:Expr:=M8 (yj uf 0)
theorem Z3A:cJ ["deeds","model_done","model_begin","done","begin"] ["deeds"] ["model_done","model_begin","done","begin"] (Vn uo):=⟨rfl,rfl,rfl,by decide +kernel,rfl,rfl,by decide,by decide +kernel,by decide +kernel,by decide +kernel,by decide +kernel⟩
abbrev Zy:Str:="deed_judge.<locals>.<lambda>"
theorem V2:((("deed_judge":Str)++(".<locals>.":Str))++("<lambda>":Str))=Zy:=by decide +kernel
abbrev ZL (cl:List (Str×Addr)) (c:Addr) (pm ctv:Value):FuncData:=W.kla_fn "<lambda>" Zy (Ig uo) (Ih uo) (Vn uo) cl pm (.ref c) ctv
abbrev ZH:Expr:=EY (yj ZN 3)
theorem Z2P:cJ ["breach","many","book"] ["breach"] ["many","book"] (Vn ZH):=⟨rfl,rfl,rfl,by decide +kernel,rfl,rfl,by decide,by decide +kernel,by decide +kernel,by decide +kernel,by decide +kernel⟩
abbrev Zv:Str:="shrunk_deeds.<locals>.<lambda>"
theorem Vu:((("shrunk_deeds":Str)++(".<locals>.":Str))++("<lambda>":Str))=Zv:=by decide +kernel
abbrev Zx (cl:List (Str×Addr)) (c:Addr) (pm ctv:Value):FuncData:=W.kla_fn "<lambda>" Zv (Ig ZH) (Ih ZH) (Vn ZH) cl pm (.ref c) ctv
abbrev ZF:Stmt:=yj um 0
theorem Ji:cJ ["_law_state","_law_deed","_law_many","_law_slip","_law_low","_law_bound"] ["_law_state","_law_deed"] ["_law_slip","_law_low","_law_bound"] (Yi ZF):=⟨rfl,rfl,rfl,by decide +kernel,rfl,rfl,by decide,by decide +kernel,by decide +kernel,by decide +kernel,by decide +kernel⟩
abbrev Zw:Str:="_law_thing.<locals>._law_done"
theorem W8:((("_law_thing":Str)++(".<locals>.":Str))++("_law_done":Str))=Zw:=by decide +kernel
abbrev ZB (cl:List (Str×Addr)) (c:Addr) (doc pm ctv:Value):FuncData:=W.fnX "_law_done" Zw (Xf ZF) (YY ZF) (Yi ZF) cl .none .none doc pm none (.ref c) ctv
variable {g:Gx}
local macro_rules | `(tactic| walk_at "rd")=>`(tactic| (dsimp (config:={ failIfUnchanged:=false }) only [L2.XA,G5,G6,List.map_cons,List.map_nil,List.length_cons,List.length_nil,List.cons_append,List.nil_append,List.replicate_succ,List.replicate_zero,Nat.reduceAdd,Nat.reduceSub,UK,QH,Uo,iY,tC,UI,gj,rI,rU,wF,qN,FT,wz,Uk,FP,FQ,QJ,YT,wN,UL,mq,WY,xW,Hu,QY,qY,qX,QB,QA,Ends.gone,tB,qK,wg,qL,wj,qM,wk,wu,QM,UM,wR,wU,QI,wC,rA,sV,tu,rz,qZ,qP,rH,xU,xP,Hh,GK,GF,GJ,HF,xY,HJ,Q7,HB,xO,Hg,wX,wY,rD,UO,QR,oK,wI,rF,wW,qQ,Ga,YN,List.getD_cons_zero,List.getD_cons_succ,List.getElem?_cons_zero,List.getElem?_cons_succ,List.set_cons_zero,List.set_cons_succ,Fy,Fz,Fq,Ft,Fv,Fw,Fx,rB,xG,wL,wM,Gh,Gi];simp (config:={ failIfUnchanged:=false,maxSteps:=10000000 }) only [L2.XA,G5,G6,List.map_cons,List.map_nil,List.length_cons,List.length_nil,List.cons_append,List.nil_append,List.replicate_succ,List.replicate_zero,Nat.zero_add,Nat.reduceAdd,Nat.reduceSub,Nat.sub_self,UK,QH,Uo,iY,tC,UI,gj,rI,rU,wF,qN,FT,wz,Uk,FP,FQ,QJ,YT,wB,FZ,wN,UL,mq,WY,xW,Hu,QY,qY,qX,QB,QA,Ends.gone,T9,tB,qK,wg,qL,wj,qM,wk,wu,QM,UM,wR,wU,QI,wC,rA,sV,tu,rz,qZ,qP,rH,xU,xP,Hh,GK,GF,GJ,HF,xY,HJ,Q7,HB,xO,Hg,wX,wY,rD,UO,QR,oK,wI,RP,RQ,rF,wW,qQ,Ga,YN,List.getD_cons_zero,List.getD_cons_succ,decide_true,not_true_eq_false,not_false_eq_true,exists_eq_left',exists_eq_left,exists_eq',exists_eq,exists_and_left,and_assoc,Option.some.injEq,V.int.injEq,V.bl.injEq,V.ref.injEq,V.str.injEq,List.getElem?_cons_zero,List.getElem?_cons_succ,List.set_cons_zero,List.set_cons_succ,List.cons.injEq,and_true,true_and,List.append_nil,decide_eq_true_eq,Bool.not_eq_true',decide_eq_false_iff_not,Bool.not_not,Bool.not_true,Bool.not_false,Bool.true_eq_false,Bool.false_eq_true,if_true,if_false,ite_true,ite_false,Fy,Fz,Fq,Ft,Fv,Fw,Fx,rB,xG,wL,wM,Gh,Gi,UH,V8,WR,wH]))
theorem zT {i j:Int} (h:0<=j/\j<=1000000/\i.natAbs<2^64:=by decide):qU i j:=h
theorem few {n:Nat} (h:n<=100000):n<=sizeLine:=Nat.le_trans h (by decide)
inductive Dd
 | put (o:Nat)
 | take
 | cg
def mG (o:Nat):Nat:=Builtin.Int.intBits (o:Int)
def bC:Dd->Nat
 | .put o=>mG o
 | _=>0
def bN:Dd->Prop
 | .put o=>o<=200
 | _=>True
def bw (xs:List Dd):Nat:=xs.length+(xs.map bC).sum
def bB:Nat->Str
 | 0=>"put"
 | 1=>"take"
 | _=>"count"
def dk:Dd->Nat
 | .put _=>0
 | .take=>1
 | .cg=>2
def cQ (tn k:Nat):Nat:=(k+3 - tn)%3
def Y1 (H:Hp) (lo:Int) (v:V):Dd->Prop
 | .put o=>∃ a,v = .ref a/\H a=some (.tup [.str (bB 0),.int (lo+o)])
 | .take=>∃ a b,v = .ref a/\H a=some (.tup [.str (bB 1),.ref b])/\H b=some (.tup [])
 | .cg=>∃ a b,v = .ref a/\H a=some (.tup [.str (bB 2),.ref b])/\H b=some (.tup [])
def Tp (H H':Hp):Prop:=∀ b xs,H b=some (.tup xs)->H' b=some (.tup xs)
theorem YR {H H':Hp} (k:Kt H H'):Tp H H':=fun _ _ e=>k.tup e
theorem Tp.trans {H H1 H2:Hp} (a:Tp H H1) (b:Tp H1 H2):Tp H H2:=fun c o e=>b c o (a c o e)
theorem Ws {H:Hp} {p:Addr} {xs ys:List V} (h:H p=some (.lst xs)):Tp H (upd H p (.lst ys)):=fun b zs e=>by rw [Yg (YG e h (by intro z;cases z))];exact e
theorem Y1.tp {H H':Hp} (k:Tp H H') {lo:Int} {v:V} {x:Dd} (h:Y1 H lo v x):Y1 H' lo v x:=by
 cases x with
 | put o=>obtain ⟨a,e,h⟩:=h;exact ⟨a,e,k _ _ h⟩
 | take=>obtain ⟨a,b,e,h,h2⟩:=h;exact ⟨a,b,e,k _ _ h,k _ _ h2⟩
 | cg=>obtain ⟨a,b,e,h,h2⟩:=h;exact ⟨a,b,e,k _ _ h,k _ _ h2⟩
theorem Y1.kt {H H':Hp} (k:Kt H H') {lo:Int} {v:V} {x:Dd} (h:Y1 H lo v x):Y1 H' lo v x:=h.tp (YR k)
inductive Sd
 | wh | bD | pk | aR
 deriving DecidableEq
def jV:Nat->Sd
 | 0 => .wh
 | _ => .bD
def Y0 (H:Hp) (lo:Int) (a:Addr) (k:Nat):Prop:=if k=0 then H a=some (.tup [.str "whole",.int lo,.int (lo+200)]) else ∃ b,H a=some (.tup [.str "row",.ref b])/\H b=some (.tup [])
structure c7 (H:Hp) (lo:Int) (tn:Nat) (b c0 c1 c2 p0 p1 p2:Addr):Prop where
 t3:tn<3
 b:H b=some (.tup [.ref c0,.ref c1,.ref c2])
 c0:H c0=some (.tup [.str (bB (tn%3)),.ref p0])
 c1:H c1=some (.tup [.str (bB ((tn+1)%3)),.ref p1])
 c2:H c2=some (.tup [.str (bB ((tn+2)%3)),.ref p2])
 p0:Y0 H lo p0 (tn%3)
 p1:Y0 H lo p1 ((tn+1)%3)
 p2:Y0 H lo p2 ((tn+2)%3)
def Y9 (H:Hp) (lo:Int) (tn:Nat) (a:Addr):Sd->Prop
 | .wh=>Y0 H lo a 0
 | .bD=>Y0 H lo a 1
 | .pk=>∃ b c0 c1 c2 p0 p1 p2,H a=some (.tup [.str "pick",.ref b])/\c7 H lo tn b c0 c1 c2 p0 p1 p2
 | .aR=>∃ e b c0 c1 c2 p0 p1 p2,H a=some (.tup [.str "many",.ref e])/\H e=some (.tup [.str "pick",.ref b])/\c7 H lo tn b c0 c1 c2 p0 p1 p2
theorem Y0.tp {H H':Hp} (k:Tp H H') {lo:Int} {a:Addr} {n:Nat} (h:Y0 H lo a n):Y0 H' lo a n:=by
 unfold Y0 at h ⊢
 split at h
 ·rename_i c;rw [if_pos c];exact k _ _ h
 ·rename_i c;rw [if_neg c];obtain ⟨b,h1,h2⟩:=h;exact ⟨b,k _ _ h1,k _ _ h2⟩
theorem c7.tp {H H':Hp} (k:Tp H H') {lo:Int} {tn:Nat} {b c0 c1 c2 p0 p1 p2:Addr} (h:c7 H lo tn b c0 c1 c2 p0 p1 p2):c7 H' lo tn b c0 c1 c2 p0 p1 p2:=⟨h.t3,k _ _ h.b,k _ _ h.c0,k _ _ h.c1,k _ _ h.c2,h.p0.tp k,h.p1.tp k,h.p2.tp k⟩
theorem Y9.tp {H H':Hp} (k:Tp H H') {lo:Int} {tn:Nat} {a:Addr} {s:Sd} (h:Y9 H lo tn a s):Y9 H' lo tn a s:=by
 cases s with
 | wh=>exact Y0.tp k h
 | bD=>exact Y0.tp k h
 | pk=>obtain ⟨b,c0,c1,c2,p0,p1,p2,h1,h2⟩:=h;exact ⟨b,c0,c1,c2,p0,p1,p2,k _ _ h1,h2.tp k⟩
 | aR=>obtain ⟨e,b,c0,c1,c2,p0,p1,p2,h0,h1,h2⟩:=h;exact ⟨e,b,c0,c1,c2,p0,p1,p2,k _ _ h0,k _ _ h1,h2.tp k⟩
theorem c7.kt {H H':Hp} (k:Kt H H') {lo:Int} {tn:Nat} {b c0 c1 c2 p0 p1 p2:Addr} (h:c7 H lo tn b c0 c1 c2 p0 p1 p2):c7 H' lo tn b c0 c1 c2 p0 p1 p2:=h.tp (YR k)
theorem Y9.kt {H H':Hp} (k:Kt H H') {lo:Int} {tn:Nat} {a:Addr} {s:Sd} (h:Y9 H lo tn a s):Y9 H' lo tn a s:=h.tp (YR k)
inductive Vx (H:Hp) (lo:Int):Sd->V->Nat->Prop
 | wh (o:Nat) (h:o<=200):Vx H lo .wh (.int (lo+o)) (mG o)
 | bD (b:Addr) (h:H b=some (.tup [])):Vx H lo .bD (.ref b) 0
 | pk (v:V) (x:Dd) (h:Y1 H lo v x) (k:bN x):Vx H lo .pk v (bC x)
 | aR (D:Addr) (us:List V) (xs:List Dd) (h:H D=some (.lst us)) (l:us.length=xs.length) (hl:xs.length<=100) (h2:∀ (i:Nat) u x,us[i]?=some u->xs[i]?=some x->Y1 H lo u x/\bN x):Vx H lo .aR (.ref D) (bw xs)
def dR:Sd->Nat
 | .wh=>1 | .bD=>1 | .pk=>2 | .aR=>3
theorem Vx.tp {H H':Hp} (k:Tp H H') {lo:Int} {s:Sd} {v:V} {n:Nat} (h:Vx H lo s v n) (hs:s ≠ .aR):Vx H' lo s v n:=by
 cases h with
 | wh o h=>exact .wh o h
 | bD b h=>exact .bD b (k _ _ h)
 | pk v x h kx=>exact .pk v x (h.tp k) kx
 | aR=>exact absurd rfl hs
theorem Vx.kt {H H':Hp} (k:Kt H H') {lo:Int} {s:Sd} {v:V} {n:Nat} (h:Vx H lo s v n):Vx H' lo s v n:=by
 cases h with
 | wh o h=>exact .wh o h
 | bD b h=>exact .bD b (k.tup h)
 | pk v x h kx=>exact .pk v x (h.kt k) kx
 | aR D us xs h l hl h2=>exact .aR D us xs (k.lst h) l hl fun i u x e1 e2=>⟨(h2 i u x e1 e2).1.kt k,(h2 i u x e1 e2).2⟩
theorem Jj:∀ i<3,∀ j<3,bB i=bB j->i=j:=by decide +kernel
theorem aX {x y:Str} {i:Nat} {t rest:TS} {D:Ends} {σ:St} {H:Hp} (hσ:σ[i]?=some (some (.str x))) (h:¬ x=y) (hr:rest D σ H):UK (QH (Uo (iY oK (UI i) (tC (.str y)))) t Uk) rest D σ H:=by
 refine VO hσ ?_
 show if decide (x=y)=true then _ else _
 rw [if_neg (by simpa using h)];exact hr
theorem dM {x y:Str} {i:Nat} {t rest:TS} {D:Ends} {σ:St} {H:Hp} (hσ:σ[i]?=some (some (.str x))) (h:x=y) (ht:t { D with nx:=rest D } σ H):UK (QH (Uo (iY oK (UI i) (tC (.str y)))) t Uk) rest D σ H:=by
 refine VO hσ ?_
 show if decide (x=y)=true then _ else _
 rw [if_pos (by simpa using h)];exact ht
section
 variable {H:Hp} {lo:Int} {tn:Nat} {b c0 c1 c2 p0 p1 p2:Addr}
theorem c7.get (h:c7 H lo tn b c0 c1 c2 p0 p1 p2) {i:Nat} (hi:i<3):∃ c p,([.ref c0,.ref c1,.ref c2]:List V)[i]?=some (.ref c)/\H c=some (.tup [.str (bB ((tn+i)%3)),.ref p])/\Y0 H lo p ((tn+i)%3):=by
 match i,hi with
 | 0,_=>exact ⟨c0,p0,rfl,h.c0,h.p0⟩
 | 1,_=>exact ⟨c1,p1,rfl,h.c1,h.p1⟩
 | 2,_=>exact ⟨c2,p2,rfl,h.c2,h.p2⟩
end
inductive An
 | non
 | int (i:Int)
 | str (s:Str)
def An.v:An->V
 | .non => .non
 | .int i => .int i
 | .str s => .str s
def An.isI:An->Bool
 | .int _=>true
 | _=>false
def An.oZ:An->Bool
 | .str _=>true
 | _=>false
inductive dN (p:An->Bool) (vs:List V) (H:Hp) (Q:VK) (E_:XK):Prop
 | mk (a:An) (h0:vs=[a.v]) (h1:Q (.bl (p a)) H)
def zU:Sp:=dN An.isI
theorem Z3h {Z4 Z5 Z1 Z2 Z3 Z0:Addr} {aq ao:Addr} {ak aj:Addr} {aA au:Addr} (R:g.Raw "is_whole_number" "is_whole_number" yq ["thing"]) (bW:g.mg "bool"=none) (cG:g.mg "int"=none) (Z6:g.mg "isinstance"=none):g.Fn (1) "is_whole_number" ["thing"] (zU):=by
 refine R.fn Z37 (fun vs H Q E h=>by obtain ⟨a,rfl,q⟩:=h;rfl) fun f_ cdv A outer s H vs Q E hr h=>?_
 obtain ⟨a,rfl,q⟩:=h;refine ⟨_,(@Ye _ _ _ (@Yn _ _ _ _ (@XS _ _ _ _ _ _ _ (@YH _ _ _ _ _ _ _ _ _ _ Z6 YK (@Ya _ _ _ _ _ (pv 0) (@Ya _ _ _ _ _ (@Xq _ _ _ _ ("int") cG (by decide +kernel) (by rfl) (by rfl) (by decide) (by decide)) Yb (by rfl)) (by rfl)) (by decide +kernel) (by rfl) (by rfl) (by decide) (by decide) (by rfl) (by rfl)) (@XB _ _ _ _ _ (@Ob _ _ _ _ (@YH _ _ _ _ _ _ _ _ _ _ Z6 YK (@Ya _ _ _ _ _ (pv 0) (@Ya _ _ _ _ _ (@Xq _ _ _ _ ("bool") bW (by decide +kernel) (by rfl) (by rfl) (by decide) (by decide)) Yb (by rfl)) (by rfl)) (by decide +kernel) (by rfl) (by rfl) (by decide) (by decide) (by rfl) (by rfl))))))),?_⟩;walk_at "rd"
 cases a with
 | non=>exact ⟨_,rfl,_,.non,false,rfl,q⟩
 | int i=>exact ⟨_,rfl,_,.int i,true,rfl,tE ⟨_,rfl,_,.int i,false,rfl,q⟩⟩
 | str z=>exact ⟨_,rfl,_,.str z,false,rfl,q⟩
inductive iu (vs:List V) (H:Hp) (Q:VK) (E_:XK):Prop
 | mk (lo:Int) (tn k:Nat) (b c0 c1 c2 p0 p1 p2:Addr) (h0:vs=[.ref b,.str (bB k)]) (h1:c7 H lo tn b c0 c1 c2 p0 p1 p2) (h2:k<3) (h3:∀ H',Yf H H'->Q (.int (cQ tn k:Nat)) H')
theorem Z3V {Z4 Z5 Z1 Z2 Z3 Z0:Addr} {aq ao:Addr} {ak aj:Addr} {aA au:Addr} (R:g.Raw "branch_place" "branch_place" yr ["branches","mark"]) (Zp:g.mg "enumerate"=none):g.Fn (1) "branch_place" ["branches","mark"] (iu):=by
 refine R.fn yt (fun vs H Q E h=>by obtain ⟨lo,tn,k,b,c0,c1,c2,p0,p1,p2,rfl,hP,hk,q⟩:=h;rfl) fun f_ cdv A outer s H vs Q E hr h=>?_
 obtain ⟨lo,tn,k,b,c0,c1,c2,p0,p1,p2,rfl,hP,hk,q⟩:=h;refine ⟨_,(@Yd _ _ _ _ _ (@Xo _ _ _ _ _ _ _ _ PassesOwn.never rfl (@TY _ _ _ _ _ _ _ _ rfl Zp (@Ya _ _ _ _ _ (pv 0) Yb (by rfl)) (by rfl)) (@Wl _ _ _ _ _ (2) rfl (@Y5 _ _ _ _ _ (@Yz _ _ (2) _ yt.nd rfl (.inl rfl) (by first | exact .inl rfl | exact .inr rfl | assumption)) (@Y5 _ _ _ _ _ (@Yz _ _ (3) _ yt.nd rfl (.inl rfl) (by first | exact .inl rfl | exact .inr rfl | assumption)) XZ (by rfl)) (by rfl)) (by rfl) (by rfl)) (@Ye _ _ _ (@Yu _ _ _ _ _ _ _ _ (@Yo _ _ _ _ _ _ _ _ YJ (@Ys _ _ _ _ _ _ _ YD (pv 3) Yh (fun _ _=>rfl)) (pv 1) (Yl _)) (@Ye _ _ _ (@Yn _ _ _ _ (pv 2))) Yq)) (by intro _;rfl)) (@Ye _ _ _ YB)),?_⟩;have t3:=hP.t3;walk_at "rd";refine T4 (K:=g.K) (xs:=[.ref c0,.ref c1,.ref c2]) (fun i σ H'=>∃ o2 o3,σ=[some (.ref b),some (.str (bB k)),o2,o3]/\Yf H H'/\i<=cQ tn k) (fun R r=>by walk_at "rd";exact r) ⟨_,_,rfl,.refl H,Nat.zero_le _⟩ (fun i σ H' hi ⟨o2,o3,_,sm,_⟩=>aJ.of (sm _ _ hP.b)) ?_ ?_
 ·rintro i v σ H' T hv ⟨o2,o3,rfl,sm,hno⟩ hT
  have hi:i<3:=by simpa using (List.getElem?_eq_some_iff.mp hv).1
  obtain ⟨c,p,g1,g2,g3⟩:=hP.get hi;rw [hv] at g1
  cases Option.some.inj g1
  have s2:=sm.trans (.aF hT (.tup [.int (i:Int),.ref c]));refine ⟨T,_,rfl,aJ.of Yc,rfl,_,_,rfl,_,_,rfl,rfl,?_⟩;walk_at "rd";refine ⟨_,aJ.of (s2 _ _ g2),_,Yk (j:=0) rfl,rfl,?_⟩;unfold cQ at hno q ⊢;by_cases cc:(tn+i)%3=k
  ·rw [if_pos (by rw [cc])]
   have:=q _ s2;rw [show (k+3 - tn)%3=i by omega] at this
   exact this
  ·rw [if_neg (fun e=>cc (Jj _ (by omega) _ hk (V.str.inj e)))]
   exact ⟨s2,by omega⟩
 ·rintro σ H' ⟨o2,o3,rfl,sm,hno⟩
  unfold cQ at hno;exfalso;simp at hno;omega
inductive uq (vs:List V) (H:Hp) (Q:VK) (E_:XK):Prop
 | mk (lo:Int) (tn:Nat) (b c0 c1 c2 p0 p1 p2:Addr) (v:V) (x:Dd) (h0:vs=[.ref b,v]) (h1:c7 H lo tn b c0 c1 c2 p0 p1 p2) (h2:Y1 H lo v x) (h3:∀ H',Yf H H'->Q (.bl true) H')
theorem Y1.two {H:Hp} {lo:Int} {v:V} {x:Dd} (h:Y1 H lo v x):∃ a u,v = .ref a/\H a=some (.tup [.str (bB (dk x)),u])/\(∀ {tn:Nat},bN x->Vx H lo (jV (dk x)) u (bC x)):=by
 cases x with
 | put o=>obtain ⟨a,e,h⟩:=h;exact ⟨a,_,e,h,fun k => .wh o k⟩
 | take=>obtain ⟨a,b,e,h,h2⟩:=h;exact ⟨a,_,e,h,fun _ => .bD b h2⟩
 | cg=>obtain ⟨a,b,e,h,h2⟩:=h;exact ⟨a,_,e,h,fun _ => .bD b h2⟩
theorem Vp (x:Dd):dk x<3:=by cases x<;>simp [dk]
theorem YaF {k:Nat} {Z4 Z5 Z1 Z2 Z3 Z0:Addr} {aq ao:Addr} {ak aj:Addr} {aA au:Addr} (R:g.Raw "has_mark" "has_mark" yu ["branches","value"]) (Zz:g.Fn k "branch_place" ["branches","mark"] (iu)) (Z6:g.mg "isinstance"=none) (aK:g.mg "len"=none) (bO:g.mg "str"=none) (Zj:g.mg "tuple"=none):g.Fn (k+1) "has_mark" ["branches","value"] (uq):=by
 refine R.fn YaC (fun vs H Q E h=>by obtain ⟨lo,tn,b,c0,c1,c2,p0,p1,p2,v,x,rfl,hP,hv,q⟩:=h;rfl) fun f_ cdv A outer s H vs Q E hr h=>?_
 obtain ⟨lo,tn,b,c0,c1,c2,p0,p1,p2,v,x,rfl,hP,hv,q⟩:=h;refine ⟨_,(@Yd _ _ _ _ _ (@Yu _ _ _ _ _ _ _ _ (@X4 _ _ _ _ _ _ _ (@XR _ _ _ _ (@Xh _ _ _ (@YH _ _ _ _ _ _ _ _ _ _ Z6 YK (@Ya _ _ _ _ _ (pv 1) (@Ya _ _ _ _ _ (@Xq _ _ _ _ ("tuple") Zj (by decide +kernel) (by rfl) (by rfl) (by decide) (by decide)) Yb (by rfl)) (by rfl)) (by decide +kernel) (by rfl) (by rfl) (by decide) (by decide) (by rfl) (by rfl)) (by intro _;rfl))) (@Wk _ _ _ _ (@Yo _ _ _ _ _ _ _ _ VQ (@YH _ _ _ _ _ _ _ _ _ _ aK Yy (@Ya _ _ _ _ _ (pv 1) Yb (by rfl)) (by decide +kernel) (by rfl) (by rfl) (by decide) (by decide) (by rfl) (by rfl)) Yh (Yl _)))).pt (@Ye _ _ _ (@Yn _ _ _ _ Wj)) Yq) (@Ye _ _ _ (@Yn _ _ _ _ (@XS _ _ _ _ _ _ _ (@YH _ _ _ _ _ _ _ _ _ _ Z6 YK (@Ya _ _ _ _ _ (@Ys _ _ _ _ _ _ _ YD (pv 1) Yh (fun _ _=>rfl)) (@Ya _ _ _ _ _ (@Xq _ _ _ _ ("str") bO (by decide +kernel) (by rfl) (by rfl) (by decide) (by decide)) Yb (by rfl)) (by rfl)) (by decide +kernel) (by rfl) (by rfl) (by decide) (by decide) (by rfl) (by rfl)) (@XB _ _ _ _ _ (@Y2 _ _ _ _ _ _ _ _ Wg (@Yv _ _ _ _ _ _ _ _ _ _ _ _ Zz hr (@Ya _ _ _ _ _ (pv 0) (@Ya _ _ _ _ _ (@Ys _ _ _ _ _ _ _ YD (pv 1) Yh (fun _ _=>rfl)) Yb (by rfl)) (by rfl)) (by omega) (by rfl) (by rfl) (by decide) (by rfl) (by rfl)) YW (Yl _))))))),?_⟩;obtain ⟨a,u,rfl,ha,_⟩:=hv.two;refine Ym fun R rr=>?_
 walk_at "rd";refine ⟨_,rfl,_,.tup ha,true,rfl,?_⟩;walk_at "rd";refine ⟨_,.inr (aJ.of ha),YA (by simp) (rr _ _ ?_)⟩;walk_at "rd";refine ⟨_,aJ.of ha,_,Yk (j:=0) rfl,_,rfl,_,.str _,true,rfl,?_⟩;walk_at "rd";refine ⟨_,aJ.of ha,_,Yk (j:=0) rfl,lo,tn,dk x,b,c0,c1,c2,p0,p1,p2,rfl,hP,Vp x,fun H' s=>?_⟩;rw [decide_eq_false (by intro z;cases z)];exact q H' s
inductive ur (K:W.Frag) (vs:List V) (H:Hp) (Q:VK) (E_:XK):Prop
 | mk (lo:Int) (tn:Nat) (a:Addr) (s:Sd) (v:V) (n:Nat) (h0:vs=[.ref a,v]) (h1:Y9 H lo tn a s) (h2:Vx H lo s v n) (h3:∀ H',Yf H H'->Q (.bl true) H')
theorem YaG {k:Nat} {Z4 Z5 Z1 Z2 Z3 Z0:Addr} {aq ao:Addr} {ak aj:Addr} {aA au:Addr} (R:g.Raw "has_form" "has_form" yw ["shape","value"]) (ZM:g.Fn k "is_whole_number" ["thing"] (zU)) (nM:g.Fn k "has_mark" ["branches","value"] (uq)) (Z6:g.mg "isinstance"=none) (aK:g.mg "len"=none) (aN:g.mg "list"=none) (Zj:g.mg "tuple"=none) (je:g.jR "OF_ONE_PART" ([.str "many",.str "rising",.str "unlike"])):g.Fn (k+1) "has_form" ["shape","value"] (ur g.K):=by
 refine R.fn IW (fun vs H Q E h=>by obtain ⟨lo,tn,a,s,v,n,rfl,hS,hv,q⟩:=h;rfl) fun f_ cdv A outer s H vs Q E hr h=>?_
 obtain ⟨lo,tn,a,s,v,n,rfl,hS,hv,q⟩:=h;refine ⟨_,(@Yd _ _ _ _ _ (@Yr _ _ (2) _ _ _ _ IW.nd rfl (.inl rfl) (@Ys _ _ _ _ _ _ _ YD (pv 0) Yh (fun _ _=>rfl)) (by rfl) (by first | exact .inl rfl | exact .inr rfl | assumption)) (@Yd _ _ _ _ _ (@Yu _ _ _ _ _ _ _ _ (@Yo _ _ _ _ _ _ _ _ YJ (pv 2) YC (Yl _)) (@Ye _ _ _ (@Yn _ _ _ _ (@XS _ _ _ _ _ _ _ (@Yv _ _ _ _ _ _ _ _ _ _ _ _ ZM hr (@Ya _ _ _ _ _ (pv 1) Yb (by rfl)) (by omega) (by rfl) (by rfl) (by decide) (by rfl) (by rfl)) (@XB _ _ _ _ _ (@Ov _ _ _ _ _ _ _ _ _ _ _ _ Um Um (@Ys _ _ _ _ _ _ _ YD (pv 0) Yh (fun _ _=>rfl)) (pv 1) (@Ys _ _ _ _ _ _ _ YD (pv 0) Yh (fun _ _=>rfl)) (by with_unfolding_all rfl)))))) Yq) (@Yd _ _ _ _ _ (@Yu _ _ _ _ _ _ _ _ (@Yo _ _ _ _ _ _ _ _ YJ (pv 2) YC (Yl _)) (@Ye _ _ _ YB) Yq) (@Yd _ _ _ _ _ (@Yu _ _ _ _ _ _ _ _ (@Yo _ _ _ _ _ _ _ _ YJ (pv 2) YC (Yl _)) (@Ye _ _ _ (@Yn _ _ _ _ (@XS _ _ _ _ _ _ _ (@YH _ _ _ _ _ _ _ _ _ _ Z6 YK (@Ya _ _ _ _ _ (pv 1) (@Ya _ _ _ _ _ (@Xq _ _ _ _ ("tuple") Zj (by decide +kernel) (by rfl) (by rfl) (by decide) (by decide)) Yb (by rfl)) (by rfl)) (by decide +kernel) (by rfl) (by rfl) (by decide) (by decide) (by rfl) (by rfl)) (@XB _ _ _ _ _ (@Y2 _ _ _ _ _ _ _ _ YJ (@YH _ _ _ _ _ _ _ _ _ _ aK Yy (@Ya _ _ _ _ _ (pv 1) Yb (by rfl)) (by decide +kernel) (by rfl) (by rfl) (by decide) (by decide) (by rfl) (by rfl)) (@YH _ _ _ _ _ _ _ _ _ _ aK Yy (@Ya _ _ _ _ _ (@Ys _ _ _ _ _ _ _ YD (pv 0) Yh (fun _ _=>rfl)) Yb (by rfl)) (by decide +kernel) (by rfl) (by rfl) (by decide) (by decide) (by rfl) (by rfl)) (Yl _)))))) Yq) (@Yd _ _ _ _ _ (@Yu _ _ _ _ _ _ _ _ (@Yo _ _ _ _ _ _ _ _ YJ (pv 2) YC (Yl _)) (@Ye _ _ _ (@Yn _ _ _ _ (@Yv _ _ _ _ _ _ _ _ _ _ _ _ nM hr (@Ya _ _ _ _ _ (@Ys _ _ _ _ _ _ _ YD (pv 0) Yh (fun _ _=>rfl)) (@Ya _ _ _ _ _ (pv 1) Yb (by rfl)) (by rfl)) (by omega) (by rfl) (by rfl) (by decide) (by rfl) (by rfl)))) Yq) (@Yd _ _ _ _ _ (@Yu _ _ _ _ _ _ _ _ (@Yo _ _ _ _ _ _ _ _ YJ (pv 2) YC (Yl _)) (@Ye _ _ _ YB) Yq) (@Yd _ _ _ _ _ (@Yu _ _ _ _ _ _ _ _ (@Yo _ _ _ _ _ _ _ _ Qc (pv 2) (@Hi _ _ _ _ _ je (by rfl) (by rfl) (by decide)) rfl) (@Ye _ _ _ (@Yn _ _ _ _ (@YH _ _ _ _ _ _ _ _ _ _ Z6 YK (@Ya _ _ _ _ _ (pv 1) (@Ya _ _ _ _ _ (@Xq _ _ _ _ ("list") aN (by decide +kernel) (by rfl) (by rfl) (by decide) (by decide)) Yb (by rfl)) (by rfl)) (by decide +kernel) (by rfl) (by rfl) (by decide) (by decide) (by rfl) (by rfl)))) Yq) (@Ye _ _ _ YB)))))))),?_⟩
 cases hv with
 | wh o ho =>
  have hS:H a=some (.tup [.str "whole",.int lo,.int (lo+200)]):=hS;refine Ym fun R rr=>?_
  walk_at "rd";refine ⟨_,aJ.of hS,_,Yk (j:=0) rfl,rr _ _ (dM rfl rfl ?_)⟩;walk_at "rd";refine ⟨.int (lo+o),rfl,_,rfl,tE ⟨_,aJ.of hS,_,Yk (j:=1) rfl,_,rfl,YU (by omega) ⟨_,aJ.of hS,_,Yk (j:=2) rfl,_,rfl,?_⟩⟩⟩;rw [decide_eq_true (by omega)];exact q H (.refl _)
 | bD b hb =>
  obtain ⟨c,h1,h2⟩:∃ b,H a=some (.tup [.str "row",.ref b])/\H b=some (.tup []):=hS;refine Ym fun R rr=>?_
  walk_at "rd";refine ⟨_,aJ.of h1,_,Yk (j:=0) rfl,rr _ _ (aX rfl (by decide +kernel) (aX rfl (by decide +kernel) (dM rfl rfl ?_)))⟩;walk_at "rd";refine ⟨_,rfl,_,.tup hb,true,rfl,tE ⟨_,.inr (aJ.of hb),_,aJ.of h1,_,Yk (j:=1) rfl,_,rfl,_,.inr (aJ.of h2),?_⟩⟩;exact q H (.refl _)
 | pk v x hd hk =>
  obtain ⟨b,c0,c1,c2,p0,p1,p2,h1,hP⟩:=hS;refine Ym fun R rr=>?_
  walk_at "rd";refine ⟨_,aJ.of h1,_,Yk (j:=0) rfl,rr _ _ (aX rfl (by decide +kernel) (aX rfl (by decide +kernel) (aX rfl (by decide +kernel) (dM rfl rfl ?_))))⟩;walk_at "rd";exact ⟨_,aJ.of h1,_,Yk (j:=1) rfl,lo,tn,b,c0,c1,c2,p0,p1,p2,v,x,rfl,hP,hd,fun H' s=>q H' s⟩
 | aR D us xs hD l hl h2 =>
  obtain ⟨e,b,c0,c1,c2,p0,p1,p2,h0,h1,hP⟩:=hS;refine Ym fun R rr=>?_
  walk_at "rd";refine ⟨_,aJ.of h0,_,Yk (j:=0) rfl,rr _ _ (aX rfl (by decide +kernel) (aX rfl (by decide +kernel) (aX rfl (by decide +kernel) (aX rfl (by decide +kernel) (aX rfl (by decide +kernel) ?_)))))⟩;walk_at "rd";exact fun c hc=>⟨_,.inr hc,rfl,rfl,YU (by decide +kernel) ⟨_,rfl,_,.lst hD,true,rfl,q H (.refl _)⟩⟩
theorem VH {tn k:Nat}:cQ tn k<3:=Nat.mod_lt _ (by decide)
theorem Yf6 {tn k:Nat} (ht:tn<3) (hk:k<3):(tn+cQ tn k)%3=k:=by unfold cQ;omega
theorem Y0.sd {H:Hp} {lo:Int} {tn:Nat} {p:Addr} {k:Nat} (h:Y0 H lo p k):Y9 H lo tn p (jV k):=by
 cases k with
 | zero=>exact h
 | succ k =>
  have h:Y0 H lo p 1:=by unfold Y0 at h ⊢;rw [if_neg (by omega)] at h;rw [if_neg (by decide)];exact h
  exact h
def pq (H:Hp) (lo:Int) (tn:Nat) (ts:List Addr) (L:List (Sd×V×Nat)):Prop:=ts.length=L.length/\∀ (i:Nat) t w,ts[i]?=some t->L[i]?=some w->∃ p,H t=some (.tup [.ref p,w.2.1])/\Y9 H lo tn p w.1/\Vx H lo w.1 w.2.1 w.2.2
inductive Wi (H:Hp) (lo:Int):Sd->V->List (Sd×V×Nat)->Prop
 | wh (o:Nat) (ho:o<=200):Wi H lo .wh (.int (lo+o)) []
 | bD (b:Addr) (hb:H b=some (.tup [])):Wi H lo .bD (.ref b) []
 | pk (a:Addr) (u:V) (x:Dd) (ha:H a=some (.tup [.str (bB (dk x)),u])) (hd:Y1 H lo (.ref a) x) (k:bN x):Wi H lo .pk (.ref a) [(jV (dk x),u,bC x)]
 | aR (D:Addr) (us:List V) (xs:List Dd) (h:H D=some (.lst us)) (l:us.length=xs.length) (hl:xs.length<=100) (h2:∀ (i:Nat) u x,us[i]?=some u->xs[i]?=some x->Y1 H lo u x/\bN x):Wi H lo .aR (.ref D) ((us.zip xs).map fun w=>(.pk,w.1,bC w.2))
inductive zV (K:W.Frag) (vs:List V) (H:Hp) (Q:VK) (E_:XK):Prop
 | mk (bk:V) (lo:Int) (tn:Nat) (a:Addr) (s:Sd) (v:V) (n:Nat) (h0:vs=[bk,.ref a,v]) (h1:Y9 H lo tn a s) (h2:Vx H lo s v n) (h3:∀ D ts L H',Yf H H'->H D=none->H' D=some (.lst (ts.map V.ref))->ts.length<=100->pq H' lo tn ts L->(∀ w∈L,dR w.1<dR s)->(s = .aR->n=L.length+(L.map fun w=>w.2.2).sum/\∀ w∈L,w.1 = .pk)->(s = .pk->∃ w,L=[w]/\w.2.2=n)->(s = .wh\/s = .bD->L=[])->Wi H lo s v L->Q (.ref D) H')
theorem Z3P {k:Nat} {Z4 Z5 Z1 Z2 Z3 Z0:Addr} {aq ao:Addr} {ak aj:Addr} {aA au:Addr} (R:g.Raw "things_within" "things_within" yC ["book","shape","value"]) (Zz:g.Fn k "branch_place" ["branches","mark"] (iu)) (aN:g.mg "list"=none) (iw:g.mg "zip"=none) (je:g.jR "OF_ONE_PART" ([.str "many",.str "rising",.str "unlike"])):g.Fn (k+1) "things_within" ["book","shape","value"] (zV g.K):=by
 refine R.fn Ja (fun vs H Q E h=>by obtain ⟨bk,lo,tn,a,s,v,n,rfl,hS,hv,q⟩:=h;rfl) fun f_ cdv A outer s H vs Q E hr h=>?_
 obtain ⟨bk,lo,tn,a,s,v,n,rfl,hS,hv,q⟩:=h;refine ⟨_,(@Yd _ _ _ _ _ (@Yr _ _ (3) _ _ _ _ Ja.nd rfl (.inl rfl) (@Ys _ _ _ _ _ _ _ YD (pv 1) Yh (fun _ _=>rfl)) (by rfl) (by first | exact .inl rfl | exact .inr rfl | assumption)) (@Yd _ _ _ _ _ (@Yu _ _ _ _ _ _ _ _ (@Yo _ _ _ _ _ _ _ _ YJ (pv 3) YC (Yl _)) (@Ye _ _ _ (@Yn _ _ _ _ (@SM _ _ _ _ _ _ _ _ rfl aN rfl iw (@Ya _ _ _ _ _ (@Ys _ _ _ _ _ _ _ YD (pv 1) Yh (fun _ _=>rfl)) (@Ya _ _ _ _ _ (pv 2) Yb (by rfl)) (by rfl)) (by rfl) (by rfl) (by rfl)))) Yq) (@Yd _ _ _ _ _ (@Yu _ _ _ _ _ _ _ _ (@Yo _ _ _ _ _ _ _ _ YJ (pv 3) YC (Yl _)) (@Ye _ _ _ (@Yn _ _ _ _ (@Y3 _ _ _ _ (@Ya _ _ _ _ _ (@YO _ _ _ _ _ (@Ya _ _ _ _ _ (@Ys _ _ _ _ _ _ _ YD (@Ys _ _ _ _ _ _ _ YD (@Ys _ _ _ _ _ _ _ YD (pv 1) Yh (fun _ _=>rfl)) (@Yv _ _ _ _ _ _ _ _ _ _ _ _ Zz hr (@Ya _ _ _ _ _ (@Ys _ _ _ _ _ _ _ YD (pv 1) Yh (fun _ _=>rfl)) (@Ya _ _ _ _ _ (@Ys _ _ _ _ _ _ _ YD (pv 2) Yh (fun _ _=>rfl)) Yb (by rfl)) (by rfl)) (by omega) (by rfl) (by rfl) (by decide) (by rfl) (by rfl)) (fun _ _=>rfl)) Yh (fun _ _=>rfl)) (@Ya _ _ _ _ _ (@Ys _ _ _ _ _ _ _ YD (pv 2) Yh (fun _ _=>rfl)) Yb (by rfl)) (by rfl))) Yb (Y8 _ _ _ _ _))))) Yq) (@Yd _ _ _ _ _ (@Yu _ _ _ _ _ _ _ _ (@Yo _ _ _ _ _ _ _ _ YJ (pv 3) YC (Yl _)) (@Ye _ _ _ YB) Yq) (@Yd _ _ _ _ _ (@Yu _ _ _ _ _ _ _ _ (@X4 _ _ _ _ _ _ _ (@Yo _ _ _ _ _ _ _ _ YJ (pv 3) YC (Yl _)) (@Wk _ _ _ _ (@Yo _ _ _ _ _ _ _ _ Qc (pv 3) (@Hi _ _ _ _ _ je (by rfl) (by rfl) (by decide)) rfl))).pt (@Ye _ _ _ (@Yn _ _ _ _ (@X5 _ _ _ _ _ _ _ ([none,some 1]) ((["thing","shape"]:List Str)) _ (YT 0) _ _ (.own (.cap (i:=1) rfl rfl (by first | exact .inl rfl | exact .inr rfl) .nil)) rfl (@Xj _ _ _ _ (pv 2)) (fun cl C s₀ H₀ fp pn=>(@Yz _ _ (0) _ (show List.Nodup (["thing","shape"]:List Str) by decide +kernel) rfl (.inl rfl) (.inr rfl))) (fun cl C s₀ H₀ fp pn=>Xs) (fun cl C s₀ H₀ fp pn=>(@YO _ _ _ _ _ (@Ya _ _ _ _ _ (@Ys _ _ _ _ _ _ _ (UP (K:=g.K)) (pv 1) Yh (fun _ _=>rfl)) (@Ya _ _ _ _ _ (pv 0) Yb (by rfl)) (by rfl)))) (by intro x hx;simp at hx;first | (subst hx;exact .inl rfl) | (rcases hx with rfl | rfl<;>exact .inl rfl) | (rcases hx with rfl | rfl | rfl<;>exact .inl rfl) | (rcases hx with rfl | rfl | rfl | rfl<;>exact .inl rfl) | (rcases hx with rfl | rfl | rfl | rfl | rfl<;>exact .inl rfl)) (by rfl) (by decide) (by decide +kernel) (by intro _;rfl)))) Yq) (@Ye _ _ _ (@Yn _ _ _ _ (@Y3 _ _ _ _ Yb)))))))),?_⟩
 cases hv with
 | wh o ho =>
  have hS:H a=some (.tup [.str "whole",.int lo,.int (lo+200)]):=hS;refine Ym fun R rr=>?_
  walk_at "rd";refine ⟨_,aJ.of hS,_,Yk (j:=0) rfl,rr _ _ (aX rfl (by decide +kernel) (aX rfl (by decide +kernel) (aX rfl (by decide +kernel) ?_)))⟩;walk_at "rd";refine YA (by decide +kernel) fun c hc=>⟨_,.inr hc,rfl,rfl,YA (by decide +kernel) ⟨few (by decide),fun p hp=>?_⟩⟩
  exact q p [] [] _ (.aF hp _) hp Yc (by decide) ⟨rfl,fun i t w h=>by cases h⟩ (fun w h=>by cases h) (fun h=>by cases h) (fun h=>by cases h) (fun _=>rfl) (.wh o ho)
 | bD b hb =>
  obtain ⟨c,h1,h2⟩:∃ b,H a=some (.tup [.str "row",.ref b])/\H b=some (.tup []):=hS;refine Ym fun R rr=>?_
  walk_at "rd";refine ⟨_,aJ.of h1,_,Yk (j:=0) rfl,rr _ _ (dM rfl rfl ?_)⟩;walk_at "rd";refine ⟨_,aJ.of h1,_,Yk (j:=1) rfl,_,rfl,_,aJ.of h2,_,aJ.of hb,rfl,fun l as H2 hl s2 hd hal _=>?_⟩;have:as=[]:=List.length_eq_zero_iff.mp hal;subst this;exact q l [] [] _ s2 hl hd (by decide) ⟨rfl,fun i t w h=>by cases h⟩ (fun w h=>by cases h) (fun h=>by cases h) (fun h=>by cases h) (fun _=>rfl) (.bD b hb)
 | pk v x hd hk =>
  obtain ⟨b,c0,c1,c2,p0,p1,p2,h1,hP⟩:=hS;obtain ⟨a',u,rfl,ha,hu⟩:=hd.two;refine Ym fun R rr=>?_
  walk_at "rd";refine ⟨_,aJ.of h1,_,Yk (j:=0) rfl,rr _ _ (aX rfl (by decide +kernel) (dM rfl rfl ?_))⟩;walk_at "rd";refine ⟨_,aJ.of h1,_,Yk (j:=1) rfl,_,aJ.of h1,_,Yk (j:=1) rfl,_,aJ.of ha,_,Yk (j:=0) rfl,lo,tn,dk x,b,c0,c1,c2,p0,p1,p2,rfl,hP,Vp x,fun H1 s1=>?_⟩;obtain ⟨c,p,g1,g2,g3⟩:=hP.get (VH (tn:=tn) (k:=dk x));rw [Yf6 hP.t3 (Vp x)] at g2 g3
  refine ⟨b,rfl,_,rfl,_,aJ.of (s1 _ _ hP.b),_,Yk g1,c,rfl,_,aJ.of (s1 _ _ g2),_,Yk (j:=1) rfl,_,aJ.of (s1 _ _ ha),_,Yk (j:=1) rfl,few (by decide),fun X gX=>⟨few (by decide),fun L gL=>?_⟩⟩;have sX:=Yf.aF gX (.tup [.ref p,u]);have sL:=Yf.aF gL (.lst [.ref X]);have s3:=(s1.trans sX).trans sL;refine q L [X] [(jV (dk x),u,bC x)] _ s3 ((s1.trans sX).free gL) Yc (by simp) ⟨rfl,fun i t w h1 h2=>?_⟩ (fun w hw=>?_) (fun h=>by cases h) (fun _=>⟨_,rfl,rfl⟩) (fun h=>by rcases h with h | h<;>cases h) (.pk a' u x ha hd hk)
  ·cases i with
   | zero =>
    cases Option.some.inj h1
    cases Option.some.inj h2
    exact ⟨p,sL _ _ Yc,(g3.sd (tn:=tn)).kt (Yx s3),(hu (tn:=tn) hk).kt (Yx s3)⟩
   | succ i=>cases h1
  ·cases List.mem_singleton.mp hw
   cases x<;>simp [dR,jV,dk]
 | aR D us xs hD l hl h2 =>
  obtain ⟨e,b,c0,c1,c2,p0,p1,p2,h0,h1,hP⟩:=hS;refine Ym fun R rr=>?_
  walk_at "rd";refine ⟨_,aJ.of h0,_,Yk (j:=0) rfl,rr _ _ (aX rfl (by decide +kernel) (aX rfl (by decide +kernel) (aX rfl (by decide +kernel) ?_)))⟩;walk_at "rd";refine YA (by decide +kernel) fun c hc=>⟨_,.inr hc,rfl,rfl,YU (by decide +kernel) ?_⟩
  refine QV (K:=g.K) (xs:=us) (us.map fun u=>[.ref e,u]) (fun R r=>by walk_at "rd";exact r D H (.refl _) (aG.of hD)) (by simp) (by omega) ?_ ?_
  ·intro i u y H' hu hy sm R r
   rw [List.getElem?_map,hu] at hy
   cases Option.some.inj hy
   walk_at "rd";exact ⟨_,aJ.of (sm _ _ h0),_,Yk (j:=1) rfl,few (by decide),fun p hp=>r p _ (.aF hp _) Yc⟩
  ·intro D2 as H' gD sm hd hal hat
   refine q D2 as ((us.zip xs).map fun w=>(.pk,w.1,bC w.2)) H' sm gD hd (by omega) ⟨by simp [l];omega,fun i t w h1' h2'=>?_⟩ (fun w hw=>?_) (fun _=>⟨?_,fun w hw=>?_⟩) (fun h=>by cases h) (fun h=>by rcases h with h | h<;>cases h) (.aR D us xs hD l hl h2)
   ·rw [List.getElem?_map] at h2'
    obtain ⟨z,hz,rfl⟩:=Option.map_eq_some_iff.mp h2';obtain ⟨u,x⟩:=z;rw [List.getElem?_zip_eq_some] at hz
    obtain ⟨hu,hx⟩:=hz;obtain ⟨k1,k2⟩:=h2 i u x hu hx;refine ⟨e,hat i t _ h1' (by rw [List.getElem?_map,hu];rfl),?_,?_⟩
    ·exact ⟨b,c0,c1,c2,p0,p1,p2,sm _ _ h1,hP.kt (Yx sm)⟩
    ·exact .pk u x (k1.kt (Yx sm)) k2
   ·obtain ⟨z,_,rfl⟩:=List.mem_map.mp hw;exact (by decide:2<3)
   ·rw [List.length_map,List.length_zip,l,Nat.min_self,List.map_map,bw]
    congr 1
    have:∀ (us:List V) (xs:List Dd),us.length=xs.length->((us.zip xs).map fun w=>bC w.2)=xs.map bC:=fun us=>by
     induction us with
     | nil=>intro xs h;cases xs with | nil=>rfl | cons=>cases h
     | cons u us ih=>intro xs h;cases xs with | nil=>cases h | cons x xs=>simp only [List.zip_cons_cons,List.map_cons];rw [ih xs (by simpa using h)]
    exact congrArg List.sum (this us xs l).symm
   ·obtain ⟨z,_,rfl⟩:=List.mem_map.mp hw;rfl
def uw (H:Hp) (ks:List Addr) (ns:List Nat):Prop:=ks.length=ns.length/\∀ (i:Nat) k n,ks[i]?=some k->ns[i]?=some n->∃ r,H k=some (.tup (.int (n:Nat)::r))
inductive jW (K:W.Frag) (vs:List V) (H:Hp) (Q:VK) (E_:XK):Prop
 | mk (b:Addr) (ks:List Addr) (ns:List Nat) (h0:vs=[.ref b]) (h1:H b=some (.lst (ks.map V.ref))) (h2:uw H ks ns) (h3:ks.length<=100) (h4:∀ H',Yf H H'->Q (.int (ns.sum:Nat)) H')
theorem Yej (l:List Nat):(l.map fun n=>((n:Nat):Int)).sum=((l.sum:Nat):Int):=by
 induction l with
 | nil=>rfl
 | cons a l ih=>rw [List.map_cons,List.sum_cons,ih,List.sum_cons,Int.natCast_add]
theorem Z3W {Z4 Z5 Z1 Z2 Z3 Z0:Addr} {aq ao:Addr} {ak aj:Addr} {aA au:Addr} (R:g.Raw "sum_of_sizes" "sum_of_sizes" yD ["keys"]) (iy:g.mg "sum"=none):g.Fn (1) "sum_of_sizes" ["keys"] (jW g.K):=by
 refine R.fn Z3T (fun vs H Q E h=>by obtain ⟨b,ks,ns,rfl,hb,hk,hl,q⟩:=h;rfl) fun f_ cdv A outer s H vs Q E hr h=>?_
 obtain ⟨b,ks,ns,rfl,hb,hk,hl,q⟩:=h;refine ⟨_,(@Ye _ _ _ (@Yn _ _ _ _ (@YH _ _ _ _ _ _ _ _ _ _ iy Qp (@Ya _ _ _ _ _ (@X5 _ _ _ _ _ _ _ ([none]) ((["key"]:List Str)) _ (YT 0) _ _ (.own .nil) rfl (@Xj _ _ _ _ (pv 0)) (fun cl C s₀ H₀ fp pn=>(@Yz _ _ (0) _ (show List.Nodup (["key"]:List Str) by decide +kernel) rfl (.inl rfl) (.inr rfl))) (fun cl C s₀ H₀ fp pn=>Xs) (fun cl C s₀ H₀ fp pn=>(@Ys _ _ _ _ _ _ _ (UP (K:=g.K)) (pv 0) Yh (fun _ _=>rfl))) (by intro x hx;simp at hx) (by rfl) (by decide) (by decide +kernel) (by intro _;rfl)) Yb (by rfl)) (by decide +kernel) (by rfl) (by rfl) (by decide) (by decide) (by rfl) (by rfl)))),?_⟩;walk_at "rd";refine Vz (K:=g.K) (xs:=ks.map V.ref) ((ns.map fun n=>((n:Nat):Int)).map V.int) (fun R r=>by walk_at "rd";exact r b H (.refl _) (aG.of hb)) (by simp [hk.1]) (by simp;omega) ?_ ?_
 ·intro i x y H' hx hy sm R r
  rw [List.getElem?_map] at hx
  obtain ⟨k,hk1,rfl⟩:=Option.map_eq_some_iff.mp hx;rw [List.getElem?_map,List.getElem?_map] at hy
  obtain ⟨z,hz,rfl⟩:=Option.map_eq_some_iff.mp hy;obtain ⟨n,hn,rfl⟩:=Option.map_eq_some_iff.mp hz;obtain ⟨r0,e⟩:=hk.2 i k n hk1 hn;walk_at "rd";exact ⟨_,aJ.of (sm _ _ e),_,Yk (j:=0) rfl,r H' (.refl _)⟩
 ·intro D H' hD sm hd
  refine ⟨D,rfl,_,aG.of hd,?_⟩;rw [Yej];exact q H' sm
inductive ux (K:W.Frag) (vs:List V) (H:Hp) (Q:VK) (E_:XK):Prop
 | mk (lo:Int) (tn:Nat) (a:Addr) (s:Sd) (v:V) (n:Nat) (b:Addr) (ks:List Addr) (ns:List Nat) (h0:vs=[.ref a,v,.ref b]) (h1:Y9 H lo tn a s) (h2:Vx H lo s v n) (h3:H b=some (.lst (ks.map V.ref))) (h4:uw H ks ns) (h5:ks.length<=100) (h6:(s = .aR->n=ns.length+ns.sum)) (h7:(s = .pk->ns=[n])) (h8:(s = .wh\/s = .bD->ns=[])) (h9:∀ k r H',Yf H H'->H' k=some (.tup (.int (n:Nat)::r))->Q (.ref k) H')
inductive uy (K:W.Frag) (vs:List V) (H:Hp) (Q:VK) (E_:XK):Prop
 | mk (a e b:Addr) (ks:List Addr) (ns:List Nat) (h0:vs=[.ref a,.ref b]) (h1:H a=some (.tup [.str "many",.ref e])) (h2:H b=some (.lst (ks.map V.ref))) (h3:uw H ks ns) (h4:ks.length<=100) (h5:∀ k r H',Yf H H'->H' k=some (.tup (.int ((ns.length+ns.sum:Nat):Int)::r))->Q (.ref k) H')
theorem YaH {k:Nat} {Z4 Z5 Z1 Z2 Z3 Z0:Addr} {aq ao:Addr} {ak aj:Addr} {aA au:Addr} (R:g.Raw "list_key" "list_key" yE ["shape","keys"]) (zW:g.Fn k "sum_of_sizes" ["keys"] (jW g.K)) (aK:g.mg "len"=none) (Zj:g.mg "tuple"=none):g.Fn (k+1) "list_key" ["shape","keys"] (uy g.K):=by
 refine R.fn yF (fun vs H Q E h=>by obtain ⟨a,e,b,ks,ns,rfl,ha,hb,hk,hl,q⟩:=h;rfl) fun f_ cdv A outer s H vs Q E hr h=>?_
 obtain ⟨a,e,b,ks,ns,rfl,ha,hb,hk,hl,q⟩:=h;refine ⟨_,(@Yd _ _ _ _ _ (@Yr _ _ (2) _ _ _ _ yF.nd rfl (.inl rfl) (@Ys _ _ _ _ _ _ _ YD (pv 0) Yh (fun _ _=>rfl)) (by rfl) (by first | exact .inl rfl | exact .inr rfl | assumption)) (@Yd _ _ _ _ _ (@Yr _ _ (3) _ _ _ _ yF.nd rfl (.inl rfl) (@Yt _ _ _ _ _ _ _ _ Xi (@YH _ _ _ _ _ _ _ _ _ _ aK Yy (@Ya _ _ _ _ _ (pv 1) Yb (by rfl)) (by decide +kernel) (by rfl) (by rfl) (by decide) (by decide) (by rfl) (by rfl)) (@Yv _ _ _ _ _ _ _ _ _ _ _ _ zW hr (@Ya _ _ _ _ _ (pv 1) Yb (by rfl)) (by omega) (by rfl) (by rfl) (by decide) (by rfl) (by rfl))) (by rfl) (by first | exact .inl rfl | exact .inr rfl | assumption)) (@Yd _ _ _ _ _ (@Yu _ _ _ _ _ _ _ _ (@Yo _ _ _ _ _ _ _ _ YJ (pv 2) YC (Yl _)) (@Ye _ _ _ (@Yn _ _ _ _ (@XI _ _ _ _ _ _ _ _ _ _ Zj Xy (@Ya _ _ _ _ _ (@Yt _ _ _ _ _ _ _ _ XC (@Y3 _ _ _ _ (@Ya _ _ _ _ _ (pv 3) Yb (by rfl))) (pv 1)) Yb (by rfl)) (by decide +kernel) (by rfl) (by rfl) (by decide) (by decide) (by rfl) (by rfl)))) Yq) (@Yd _ _ _ _ _ YB (@Yd _ _ _ _ _ YB (@Ye _ _ _ YB)))))),?_⟩;refine Ym fun R rr=>?_
 walk_at "rd";refine ⟨_,aJ.of ha,_,Yk (j:=0) rfl,rr _ _ (Ym fun R rr=>?_)⟩;walk_at "rd";refine ⟨_,.inl (aG.of hb),b,ks,ns,rfl,hb,hk,hl,fun H1 s1=>⟨_,rfl,rr _ _ (dM rfl rfl ?_)⟩⟩;walk_at "rd";rw [List.length_map,hk.1,<- Int.natCast_add];refine ⟨few (by decide),fun X gX=>?_⟩;have sX:=Yf.aF gX (.lst [.int ((ns.length+ns.sum:Nat):Int)]);refine ⟨_,Yc,_,sX _ _ (s1 _ _ hb),few (by simp;omega),fun Y gY=>⟨_,.inl ⟨aG.of Yc,fun Z gZ=>?_⟩⟩⟩;exact q _ _ _ (((s1.trans sX).trans (.aF gY _)).trans (.aF gZ _)) Yc
theorem YaI {k:Nat} {Z4 Z5 Z1 Z2 Z3 Z0:Addr} {aq ao:Addr} {ak aj:Addr} {aA au:Addr} (R:g.Raw "key_made" "key_made" yG ["shape","value","keys"]) (Zz:g.Fn k "branch_place" ["branches","mark"] (iu)) (zW:g.Fn k "sum_of_sizes" ["keys"] (jW g.K)) (nO:g.Fn k "list_key" ["shape","keys"] (uy g.K)) (Zj:g.mg "tuple"=none):g.Fn (k+1) "key_made" ["shape","value","keys"] (ux g.K):=by
 refine R.fn Jb (fun vs H Q E h=>by obtain ⟨lo,tn,a,s,v,n,b,ks,ns,rfl,hS,hv,hb,hk,hl,q1,q2,q3,q⟩:=h;rfl) fun f_ cdv A outer s H vs Q E hr h=>?_
 obtain ⟨lo,tn,a,s,v,n,b,ks,ns,rfl,hS,hv,hb,hk,hl,q1,q2,q3,q⟩:=h;refine ⟨_,(@Yd _ _ _ _ _ (@Yr _ _ (3) _ _ _ _ Jb.nd rfl (.inl rfl) (@Ys _ _ _ _ _ _ _ YD (pv 0) Yh (fun _ _=>rfl)) (by rfl) (by first | exact .inl rfl | exact .inr rfl | assumption)) (@Yd _ _ _ _ _ (@Yu _ _ _ _ _ _ _ _ (@Yo _ _ _ _ _ _ _ _ YJ (pv 3) YC (Yl _)) (@Ye _ _ _ (@Yn _ _ _ _ (@YO _ _ _ _ _ (@Ya _ _ _ _ _ (@QQ _ _ _ _ _ _ _ _ _ F.plainAttrs_int F.slot_int_bit_length F.type_int_bit_length UQ (@Yt _ _ _ _ _ _ _ _ Xz (pv 1) (@Ys _ _ _ _ _ _ _ YD (pv 0) Yh (fun _ _=>rfl))) (by rfl) (by rfl)) (@Ya _ _ _ _ _ (pv 1) Yb (by rfl)) (by rfl))))) Yq) (@Yd _ _ _ _ _ (@Yu _ _ _ _ _ _ _ _ (@Yo _ _ _ _ _ _ _ _ YJ (pv 3) YC (Yl _)) (@Ye _ _ _ YB) Yq) (@Yd _ _ _ _ _ (@Yu _ _ _ _ _ _ _ _ (@Yo _ _ _ _ _ _ _ _ YJ (pv 3) YC (Yl _)) (@Ye _ _ _ (@Yn _ _ _ _ (@XI _ _ _ _ _ _ _ _ _ _ Zj Xy (@Ya _ _ _ _ _ (@Yt _ _ _ _ _ _ _ _ XC (@Y3 _ _ _ _ (@Ya _ _ _ _ _ (@Yv _ _ _ _ _ _ _ _ _ _ _ _ zW hr (@Ya _ _ _ _ _ (pv 2) Yb (by rfl)) (by omega) (by rfl) (by rfl) (by decide) (by rfl) (by rfl)) Yb (by rfl))) (pv 2)) Yb (by rfl)) (by decide +kernel) (by rfl) (by rfl) (by decide) (by decide) (by rfl) (by rfl)))) Yq) (@Yd _ _ _ _ _ (@Yu _ _ _ _ _ _ _ _ (@Yo _ _ _ _ _ _ _ _ YJ (pv 3) YC (Yl _)) (@Ye _ _ _ (@Yn _ _ _ _ (@YO _ _ _ _ _ (@Ya _ _ _ _ _ (@Ys _ _ _ _ _ _ _ YD (@Ys _ _ _ _ _ _ _ YL (pv 2) Yh (fun _ _=>rfl)) Yh (fun _ _=>rfl)) (@Ya _ _ _ _ _ (@Yv _ _ _ _ _ _ _ _ _ _ _ _ Zz hr (@Ya _ _ _ _ _ (@Ys _ _ _ _ _ _ _ YD (pv 0) Yh (fun _ _=>rfl)) (@Ya _ _ _ _ _ (@Ys _ _ _ _ _ _ _ YD (pv 1) Yh (fun _ _=>rfl)) Yb (by rfl)) (by rfl)) (by omega) (by rfl) (by rfl) (by decide) (by rfl) (by rfl)) (@Ya _ _ _ _ _ (@Ys _ _ _ _ _ _ _ YL (pv 2) Yh (fun _ _=>rfl)) Yb (by rfl)) (by rfl)) (by rfl))))) Yq) (@Yd _ _ _ _ _ (@Yu _ _ _ _ _ _ _ _ (@Yo _ _ _ _ _ _ _ _ YJ (pv 3) YC (Yl _)) (@Ye _ _ _ YB) Yq) (@Ye _ _ _ (@Yn _ _ _ _ (@Yv _ _ _ _ _ _ _ _ _ _ _ _ nO hr (@Ya _ _ _ _ _ (pv 0) (@Ya _ _ _ _ _ (pv 2) Yb (by rfl)) (by rfl)) (by omega) (by rfl) (by rfl) (by decide) (by rfl) (by rfl)))))))))),?_⟩
 cases hv with
 | wh o ho =>
  have hS:H a=some (.tup [.str "whole",.int lo,.int (lo+200)]):=hS;refine Ym fun R rr=>?_
  walk_at "rd";refine ⟨_,aJ.of hS,_,Yk (j:=0) rfl,rr _ _ (dM rfl rfl ?_)⟩;walk_at "rd";refine ⟨_,aJ.of hS,_,Yk (j:=1) rfl,_,rfl,rfl,few (by decide),fun p hp=>?_⟩;rw [show lo+(o:Int) - lo=o by omega];exact q p _ _ (.aF hp _) Yc
 | bD b' hb' =>
  obtain ⟨c,h1,h2⟩:∃ b,H a=some (.tup [.str "row",.ref b])/\H b=some (.tup []):=hS;refine Ym fun R rr=>?_
  walk_at "rd";refine ⟨_,aJ.of h1,_,Yk (j:=0) rfl,rr _ _ (aX rfl (by decide +kernel) (aX rfl (by decide +kernel) (dM rfl rfl ?_)))⟩;walk_at "rd";refine ⟨b,ks,ns,rfl,hb,hk,hl,fun H1 s1=>⟨few (by decide),fun X gX=>?_⟩⟩;have sX:=Yf.aF gX (.lst [.int (ns.sum:Nat)]);refine ⟨_,Yc,_,sX _ _ (s1 _ _ hb),few (by simp;omega),fun Y gY=>⟨_,.inl ⟨aG.of Yc,fun Z gZ=>?_⟩⟩⟩;refine q Z (ks.map V.ref) _ (((s1.trans sX).trans (.aF gY _)).trans (.aF gZ _)) ?_;rw [Yc,q3 (.inr rfl)];rfl
 | pk v x hd hkx =>
  obtain ⟨b',c0,c1,c2,p0,p1,p2,h1,hP⟩:=hS;obtain ⟨a',u,rfl,ha,hu⟩:=hd.two;refine Ym fun R rr=>?_
  walk_at "rd";refine ⟨_,aJ.of h1,_,Yk (j:=0) rfl,rr _ _ (aX rfl (by decide +kernel) (aX rfl (by decide +kernel) (aX rfl (by decide +kernel) (dM rfl rfl ?_))))⟩;have hn:=q2 rfl;subst hn;have kl:=hk.1
  match ks,kl with
  | [k0],_ =>
  obtain ⟨r0,e0⟩:=hk.2 0 k0 _ rfl rfl;walk_at "rd";refine ⟨_,aG.of hb,_,Yk (j:=0) rfl,k0,rfl,_,aJ.of e0,_,Yk (j:=0) rfl,_,aJ.of h1,_,Yk (j:=1) rfl,_,aJ.of ha,_,Yk (j:=0) rfl,lo,tn,dk x,b',c0,c1,c2,p0,p1,p2,rfl,hP,Vp x,fun H1 s1=>⟨_,aG.of (s1 _ _ hb),_,Yk (j:=0) rfl,few (by decide),fun X gX=>?_⟩⟩;exact q _ _ _ (s1.trans (.aF gX _)) Yc
 | aR D us xs hD l hl' h2 =>
  obtain ⟨e,b',c0,c1,c2,p0,p1,p2,h0,h1,hP⟩:=hS;refine Ym fun R rr=>?_
  walk_at "rd";refine ⟨_,aJ.of h0,_,Yk (j:=0) rfl,rr _ _ (aX rfl (by decide +kernel) (aX rfl (by decide +kernel) (aX rfl (by decide +kernel) (aX rfl (by decide +kernel) (aX rfl (by decide +kernel) ?_)))))⟩;walk_at "rd";exact ⟨a,e,b,ks,ns,rfl,h0,hb,hk,hl,fun k r H' s' hk'=>q k r H' s' (by rw [q1 rfl];exact hk')⟩
inductive pA (K:W.Frag) (m:Nat) (vs:List V) (H:Hp) (Q:VK) (E_:XK):Prop
 | mk (bk:V) (lo:Int) (tn:Nat) (a:Addr) (s:Sd) (v:V) (n:Nat) (h0:vs=[bk,.ref a,v]) (h1:Y9 H lo tn a s) (h2:Vx H lo s v n) (h3:dR s<=m) (h4:∀ k r H',Yf H H'->H' k=some (.tup (.int (n:Nat)::r))->Q (.ref k) H')
theorem Yb8 {K:W.Frag} {vs:List V} {H:Hp} {Q:VK} {E:XK} (h:pA K 0 vs H Q E):False:=by
 obtain ⟨bk,lo,tn,a,s,v,n,_,_,_,h,_⟩:=h
 cases s<;>simp [dR] at h
theorem WK {K:W.Frag} {tl:TE} {g:TG} {tb:TS} {D:Ends} {σ:St} {H:Hp} (G:Addr->List V->Hp->Prop) (ha:∀ R:V->Hp->Prop,(∀ a xs H1,aG K H1 a xs->G a xs H1->R (.ref a) H1)->tl σ H R)
  (hb:∀ a xs H1,aG K H1 a xs->G a xs H1->∃ Pv:Nat->St->Hp->Prop,Pv 0 σ H1/\(∀ i σ H,i<=xs.length->Pv i σ H->aG K H a xs) /\
   (∀ i x σ H,xs[i]?=some x->Pv i σ H->g x σ H fun σ2 H2=>tb { D with nx:=Pv (i+1),ct:=Pv (i+1),bk:=D.nx } σ2 H2)/\∀ σ H,Pv xs.length σ H->D.nx σ H):Vj (WG K tl) g tb D σ H :=
 ha _ fun a xs H1 hS hG=>by
  obtain ⟨Pv,h0,hl,hs,hd⟩:=hb a xs H1 hS hG;exact ⟨a,rfl,⟨xs,hS⟩,QL Pv h0 hl hs hd⟩
inductive WgV (H1:Hp) (lo:Int) (tn:Nat) (bk:V) (a:Addr) (v:V) (p l:Addr) (ts:List Addr) (L:List (Sd×V×Nat)) (i:Nat) (σ:St) (H':Hp):Prop
 | mk (o4 o5 o6:Option V) (ks:List Addr) (e:σ=[some bk,some (.ref a),some v,some (.ref p),o4,o5,o6]) (s:Yf H1 H') (hp:H' p=some (.lst (ks.map V.ref))) (hl:H' l=some (.lst (ts.map V.ref))) (pr:pq H' lo tn ts L) (ky:uw H' ks ((L.take i).map fun w=>w.2.2))
theorem zX {k:Nat} {Z4 Z5 Z1 Z2 Z3 Z0:Addr} {aq ao:Addr} {ak aj:Addr} {aA au:Addr} (R:g.Raw "weighed" "weighed" yH ["book","shape","value"]) (nQ:g.Fn k "has_form" ["shape","value"] (ur g.K)) (zY:g.Fn k "things_within" ["book","shape","value"] (zV g.K)) (nR:g.Fn k "key_made" ["shape","value","keys"] (ux g.K)) (pB:g.Fn k "weighed" ["book","shape","value"] (pA g.K m)):g.Fn (k+1) "weighed" ["book","shape","value"] (pA g.K (m+1)):=by
 refine R.fn oW (fun vs H Q E h=>by obtain ⟨bk,lo,tn,a,s,v,n,rfl,hS,hv,hm,q⟩:=h;rfl) fun f_ cdv A outer s H vs Q E hr h=>?_
 obtain ⟨bk,lo,tn,a,s,v,n,rfl,hS,hv,hm,q⟩:=h;refine ⟨_,(@Yd _ _ _ _ _ (@Yu _ _ _ _ _ _ _ _ (@XR _ _ _ _ (@Xh _ _ _ (@Yv _ _ _ _ _ _ _ _ _ _ _ _ nQ hr (@Ya _ _ _ _ _ (pv 1) (@Ya _ _ _ _ _ (pv 2) Yb (by rfl)) (by rfl)) (by omega) (by rfl) (by rfl) (by decide) (by rfl) (by rfl)) (by intro _;rfl))) (@Ye _ _ _ YB) Yq) (@Yd _ _ _ _ _ (@Yr _ _ (3) _ _ _ _ oW.nd rfl (.inl rfl) (@Y3 _ _ _ _ Yb) (by rfl) (by first | exact .inl rfl | exact .inr rfl | assumption)) (@Yd _ _ _ _ _ (@Xo _ _ _ _ _ _ _ _ PassesOwn.never rfl (@Xj _ _ _ _ (@Yv _ _ _ _ _ _ _ _ _ _ _ _ zY hr (@Ya _ _ _ _ _ (pv 0) (@Ya _ _ _ _ _ (pv 1) (@Ya _ _ _ _ _ (pv 2) Yb (by rfl)) (by rfl)) (by rfl)) (by omega) (by rfl) (by rfl) (by decide) (by rfl) (by rfl))) (@Wl _ _ _ _ _ (2) rfl (@Y5 _ _ _ _ _ (@Yz _ _ (4) _ oW.nd rfl (.inl rfl) (by first | exact .inl rfl | exact .inr rfl | assumption)) (@Y5 _ _ _ _ _ (@Yz _ _ (5) _ oW.nd rfl (.inl rfl) (by first | exact .inl rfl | exact .inr rfl | assumption)) XZ (by rfl)) (by rfl)) (by rfl) (by rfl)) (@Yd _ _ _ _ _ (@Yr _ _ (6) _ _ _ _ oW.nd rfl (.inl rfl) (@Yv _ _ _ _ _ _ _ _ _ _ _ _ pB hr (@Ya _ _ _ _ _ (pv 0) (@Ya _ _ _ _ _ (pv 4) (@Ya _ _ _ _ _ (pv 5) Yb (by rfl)) (by rfl)) (by rfl)) (by omega) (by rfl) (by rfl) (by decide) (by rfl) (by rfl)) (by rfl) (by first | exact .inl rfl | exact .inr rfl | assumption)) (@Yd _ _ _ _ _ (@Yu _ _ _ _ _ _ _ _ (@Yo _ _ _ _ _ _ _ _ XM (pv 6) YW (Yl _)) (@Ye _ _ _ YB) Yq) (@Ye _ _ _ (@Y4 _ _ _ _ (@Xp _ _ _ _ _ _ _ _ _ _ _ _ F.plainAttrs_list F.slot_list_append F.type_list_append Y7 (pv 3) (@Ya _ _ _ _ _ (pv 6) Yb (by rfl)) (by rfl) (by rfl) (by rfl) (by rfl) (by rfl)) (by rfl))))) (by intro _;rfl)) (@Ye _ _ _ (@Yn _ _ _ _ (@Yv _ _ _ _ _ _ _ _ _ _ _ _ nR hr (@Ya _ _ _ _ _ (pv 1) (@Ya _ _ _ _ _ (pv 2) (@Ya _ _ _ _ _ (pv 3) Yb (by rfl)) (by rfl)) (by rfl)) (by omega) (by rfl) (by rfl) (by decide) (by rfl) (by rfl))))))),?_⟩;refine Ym fun R rr=>?_
 walk_at "rd";refine ⟨lo,tn,a,s,v,n,rfl,hS,hv,fun H1 s1=>?_⟩;walk_at "rd";refine rr _ _ (Ym fun R rr=>?_);walk_at "rd";refine ⟨few (by decide),fun p gp=>rr _ _ (Ym fun R rr=>?_)⟩;have sp:=Yf.aF gp (.lst []);have s2:=s1.trans sp;refine WK (fun l xs H2=>∃ (ts:List Addr) (L:List (Sd×V×Nat)),xs=ts.map V.ref/\Yf (upd H1 p (.lst [])) H2/\H2 l=some (.lst (ts.map V.ref))/\l≠p/\ts.length<=100/\pq H2 lo tn ts L/\(∀ w∈L,dR w.1<dR s)/\(s = .aR->n=L.length+(L.map fun w=>w.2.2).sum/\∀ w∈L,w.1 = .pk)/\(s = .pk->∃ w,L=[w]/\w.2.2=n)/\(s = .wh\/s = .bD->L=[])) (fun R r=>?_) ?_
 ·walk_at "rd"
  exact ⟨bk,lo,tn,a,s,v,n,rfl,hS.kt (Yx s2),hv.kt (Yx s2),fun D ts L H' s' gD hD hl pr w1 w2 w3 w4 _=>r D _ H' (aG.of hD) ⟨ts,L,rfl,s',hD,(fun e=>by rw [e,Yc] at gD;cases gD),hl,pr,w1,w2,w3,w4⟩⟩
 ·rintro l xs H2 hS2 ⟨ts,L,rfl,s3,hl,hlp,Fb,pr,w1,w2,w3,w4⟩
  have rN:=pr.1;refine ⟨WgV H1 lo tn bk a v p l ts L,⟨none,none,none,[],rfl,sp.trans s3,s3 _ _ Yc,hl,pr,⟨rfl,fun i k n h=>by cases h⟩⟩,fun i σ H' _ ⟨_,_,_,_,_,_,_,hl',_,_⟩=>aG.of hl',?_,?_⟩
  ·rintro i x σ H' hx ⟨o4,o5,o6,ks,rfl,s4,mH,Jk,pr4,mJ⟩
   rw [List.getElem?_map] at hx
   obtain ⟨t,ht,rfl⟩:=Option.map_eq_some_iff.mp hx;have hi:=(List.getElem?_eq_some_iff.mp ht).1;have hwi:L[i]?=some (L[i]'(by omega)):=List.getElem?_eq_getElem _;generalize L[i]'(by omega)=w at hwi;have pC:=List.mem_of_getElem? hwi;obtain ⟨b,e1,e2,e3⟩:=pr4.2 i t w ht hwi;have kl:=mJ.1;rw [List.length_map,List.length_take] at kl
   refine ⟨t,_,rfl,aJ.of e1,rfl,_,_,rfl,_,_,rfl,rfl,Ym fun R rr=>?_⟩;walk_at "rd";have:=w1 w pC;refine ⟨bk,lo,tn,b,w.1,w.2.1,w.2.2,rfl,e2,e3,by omega,fun k r H5 s5 Jl=>rr _ _ (Ym fun R rr=>?_)⟩;walk_at "rd";refine YA (by intro z;cases z) (rr _ _ ?_);walk_at "rd";refine ⟨.inl ⟨rfl,_,aG.of (s5 _ _ mH)⟩,_,s5 _ _ mH,few (by simp;omega),?_⟩;have tp:Tp H' (upd H5 p (.lst (ks.map V.ref++[.ref k]))):=(YR (Yx s5)).trans (Ws (s5 _ _ mH));have nm:∀ w∈L,w.1 ≠ .aR:=fun w hw e=>by
    have:=w1 w hw;rw [e] at this
    cases s<;>simp [dR] at this
   refine ⟨_,_,_,ks++[k],rfl,.bT gp (s4.trans s5) _,by rw [Yc,List.map_append];rfl,by rw [Yg hlp];exact s5 _ _ Jk,⟨pr4.1,fun j t w h1 h2=>?_⟩,⟨?_,fun j k' n' h1 h2=>?_⟩⟩
   ·obtain ⟨p',e1,e2,e3⟩:=pr4.2 j t w h1 h2
    exact ⟨p',tp _ _ e1,e2.tp tp,e3.tp tp (nm w (List.mem_of_getElem? h2))⟩
   ·rw [List.length_append,List.length_map,List.length_take,kl,List.length_singleton];omega
   ·rw [XF hwi,List.map_append] at h2
    by_cases c:j<ks.length
    ·rw [List.getElem?_append_left c] at h1
     rw [List.getElem?_append_left (by rw [List.length_map,List.length_take];omega)] at h2
     obtain ⟨r',e⟩:=mJ.2 j k' n' h1 h2;exact ⟨r',tp _ _ e⟩
    ·have hj:j=ks.length:=by
      have:=(List.getElem?_eq_some_iff.mp h1).1;rw [List.length_append,List.length_singleton] at this
      omega
     subst hj;rw [List.getElem?_append_right (Nat.le_refl _),Nat.sub_self] at h1
     cases Option.some.inj h1
     rw [List.getElem?_append_right (by rw [List.length_map,List.length_take];omega),List.length_map,List.length_take,show ks.length - min i L.length=0 by omega] at h2
     cases Option.some.inj h2
     exact ⟨r,by rw [Yg (YG Jl (s5 _ _ mH) (by intro z;cases z))];exact Jl⟩
  ·rintro σ H' ⟨o4,o5,o6,ks,rfl,s4,mH,Jk,pr4,mJ⟩
   rw [List.length_map,rN,List.take_length] at mJ
   have kl:=mJ.1;rw [List.length_map] at kl
   refine rr _ _ ?_;walk_at "rd";have s5:=s1.trans s4;refine ⟨lo,tn,a,s,v,n,p,ks,_,rfl,hS.kt (Yx s5),hv.kt (Yx s5),mH,mJ,by omega,fun e=>?_,fun e=>?_,fun e=>?_,fun k r H6 s6 hk6=>q k r H6 (s5.trans s6) hk6⟩
   ·rw [(w2 e).1,List.length_map]
   ·obtain ⟨w,rfl,rfl⟩:=w3 e;rfl
   ·rw [w4 e];rfl
inductive pD (K:W.Frag) (vs:List V) (H:Hp) (Q:VK) (E_:XK):Prop
 | mk (bk:V) (lo:Int) (tn:Nat) (a:Addr) (s:Sd) (v:V) (n:Nat) (h0:vs=[bk,.ref a,v]) (h1:Y9 H lo tn a s) (h2:Vx H lo s v n) (h3:∀ k r H',Yf H H'->H' k=some (.tup (.int (n:Nat)::r))->Q (.ref k) H')
theorem Jm (s:Sd):dR s<=3:=by cases s<;>decide
theorem Z3B {k:Nat} {Z4 Z5 Z1 Z2 Z3 Z0:Addr} {aq ao:Addr} {ak aj:Addr} {aA au:Addr} (R:g.Raw "key_or_refusal" "key_or_refusal" yL ["book","shape","value"]) (pB:g.Fn k "weighed" ["book","shape","value"] (pA g.K 3)):g.Fn (k+1) "key_or_refusal" ["book","shape","value"] (pD g.K):=by
 refine R.fn Jc (fun vs H Q E h=>by obtain ⟨bk,lo,tn,a,s,v,n,rfl,hS,hv,q⟩:=h;rfl) fun f_ cdv A outer s H vs Q E hr h=>?_
 obtain ⟨bk,lo,tn,a,s,v,n,rfl,hS,hv,q⟩:=h;refine ⟨_,(@Yd _ _ _ _ _ (@Yr _ _ (3) _ _ _ _ Jc.nd rfl (.inl rfl) (@Yv _ _ _ _ _ _ _ _ _ _ _ _ pB hr (@Ya _ _ _ _ _ (pv 0) (@Ya _ _ _ _ _ (pv 1) (@Ya _ _ _ _ _ (pv 2) Yb (by rfl)) (by rfl)) (by rfl)) (by omega) (by rfl) (by rfl) (by decide) (by rfl) (by rfl)) (by rfl) (by first | exact .inl rfl | exact .inr rfl | assumption)) (@Yd _ _ _ _ _ (@Yu _ _ _ _ _ _ _ _ (@Yo _ _ _ _ _ _ _ _ XM (pv 3) YW (Yl _)) (@Ye _ _ _ YB) Yq) (@Ye _ _ _ (@Yn _ _ _ _ (pv 3))))),?_⟩;refine Ym fun R rr=>?_
 walk_at "rd";refine ⟨bk,lo,tn,a,s,v,n,rfl,hS,hv,Jm s,fun k r H' s' hk=>rr _ _ (Ym fun R rr=>?_)⟩;walk_at "rd";refine YA (by intro z;cases z) (rr _ _ ?_);walk_at "rd";exact q k r H' s' hk
inductive mK (K:W.Frag) (vs:List V) (H:Hp) (Q:VK) (E_:XK):Prop
 | mk (bk:V) (lo:Int) (tn:Nat) (a:Addr) (s:Sd) (v:V) (n:Nat) (h0:vs=[bk,.ref a,v]) (h1:Y9 H lo tn a s) (h2:Vx H lo s v n) (h3:∀ H',Yf H H'->Q (.bl true) H')
theorem YfA {k:Nat} {Z4 Z5 Z1 Z2 Z3 Z0:Addr} {aq ao:Addr} {ak aj:Addr} {aA au:Addr} (R:g.Raw "fits" "fits" Q9 ["book","shape","value"]) (pB:g.Fn k "weighed" ["book","shape","value"] (pA g.K 3)):g.Fn (k+1) "fits" ["book","shape","value"] (mK g.K):=by
 refine R.fn Yfz (fun vs H Q E h=>by obtain ⟨bk,lo,tn,a,s,v,n,rfl,hS,hv,q⟩:=h;rfl) fun f_ cdv A outer s H vs Q E hr h=>?_
 obtain ⟨bk,lo,tn,a,s,v,n,rfl,hS,hv,q⟩:=h;refine ⟨_,(@Ye _ _ _ (@Yn _ _ _ _ (@Y2 _ _ _ _ _ _ _ _ Wg (@Yv _ _ _ _ _ _ _ _ _ _ _ _ pB hr (@Ya _ _ _ _ _ (pv 0) (@Ya _ _ _ _ _ (pv 1) (@Ya _ _ _ _ _ (pv 2) Yb (by rfl)) (by rfl)) (by rfl)) (by omega) (by rfl) (by rfl) (by decide) (by rfl) (by rfl)) YW (Yl _)))),?_⟩;walk_at "rd";refine ⟨bk,lo,tn,a,s,v,n,rfl,hS,hv,Jm s,fun k r H' s' hk=>?_⟩;rw [decide_eq_false (by intro z;cases z)];exact q H' s'
inductive jX (K:W.Frag) (vs:List V) (H:Hp) (Q:VK) (E_:XK):Prop
 | mk (bk:V) (lo:Int) (tn:Nat) (a:Addr) (s:Sd) (v:V) (n:Nat) (h0:vs=[bk,.ref a,v]) (h1:Y9 H lo tn a s) (h2:Vx H lo s v n) (h3:∀ H',Yf H H'->Q .non H')
theorem Z3j {k:Nat} {Z4 Z5 Z1 Z2 Z3 Z0:Addr} {aq ao:Addr} {ak aj:Addr} {aA au:Addr} (R:g.Raw "refuse_no_value" "refuse_no_value" yM ["book","shape","value"]) (zZ:g.Fn k "fits" ["book","shape","value"] (mK g.K)):g.Fn (k+1) "refuse_no_value" ["book","shape","value"] (jX g.K):=by
 refine R.fn Z3b (fun vs H Q E h=>by obtain ⟨bk,lo,tn,a,s,v,n,rfl,hS,hv,q⟩:=h;rfl) fun f_ cdv A outer s H vs Q E hr h=>?_
 obtain ⟨bk,lo,tn,a,s,v,n,rfl,hS,hv,q⟩:=h;refine ⟨_,(@Ye _ _ _ (@Yu _ _ _ _ _ _ _ _ (@XR _ _ _ _ (@Xh _ _ _ (@Yv _ _ _ _ _ _ _ _ _ _ _ _ zZ hr (@Ya _ _ _ _ _ (pv 0) (@Ya _ _ _ _ _ (pv 1) (@Ya _ _ _ _ _ (pv 2) Yb (by rfl)) (by rfl)) (by rfl)) (by omega) (by rfl) (by rfl) (by decide) (by rfl) (by rfl)) (by intro _;rfl))) (@Ye _ _ _ YB) Yq)),?_⟩;walk_at "rd";refine ⟨bk,lo,tn,a,s,v,n,rfl,hS,hv,fun H' s'=>?_⟩;walk_at "rd";exact q H' s'
inductive pF (K:W.Frag) (vs:List V) (H:Hp) (Q:VK) (E_:XK):Prop
 | mk (bk:V) (lo:Int) (tn:Nat) (a:Addr) (s:Sd) (v:V) (n:Nat) (h0:vs=[bk,.ref a,v]) (h1:Y9 H lo tn a s) (h2:Vx H lo s v n) (h3:∀ H',Yf H H'->Q (.int (n:Nat)) H')
theorem Yb9 {k:Nat} {Z4 Z5 Z1 Z2 Z3 Z0:Addr} {aq ao:Addr} {ak aj:Addr} {aA au:Addr} (R:g.Raw "size_of" "size_of" yN ["book","shape","value"]) (Z3Q:g.Fn k "key_or_refusal" ["book","shape","value"] (pD g.K)):g.Fn (k+1) "size_of" ["book","shape","value"] (pF g.K):=by
 refine R.fn Yb7 (fun vs H Q E h=>by obtain ⟨bk,lo,tn,a,s,v,n,rfl,hS,hv,q⟩:=h;rfl) fun f_ cdv A outer s H vs Q E hr h=>?_
 obtain ⟨bk,lo,tn,a,s,v,n,rfl,hS,hv,q⟩:=h;refine ⟨_,(@Ye _ _ _ (@Yn _ _ _ _ (@Ys _ _ _ _ _ _ _ YD (@Yv _ _ _ _ _ _ _ _ _ _ _ _ Z3Q hr (@Ya _ _ _ _ _ (pv 0) (@Ya _ _ _ _ _ (pv 1) (@Ya _ _ _ _ _ (pv 2) Yb (by rfl)) (by rfl)) (by rfl)) (by omega) (by rfl) (by rfl) (by decide) (by rfl) (by rfl)) Yh (fun _ _=>rfl)))),?_⟩;walk_at "rd";exact ⟨bk,lo,tn,a,s,v,n,rfl,hS,hv,fun k r H' s' hk=>⟨_,rfl,_,aJ.of hk,_,Yk (j:=0) rfl,q H' s'⟩⟩
def SameBut (p:Addr) (H H':Hp):Prop:=∀ q o,q≠p->H q=some o->H' q=some o
structure Cs where
 w:Addr
 row:Addr
 tab:Addr
def fW (lo:Int) (span:Nat):List (Str×V):=[("low",.int lo),("span",.int span)]
def fR (P T:Addr):List (Str×V):=[("parts",.ref P),("table",.ref T)]
def W9 (P L:Addr):List (Str×V):=[("parts",.ref P),("ways",.ref L)]
def mf (c:Addr) (fs:List (Str×V)):List (Str×V):=("counts",.ref c)::fs
theorem Vh {fs:List (Str×V)} (h:fs.length<=3):fs.length<1000:=by omega
def isC (C:Cs) (c:Addr):Prop:=c=C.w\/c=C.row
inductive z6 (C:Cs) (vs:List V) (H:Hp) (Q:VK) (E_:XK):Prop
 | mk (p dx cl:Addr) (h0:vs=[.ref p]) (h1:isC C cl) (h2:H p=some (.ins cl dx [])) (h3:∀ c,H c=none->Q .non (upd (upd H c (.lst [])) p (.ins cl dx [("counts",.ref c)])))
theorem Z3C {Z4 Z5 Z1 Z2 Z3 Z0:Addr} {aq ao:Addr} {ak aj:Addr} {aA au:Addr} (R:g.jU "Maker" "__init__" "Maker.__init__" zQ ["self"]) (Zb:Cls g.K Z1) (Z9:Yp g.K Z1 "counts") (Zc:Yp g.K Z1 "parts") (Zd:Yp g.K Z1 "table") (Z8:Cls g.K Z0) (Z7:Yp g.K Z0 "counts") (Ze:Yp g.K Z0 "low") (Za:Yp g.K Z0 "span"):g.Cf (1) "Maker" "__init__" ["self"] (z6 (Cs.mk Z0 Z1 Z2)):=by
 refine R.cf Z3z (fun vs H Q E h=>by obtain ⟨p,dx,cl,rfl,hC,hp,q⟩:=h;rfl) fun f_ cdv A outer s H vs Q E hr h=>?_
 obtain ⟨p,dx,cl,rfl,hC,hp,q⟩:=h;refine ⟨_,(@Ye _ _ _ (@XU _ _ _ _ _ _ _ _ (pv 0) (@Y3 _ _ _ _ Yb) rfl)),?_⟩;walk_at "rd";refine ⟨few (by decide),fun c hc=>⟨cl,dx,[],by rw [Yg (Yj hp hc)];exact hp,?_,?_,by decide,q c hc⟩⟩
 ·rcases hC with rfl | rfl<;>assumption
 ·rcases hC with rfl | rfl<;>assumption
theorem n1 {a b:Str} (h:(a==b)=false):¬ a=b:=fun z=>by rw [z] at h;simp at h
theorem z7 {f:Str} {v:V} {c:Addr} (h:¬ (("counts":Str)=f)):Xb f v [("counts",.ref c)]=mf c [(f,v)]:=by simp only [Xb,if_neg h];rfl
theorem put2 {f f':Str} {v v':V} {c:Addr} (h:¬ (("counts":Str)=f)) (h2:¬ f'=f):Xb f v (mf c [(f',v')])=mf c [(f',v'),(f,v)]:=by
 show Xb f v [(("counts":Str),V.ref c),(f',v')]=_
 simp only [Xb,if_neg h,if_neg h2];rfl
inductive Jo (C:Cs) (vs:List V) (H:Hp) (Q:VK) (E_:XK):Prop
 | mk (p dx:Addr) (lo:Int) (span:Nat) (h0:vs=[.ref p,.int lo,.int (lo+span)]) (h1:H p=some (.ins C.w dx [])) (h2:∀ c H',H c=none->SameBut p H H'->H' p=some (.ins C.w dx (mf c (fW lo span)))->H' c=some (.lst [])->Q .non H')
theorem Z1U {k:Nat} {Z4 Z5 Z1 Z2 Z3 Z0:Addr} {aq ao:Addr} {ak aj:Addr} {aA au:Addr} (R:g.cY "WholeMaker" Z0 "WholeMaker.__init__" ZP ["self","low","high"]) (z8:g.Cf k "Maker" "__init__" ["self"] (z6 (Cs.mk Z0 Z1 Z2))) (Z8:Cls g.K Z0) (Z7:Yp g.K Z0 "counts") (Ze:Yp g.K Z0 "low") (Za:Yp g.K Z0 "span"):g.Ma (k+1) "WholeMaker" Z0 ["self","low","high"] (Jo (Cs.mk Z0 Z1 Z2)):=by
 refine R.ma Z1R (fun vs H Q E h=>by obtain ⟨p,dx,lo,span,rfl,hp,q⟩:=h;rfl) fun f_ cdv A outer s H vs Q E hr h=>?_
 obtain ⟨p,dx,lo,span,rfl,hp,q⟩:=h;refine ⟨_,(@Yd _ _ _ _ _ (@Y4 _ _ _ _ (@HD _ _ _ _ _ _ _ _ _ _ _ _ _ _ _ z8 hr (@Ya _ _ _ _ _ (pv 0) Yb (by rfl)) (by omega) (by rfl) (by rfl) (by decide) (by rfl) (by rfl) (by rfl)) (by rfl)) (@Yd _ _ _ _ _ (@XU _ _ _ _ _ _ _ _ (pv 0) (pv 1) rfl) (@Ye _ _ _ (@XU _ _ _ _ _ _ _ _ (pv 0) (@Yt _ _ _ _ _ _ _ _ Xz (pv 2) (pv 1)) rfl)))),?_⟩;walk_at "rd";refine ⟨p,dx,_,rfl,.inl rfl,hp,fun c hc=>?_⟩;have hne:p≠c:=Yj hp hc;refine ⟨_,dx,_,Yc,Z8,Ze,Vh (show 1<=3 by decide),_,dx,_,Yc,Z8,Za,Vh (Nat.le_trans (W5 _ _ _) (show 2<=3 by decide)),?_⟩;refine q c _ hc (fun x o hx h=>?_) ?_ ?_
 ·rw [Yg hx,Yg hx,Yg hx,Yg (Yj h hc)];exact h
 ·rw [Yc,show lo+(span:Int) - lo=span by omega,z7 (n1 (by decide +kernel)),put2 (n1 (by decide +kernel)) (n1 (by decide +kernel))];rfl
 ·rw [Yg (Ne.symm hne),Yg (Ne.symm hne),Yg (Ne.symm hne),Yc]
inductive Jp (C:Cs) (vs:List V) (H:Hp) (Q:VK) (E_:XK):Prop
 | mk (T dx P:Addr) (as:List Addr) (h0:vs=[.ref T,.ref P]) (h1:H T=some (.ins C.tab dx [])) (h2:H P=some (.lst (as.map V.ref))) (h3:as.length<=100) (h4:∀ L (ws:List Addr) H',H L=none->(∀ x∈ws,H x=none)->ws.Nodup->ws.length=as.length+1->SameBut T H H'->H' T=some (.ins C.tab dx (W9 P L))->H' L=some (.lst (ws.map V.ref))->(∀ x∈ws,H' x=some (.lst []))->Q .non H')
theorem Z2x {Z4 Z5 Z1 Z2 Z3 Z0:Addr} {aq ao:Addr} {ak aj:Addr} {aA au:Addr} (R:g.cY "RowTable" Z2 "RowTable.__init__" zG ["self","parts"]) (aK:g.mg "len"=none) (Zl:g.mg "range"=none) (Zk:Cls g.K Z2) (Zn:Yp g.K Z2 "parts") (Zh:Yp g.K Z2 "ways"):g.Ma (1) "RowTable" Z2 ["self","parts"] (Jp (Cs.mk Z0 Z1 Z2)):=by
 refine R.ma Z2s (fun vs H Q E h=>by obtain ⟨T,dx,P,as,rfl,hT,hP,hl,q⟩:=h;rfl) fun f_ cdv A outer s H vs Q E hr h=>?_
 obtain ⟨T,dx,P,as,rfl,hT,hP,hl,q⟩:=h;refine ⟨_,(@Yd _ _ _ _ _ (@XU _ _ _ _ _ _ _ _ (pv 0) (pv 1) rfl) (@Ye _ _ _ (@XU _ _ _ _ _ _ _ _ (pv 0) (@X5 _ _ _ _ _ _ _ ([none]) ((["place"]:List Str)) _ (YT 0) _ _ (.own .nil) rfl (@Wf _ _ _ _ _ _ rfl Zl (@Ya _ _ _ _ _ (@Yt _ _ _ _ _ _ _ _ Xi (@YH _ _ _ _ _ _ _ _ _ _ aK Yy (@Ya _ _ _ _ _ (pv 1) Yb (by rfl)) (by decide +kernel) (by rfl) (by rfl) (by decide) (by decide) (by rfl) (by rfl)) Yh) Yb (by rfl)) (by rfl)) (fun cl C s₀ H₀ fp pn=>(@Yz _ _ (0) _ (show List.Nodup (["place"]:List Str) by decide +kernel) rfl (.inl rfl) (.inr rfl))) (fun cl C s₀ H₀ fp pn=>Xs) (fun cl C s₀ H₀ fp pn=>(@Y3 _ _ _ _ Yb)) (by intro x hx;simp at hx) (by rfl) (by decide) (by decide +kernel) (by intro _;rfl)) rfl))),?_⟩;walk_at "rd";have nTP:T≠P:=YG hT hP (by simp);refine ⟨_,dx,_,hT,Zk,Zn,by decide,?_⟩;obtain ⟨H1,hH1⟩:∃ H1,H1=upd H T (.ins Z2 dx (Xb "parts" (.ref P) [])):=⟨_,rfl⟩;rw [<- hH1];have z9:H1 T=some (.ins Z2 dx (Xb "parts" (.ref P) [])):=by rw [hH1,Yc]
 have h1:∀ {b:Addr},b≠T->H1 b=H b:=fun n=>by rw [hH1,Yg n]
 refine Uz (n:=as.length+1) (fun D i zs H'=>∃ ws:List Addr,zs=ws.map V.ref/\ws.length=i/\ws.Nodup/\(∀ x∈ws,H1 x=none/\x≠D/\H' x=some (.lst []))/\H' D=some (.lst zs)/\∀ b o,b≠D->H1 b=some o->H' b=some o) (fun R r=>?_) (by omega) ?_ ?_ ?_ ?_
 ·walk_at "rd"
  refine ⟨_,.inl (aG.of ((h1 (Ne.symm nTP)).trans hP)),?_⟩;rw [List.length_map];exact r
 ·intro D hD
  exact ⟨[],rfl,rfl,.nil,fun x hx=>(by cases hx),Yc,fun b o hb e=>by rw [Yg hb];exact e⟩
 ·rintro D i zs H' ⟨ws,rfl,h2,_,_,h3,_⟩
  exact ⟨by rw [List.length_map,h2],h3⟩
 ·rintro D i zs H' hD hi ⟨ws,rfl,hwl,hnd,hws,hd,fr⟩ R r
  walk_at "rd";refine ⟨few (by decide),fun X gX=>?_⟩;have uz:X≠D:=Ne.symm (Yj hd gX);have sX:=Yf.aF gX (.lst []);have gX1:H1 X=none:=by
   cases e:H1 X with
   | none=>rfl
   | some o=>rw [fr X o uz e] at gX;cases gX
  refine r _ _ (sX _ _ hd) ⟨ws++[X],by rw [List.map_append];rfl,by rw [List.length_append,hwl];rfl,?_,fun x hx=>?_,Yc,fun b o hb e=>by rw [Yg hb];exact sX _ _ (fr b o hb e)⟩
  ·rw [List.nodup_append]
   refine ⟨hnd,by simp,fun x hx y hy=>?_⟩;have:y=X:=by simpa using hy
   subst this;intro z;subst z;rw [(hws x hx).2.2] at gX
   cases gX
  ·rcases List.mem_append.mp hx with hx | hx
   ·obtain ⟨k1,k2,k3⟩:=hws x hx
    exact ⟨k1,k2,by rw [Yg k2];exact sX _ _ k3⟩
   ·have:x=X:=by simpa using hx
    subst this;exact ⟨gX1,uz,by rw [Yg uz,Yc]⟩
 ·rintro L zs H' hL ⟨ws,rfl,hwl,hnd,hws,hd,fr⟩
  have Jq:L≠T:=Ne.symm (Yj z9 hL);have nf:∀ {b:Addr},H1 b=none->H b=none:=fun {b} e=>by
   by_cases c:b=T
   ·subst c;rw [z9] at e;cases e
   ·rw [<- h1 c];exact e
  have Jr:=fr T _ (Ne.symm Jq) z9;refine ⟨_,dx,_,Jr,Zk,Zh,Vh (show 1<=3 by decide),?_⟩;have nw:∀ x∈ws,x≠T:=fun x hx=>YG (hws x hx).2.2 Jr (by simp)
  refine q L ws _ (nf hL) (fun x hx=>nf (hws x hx).1) hnd hwl (fun b o hb e=>?_) ?_ (by rw [Yg Jq];exact hd) (fun x hx=>by rw [Yg (nw x hx)];exact (hws x hx).2.2)
  ·rw [Yg hb]
   exact fr b o (Yj ((h1 hb).trans e) hL) ((h1 hb).trans e)
  ·rw [Yc]
   refine congrArg some (congrArg (HO.ins _ _) ?_)
   show Xb "ways" (.ref L) [(("parts":Str),V.ref P)]=W9 P L
   simp only [Xb,if_neg (n1 (a:=("parts":Str)) (b:=("ways":Str)) (by decide +kernel))];rfl
inductive Js (C:Cs) (vs:List V) (H:Hp) (Q:VK) (E_:XK):Prop
 | mk (p dx P:Addr) (as:List Addr) (h0:vs=[.ref p,.ref P]) (h1:H p=some (.ins C.row dx [])) (h2:H P=some (.lst (as.map V.ref))) (h3:as.length<=100) (h4:∀ c T dt L (ws:List Addr) H',H c=none->H T=none->H L=none->(∀ x∈ws,H x=none)->(c::ws).Nodup->ws.length=as.length+1->SameBut p H H'->H' p=some (.ins C.row dx (mf c (fR P T)))->H' c=some (.lst [])->H' T=some (.ins C.tab dt (W9 P L))->H' L=some (.lst (ws.map V.ref))->(∀ x∈ws,H' x=some (.lst []))->Q .non H')
theorem Z2y {k:Nat} {Z4 Z5 Z1 Z2 Z3 Z0:Addr} {aq ao:Addr} {ak aj:Addr} {aA au:Addr} (R:g.cY "RowMaker" Z1 "RowMaker.__init__" zK ["self","parts"]) {cV:Nat} (Z2Q:g.Ma cV "RowTable" Z2 ["self","parts"] (Jp (Cs.mk Z0 Z1 Z2))) (oE:cV+1<=k) (z8:g.Cf k "Maker" "__init__" ["self"] (z6 (Cs.mk Z0 Z1 Z2))) (Zb:Cls g.K Z1) (Z9:Yp g.K Z1 "counts") (Zc:Yp g.K Z1 "parts") (Zd:Yp g.K Z1 "table"):g.Ma (k+1) "RowMaker" Z1 ["self","parts"] (Js (Cs.mk Z0 Z1 Z2)):=by
 refine R.ma Z2t (fun vs H Q E h=>by obtain ⟨p,dx,P,as,rfl,hp,hP,hl,q⟩:=h;rfl) fun f_ cdv A outer s H vs Q E hr h=>?_
 obtain ⟨p,dx,P,as,rfl,hp,hP,hl,q⟩:=h;refine ⟨_,(@Yd _ _ _ _ _ (@Y4 _ _ _ _ (@HD _ _ _ _ _ _ _ _ _ _ _ _ _ _ _ z8 hr (@Ya _ _ _ _ _ (pv 0) Yb (by rfl)) (by omega) (by rfl) (by rfl) (by decide) (by rfl) (by rfl) (by rfl)) (by rfl)) (@Yd _ _ _ _ _ (@XU _ _ _ _ _ _ _ _ (pv 0) (pv 1) rfl) (@Ye _ _ _ (@XU _ _ _ _ _ _ _ _ (pv 0) (@Uv _ _ _ _ _ _ _ _ _ _ _ _ _ Z2Q hr (@Ya _ _ _ _ _ (pv 1) Yb (by rfl)) (by omega) (by rfl) (by rfl) (by decide) (by rfl) (by rfl)) rfl)))),?_⟩;walk_at "rd";refine ⟨p,dx,_,rfl,.inr rfl,hp,fun c hc=>?_⟩;have hne:p≠c:=Yj hp hc;have npP:p≠P:=YG hp hP (by simp);have gq:P≠c:=Yj hP hc;refine ⟨_,dx,_,Yc,Zb,Zc,Vh (show 1<=3 by decide),?_⟩;obtain ⟨H1,hH1⟩:∃ H1,H1=upd (upd (upd H c (.lst [])) p (.ins Z1 dx [("counts",.ref c)])) p (.ins Z1 dx (Xb "parts" (.ref P) [("counts",.ref c)])):=⟨_,rfl⟩;rw [<- hH1];have Aa:H1 p=some (.ins Z1 dx (mf c [("parts",.ref P)])):=by rw [hH1,Yc,z7 (n1 (by decide +kernel))]
 have Ab:H1 c=some (.lst []):=by rw [hH1,Yg (Ne.symm hne),Yg (Ne.symm hne),Yc]
 have h1:∀ {b:Addr} {o:HO},b≠p->H b=some o->H1 b=some o:=fun n e=>by rw [hH1,Yg n,Yg n,Yg (Yj e hc)];exact e
 have nf:∀ {b:Addr},H1 b=none->H b=none:=fun {b} e=>by
  cases z:H b with
  | none=>rfl
  | some o =>
   exfalso;by_cases cc:b=p
   ·subst cc;rw [Aa] at e;cases e
   ·rw [h1 cc z] at e;cases e
 intro T dt gT gdt hnd;have sd:=Yf.aF gdt (.own T);have Ac:upd H1 dt (.own T) T=none:=by rw [Yg (Ne.symm hnd)];exact gT
 have s12:=sd.trans (.aF Ac (.ins Z2 dt []));refine ⟨T,dt,P,as,rfl,Yc,s12 _ _ (h1 (Ne.symm npP) hP),hl,fun L ws H3 gL uD Nf hwl sb Ad pG uE=>?_⟩;have Jt:p≠T:=Yj Aa gT;have ncT:c≠T:=Yj Ab gT;have pH:=sb _ _ Jt (s12 _ _ Aa);have uF:=sb _ _ ncT (s12 _ _ Ab);have Ae:c∉ws:=fun z=>by have:=uD c z;rw [s12 _ _ Ab] at this;cases this
 have pI:∀ x∈ws,x≠p:=fun x hx=>YG (uE x hx) pH (by simp)
 have npL:L≠p:=YG pG pH (by simp);refine ⟨rfl,_,dx,_,pH,Zb,Zd,Vh (show 2<=3 by decide),?_⟩;refine q c T dt L ws _ hc (nf gT) (nf (s12.free gL)) (fun x hx=>nf (s12.free (uD x hx))) (List.nodup_cons.mpr ⟨Ae,Nf⟩) hwl (fun b o hb e=>?_) ?_ ?_ ?_ ?_ (fun x hx=>?_)
 ·rw [Yg hb]
  exact sb _ _ (Yj (h1 hb e) gT) (s12 _ _ (h1 hb e))
 ·rw [Yc,put2 (n1 (by decide +kernel)) (n1 (by decide +kernel))];rfl
 ·rw [Yg (Ne.symm hne)];exact uF
 ·rw [Yg (Ne.symm Jt)];exact Ad
 ·rw [Yg npL];exact pG
 ·rw [Yg (pI x hx)];exact uE x hx
def lf (b:V) (d:Addr):List (Str×V):=[("book",b),("makers",.ref d)]
theorem nbm:¬ (("book":Str)="makers"):=by decide +kernel
theorem Yf7 (b:V) (d:Addr):Xb "makers" (.ref d) (Xb "book" b [])=lf b d:=by
 simp only [Xb,if_neg nbm];rfl
theorem W2 (b:V) (d:Addr):(lf b d).lookup ("makers":Str)=some (.ref d):=by
 show List.lookup ("makers":Str) [(("book":Str),b),(("makers":Str),V.ref d)]=_
 rw [List.lookup_cons,show (("makers":Str)==("book":Str))=false by decide +kernel,List.lookup_cons,show (("makers":Str)==("makers":Str))=true by decide +kernel]
theorem Ju (b:V) (d:Addr) {m:Str} (h1:(m==("book":Str))=false) (h2:(m==("makers":Str))=false):(lf b d).lookup m=none:=by
 show List.lookup m [(("book":Str),b),(("makers":Str),V.ref d)]=_
 rw [List.lookup_cons,h1,List.lookup_cons,h2];rfl
inductive Jv (P:Program) (w:World) (C:Addr) (vs:List V) (H:Hp) (Q:VK) (E_:XK):Prop
 | mk (p dx:Addr) (b:V) (h0:vs=[.ref p,b]) (h1:H p=some (.ins C dx [])) (h2:∀ d H',H d=none->SameBut p H H'->H' p=some (.ins C dx (lf b d))->H' d=some (cU P w d [])->Q .non H')
theorem Z3k {Z4 Z5 Z1 Z2 Z3 Z0:Addr} {aq ao:Addr} {ak aj:Addr} {aA au:Addr} (R:g.cY "Lister" Z5 "Lister.__init__" zA ["self","book"]) (Zr:Cls g.K Z5) (Zu:Yp g.K Z5 "book") (Zm:Yp g.K Z5 "makers"):g.Ma (1) "Lister" Z5 ["self","book"] (Jv g.P g.w Z5):=by
 refine R.ma Z3f (fun vs H Q E h=>by obtain ⟨p,dx,b,rfl,hp,q⟩:=h;rfl) fun f_ cdv A outer s H vs Q E hr h=>?_
 obtain ⟨p,dx,b,rfl,hp,q⟩:=h;refine ⟨_,(@Yd _ _ _ _ _ (@XU _ _ _ _ _ _ _ _ (pv 0) (pv 1) rfl) (@Ye _ _ _ (@XU _ _ _ _ _ _ _ _ (pv 0) Yec rfl))),?_⟩;walk_at "rd";refine ⟨Z5,dx,[],hp,Zr,Zu,by decide,fun d hd=>?_⟩;have hne:p≠d:=Yj Yc hd;rw [Yg (Ne.symm hne)] at hd
 refine ⟨Z5,dx,_,by rw [Yg hne];exact Yc,Zr,Zm,by simp [Xb],q d _ hd (fun x o hx h=>?_) ?_ ?_⟩
 ·rw [Yg hx,Yg (Yj h hd),Yg hx];exact h
 ·rw [Yc,Yf7]
 ·rw [Yg (Ne.symm hne),Yc]
  rfl
theorem Xa {H:Hp} {a b:Addr} {o:HO} (h:upd H a o b=none):H b=none:=by
 by_cases e:b=a
 ·subst e;rw [Yc] at h;cases h
 ·rw [Yg e] at h;exact h
theorem W3 {H H':Hp} {x dx:Addr} {o u:HO} (hx:H x=none) (hdx:H dx=none) (sb:SameBut x (upd (upd H dx o) x u) H'):Yf H H':=fun y z h=>by
 have n1:y≠x:=Yj h hx;have n2:y≠dx:=Yj h hdx;exact sb _ _ n1 (by rw [Yg n1,Yg n2];exact h)
def cn:Bool->List V
 | true=>[.int 1]
 | false=>[]
theorem XG (c:Addr) (fs:List (Str×V)):(mf c fs).lookup ("counts":Str)=some (.ref c):=rfl
theorem Jw {a b m:Str} {x y:V} (h:(m==a)=false) (h2:(m==b)=true):List.lookup m [(a,x),(b,y)]=some y:=by rw [List.lookup_cons,h,List.lookup_cons,h2]
theorem Jx {a b c m:Str} {x y z:V} (h:(m==a)=false) (h2:(m==b)=false) (h3:(m==c)=true):List.lookup m [(a,x),(b,y),(c,z)]=some z:=by rw [List.lookup_cons,h,List.lookup_cons,h2,List.lookup_cons,h3]
theorem mL {a b c m:Str} {x y z:V} (h:(m==a)=false) (h2:(m==b)=false) (h3:(m==c)=false):List.lookup m [(a,x),(b,y),(c,z)]=none:=by rw [List.lookup_cons,h,List.lookup_cons,h2,List.lookup_cons,h3];rfl
theorem rO {a b m:Str} {x y:V} (h:(m==a)=false) (h2:(m==b)=false):List.lookup m [(a,x),(b,y)]=none:=by rw [List.lookup_cons,h,List.lookup_cons,h2];rfl
theorem Af {a b c m:Str} {x y z:V} (h:(m==a)=false) (h2:(m==b)=true):List.lookup m [(a,x),(b,y),(c,z)]=some y:=by rw [List.lookup_cons,h,List.lookup_cons,h2]
theorem Yf8 (c:Addr) (lo:Int):(mf c (fW lo 200)).lookup ("low":Str)=some (.int lo):=Af (by decide +kernel) (by decide +kernel)
theorem Fd (c:Addr) (lo:Int):(mf c (fW lo 200)).lookup ("reckoned":Str)=none:=mL (by decide +kernel) (by decide +kernel) (by decide +kernel)
theorem Yf9 (c:Addr) (lo:Int):(mf c (fW lo 200)).lookup ("count_at":Str)=none:=mL (by decide +kernel) (by decide +kernel) (by decide +kernel)
theorem Yga (c:Addr) (lo:Int):(mf c (fW lo 200)).lookup ("value_at":Str)=none:=mL (by decide +kernel) (by decide +kernel) (by decide +kernel)
theorem Fe (c P T:Addr):(mf c (fR P T)).lookup ("reckoned":Str)=none:=mL (by decide +kernel) (by decide +kernel) (by decide +kernel)
theorem Ygb (c P T:Addr):(mf c (fR P T)).lookup ("count_at":Str)=none:=mL (by decide +kernel) (by decide +kernel) (by decide +kernel)
theorem Ygc (c P T:Addr):(mf c (fR P T)).lookup ("value_at":Str)=none:=mL (by decide +kernel) (by decide +kernel) (by decide +kernel)
theorem Yek (c P T:Addr):(mf c (fR P T)).lookup ("parts":Str)=some (.ref P):=Af (by decide +kernel) (by decide +kernel)
theorem Yel (c P T:Addr):(mf c (fR P T)).lookup ("table":Str)=some (.ref T):=Jx (by decide +kernel) (by decide +kernel) (by decide +kernel)
theorem Yem (P L:Addr):(W9 P L).lookup ("parts":Str)=some (.ref P):=rfl
theorem VX (P L:Addr):(W9 P L).lookup ("ways":Str)=some (.ref L):=Jw (by decide +kernel) (by decide +kernel)
theorem Fg (P L:Addr):(W9 P L).lookup ("add_size":Str)=none:=rO (by decide +kernel) (by decide +kernel)
theorem Ygd (P L:Addr):(W9 P L).lookup ("ways_at":Str)=none:=rO (by decide +kernel) (by decide +kernel)
def Ag:Sp:=fun vs H Q _=>vs=[.int 0]/\Q (.int 0) H
theorem Z3D {Z4 Z5 Z1 Z2 Z3 Z0:Addr} {aq ao:Addr} {ak aj:Addr} {aA au:Addr} (R:g.Raw "least_distance" "least_distance" yO ["size"]):g.Fn (1) "least_distance" ["size"] (Ag):=by
 refine R.fn Z3y (fun vs H Q E h=>by obtain ⟨rfl,q⟩:=h;rfl) fun f_ cdv A outer s H vs Q E hr h=>?_
 obtain ⟨rfl,q⟩:=h;refine ⟨_,(@Ye _ _ _ (@Yn _ _ _ _ (@Yt _ _ _ _ _ _ _ _ Gg (@Yt _ _ _ _ _ _ _ _ Gf Yh (pv 0)) Yh))),?_⟩;walk_at "rd";exact ⟨⟨by omega,by omega,by decide⟩,by decide,q⟩
inductive uG (C:Cs) (vs:List V) (H:Hp) (Q:VK) (E_:XK):Prop
 | mk (p dx c:Addr) (lo:Int) (h0:vs=[.ref p,.int 0]) (h1:H p=some (.ins C.w dx (mf c (fW lo 200)))) (h2:Q (.int 1) H)
theorem Z1V {k:Nat} {Z4 Z5 Z1 Z2 Z3 Z0:Addr} {aq ao:Addr} {ak aj:Addr} {aA au:Addr} (R:g.aW Z0 "reckoned" "WholeMaker.reckoned" ZQ ["self","size"]) (Ah:g.Fn k "least_distance" ["size"] (Ag)) (iz:g.mg "max"=none) (iB:g.mg "min"=none) (Z8:Cls g.K Z0) (Z7:Yp g.K Z0 "counts") (Ze:Yp g.K Z0 "low") (Za:Yp g.K Z0 "span"):g.Me (k+1) Z0 "reckoned" ["self","size"] (uG (Cs.mk Z0 Z1 Z2)):=by
 refine R.me Jg (fun vs H Q E h=>by obtain ⟨p,dx,c,lo,rfl,hp,q⟩:=h;rfl) fun f_ cdv A outer s H vs Q E hr h=>?_
 obtain ⟨p,dx,c,lo,rfl,hp,q⟩:=h;refine ⟨_,(@Yd _ _ _ _ _ (@Yr _ _ (2) _ _ _ _ Jg.nd rfl (.inl rfl) (@YH _ _ _ _ _ _ _ _ _ _ iB (Ox rfl) (@Ya _ _ _ _ _ (@Y6 _ _ _ _ _ (pv 0) rfl) (@Ya _ _ _ _ _ (@Yt _ _ _ _ _ _ _ _ Xz (@Yt _ _ _ _ _ _ _ _ Gf Yh (pv 1)) Yh) Yb (by rfl)) (by rfl)) (by decide +kernel) (by rfl) (by rfl) (by decide) (by decide) (by rfl) (by rfl)) (by rfl) (by first | exact .inl rfl | exact .inr rfl | assumption)) (@Ye _ _ _ (@Yn _ _ _ _ (@YH _ _ _ _ _ _ _ _ _ _ iz (Ow rfl) (@Ya _ _ _ _ _ Yh (@Ya _ _ _ _ _ (@Yt _ _ _ _ _ _ _ _ Xi (@Yt _ _ _ _ _ _ _ _ Xz (pv 2) (@Yv _ _ _ _ _ _ _ _ _ _ _ _ Ah hr (@Ya _ _ _ _ _ (pv 1) Yb (by rfl)) (by omega) (by rfl) (by rfl) (by decide) (by rfl) (by rfl))) Yh) Yb (by rfl)) (by rfl)) (by decide +kernel) (by rfl) (by rfl) (by decide) (by decide) (by rfl) (by rfl))))),?_⟩;walk_at "rd";exact ⟨_,_,_,hp,Z8,Za,_,Jx (by decide +kernel) (by decide +kernel) (by decide +kernel),⟨by omega,by omega,by decide⟩,_,rfl,rfl,_,rfl,q⟩
inductive uH (C:Cs) (vs:List V) (H:Hp) (Q:VK) (E_:XK):Prop
 | mk (p dx c:Addr) (lo:Int) (h0:vs=[.ref p,.int 0,.int 0]) (h1:H p=some (.ins C.w dx (mf c (fW lo 200)))) (h2:Q (.int lo) H)
theorem Z1W {k:Nat} {Z4 Z5 Z1 Z2 Z3 Z0:Addr} {aq ao:Addr} {ak aj:Addr} {aA au:Addr} (R:g.aW Z0 "value_at" "WholeMaker.value_at" ZR ["self","size","number"]) (Ah:g.Fn k "least_distance" ["size"] (Ag)) (Z8:Cls g.K Z0) (Z7:Yp g.K Z0 "counts") (Ze:Yp g.K Z0 "low") (Za:Yp g.K Z0 "span"):g.Me (k+1) Z0 "value_at" ["self","size","number"] (uH (Cs.mk Z0 Z1 Z2)):=by
 refine R.me Z1S (fun vs H Q E h=>by obtain ⟨p,dx,c,lo,rfl,hp,q⟩:=h;rfl) fun f_ cdv A outer s H vs Q E hr h=>?_
 obtain ⟨p,dx,c,lo,rfl,hp,q⟩:=h;refine ⟨_,(@Ye _ _ _ (@Yn _ _ _ _ (@Yt _ _ _ _ _ _ _ _ Xi (@Yt _ _ _ _ _ _ _ _ Xi (@Y6 _ _ _ _ _ (pv 0) rfl) (@Yv _ _ _ _ _ _ _ _ _ _ _ _ Ah hr (@Ya _ _ _ _ _ (pv 1) Yb (by rfl)) (by omega) (by rfl) (by rfl) (by decide) (by rfl) (by rfl))) (pv 2)))),?_⟩;walk_at "rd";refine ⟨_,_,_,hp,Z8,Ze,_,Yf8 _ _,rfl,_,rfl,_,rfl,?_⟩;rw [show lo+(0:Int)+0=lo by omega];exact q
inductive uI (C:Cs) (vs:List V) (H:Hp) (Q:VK) (E_:XK):Prop
 | mk (p dx c:Addr) (lo:Int) (n:Bool) (h0:vs=[.ref p,.int 0]) (h1:H p=some (.ins C.w dx (mf c (fW lo 200)))) (h2:H c=some (.lst (cn n))) (h3:∀ H',SameBut c H H'->H' c=some (.lst [.int 1])->Q (.int 1) H')
theorem Z1X {k:Nat} {Z4 Z5 Z1 Z2 Z3 Z0:Addr} {aq ao:Addr} {ak aj:Addr} {aA au:Addr} (R:g.aW Z0 "count_at" "Maker.count_at" ZS ["self","size"]) (Z2a:g.Me k Z0 "reckoned" ["self","size"] (uG (Cs.mk Z0 Z1 Z2))) (aK:g.mg "len"=none) (Z8:Cls g.K Z0) (Z7:Yp g.K Z0 "counts") (Ze:Yp g.K Z0 "low") (Za:Yp g.K Z0 "span"):g.Me (k+1) Z0 "count_at" ["self","size"] (uI (Cs.mk Z0 Z1 Z2)):=by
 refine R.me Z1T (fun vs H Q E h=>by obtain ⟨p,dx,c,lo,n,rfl,hp,hc,q⟩:=h;rfl) fun f_ cdv A outer s H vs Q E hr h=>?_
 obtain ⟨p,dx,c,lo,n,rfl,hp,hc,q⟩:=h;refine ⟨_,(@Yd _ _ _ _ _ (@X8 _ _ _ _ _ _ PassesOwn.never (@Yo _ _ _ _ _ _ _ _ Um (@YH _ _ _ _ _ _ _ _ _ _ aK Yy (@Ya _ _ _ _ _ (@Y6 _ _ _ _ _ (pv 0) rfl) Yb (by rfl)) (by decide +kernel) (by rfl) (by rfl) (by decide) (by decide) (by rfl) (by rfl)) (pv 1) (Yl _)) (@Ye _ _ _ (@Y4 _ _ _ _ (@Xp _ _ _ _ _ _ _ _ _ _ _ _ F.plainAttrs_list F.slot_list_append F.type_list_append Y7 (@Y6 _ _ _ _ _ (pv 0) rfl) (@Ya _ _ _ _ _ (@Wy _ _ _ _ _ _ _ _ _ _ _ _ _ _ _ _ Z2a Z8 hr (pv 0) (@Ya _ _ _ _ _ (@YH _ _ _ _ _ _ _ _ _ _ aK Yy (@Ya _ _ _ _ _ (@Y6 _ _ _ _ _ (pv 0) rfl) Yb (by rfl)) (by decide +kernel) (by rfl) (by rfl) (by decide) (by decide) (by rfl) (by rfl)) Yb (by rfl)) (by omega) (by rfl) (by rfl) (by rfl) (by rfl)) Yb (by rfl)) (by rfl) (by rfl) (by rfl) (by rfl) (by rfl)) (by rfl)))) (@Ye _ _ _ (@Yn _ _ _ _ (@Ys _ _ _ _ _ _ _ YL (@Y6 _ _ _ _ _ (pv 0) rfl) (pv 1) (fun _ _=>rfl))))),?_⟩;walk_at "rd";have jg:p≠c:=YG hp hc (by intro z;cases z);refine Wb (α:=Bool) (fun x σ H'=>σ=[some (.ref p),some (.int 0)]/\SameBut c H H'/\H' c=some (.lst (cn x))) (fun x => !x) (fun x=>if x then 0 else 1) n ⟨rfl,fun _ _ _ e=>e,hc⟩ ?_ ?_ ?_
 ·rintro x σ H' ⟨rfl,sb,hc'⟩ R r
  walk_at "rd";refine ⟨_,_,_,sb _ _ jg hp,Z8,Z7,_,XG _ _,_,rfl,_,.inl (aG.of hc'),?_⟩;have:=r H' ⟨rfl,sb,hc'⟩
  cases x<;>exact this
 ·rintro x σ H' ⟨rfl,sb,hc'⟩ hx
  have hx:x=false:=by simpa using hx
  subst hx;have hp':=sb _ _ jg hp;walk_at "rd";refine ⟨_,_,_,hp',Z8,Z7,_,XG _ _,.inl ⟨rfl,_,aG.of hc'⟩,_,_,hp',Fd _ _,_,_,_,hp',Z8,Z7,_,XG _ _,_,rfl,_,.inl (aG.of hc'),p,dx,c,lo,rfl,hp',c,rfl,_,hc',few (by decide),fun b o nb e=>by rw [Yg nb];exact sb b o nb e,true,Yc,by decide⟩
 ·rintro x σ H' ⟨rfl,sb,hc'⟩ hx
  have hx:x=true:=by simpa using hx
  subst hx;walk_at "rd";exact ⟨_,_,_,sb _ _ jg hp,Z8,Z7,_,XG _ _,_,rfl,_,aG.of hc',_,Yk (j:=0) rfl,q H' sb hc'⟩
theorem Ycb {g:TG} {tb:TS} {D:Ends} {σ:St} {H:Hp} {ta:TA} {n:Nat} (Pv:Nat->St->Hp->Prop) (ha:∀ R:List V->Hp->Prop,R [.int ((n:Int) - 1),.int (-1),.int (-1)] H->ta σ H R) (hn:n<2^62) (h0:Pv 0 σ H)
  (hs:∀ i σ H,i<n->Pv i σ H->g (.int ((n - 1 - i:Nat):Int)) σ H fun σ2 H2=>tb { D with nx:=Pv (i+1),ct:=Pv (i+1),bk:=D.nx } σ2 H2) (hd:∀ σ H,Pv n σ H->D.nx σ H):Vj (Hf ta) g tb D σ H:=by
 refine ha _ ⟨(n:Int) - 1,-1,rfl,⟨by omega,by omega,by omega,by omega⟩,?_⟩;have e:((n:Int) - 1 - (-1)).toNat=n:=by omega
 rw [e];refine ⟨fun i m σ H=>m=n - i/\i<=n/\Pv i σ H,⟨n,by simp,Nat.zero_le _,h0⟩,?_⟩;rintro i m σ H ⟨rfl,hi,p⟩;by_cases hlt:i<n
 ·refine .inr ⟨hlt,Pv (i+1),fun σ' H' p'=>⟨n - (i+1),by omega,rfl,hlt,p'⟩,fun x H' y=>?_⟩
  obtain ⟨e,y⟩:=y;subst e y;have:=hs i σ _ hlt p;have e2:((n - 1 - i:Nat):Int)=(n:Int) - 1 - i:=by omega
  rw [e2] at this
  exact this
 ·have e:i=n:=by omega
  subst e;exact .inl ⟨Nat.le_refl _,hd σ H p⟩
inductive uJ (C:Cs) (vs:List V) (H:Hp) (Q:VK) (E_:XK):Prop
 | mk (T dt Pp L w:Addr) (h0:vs=[.ref T,.int 0]) (h1:H T=some (.ins C.tab dt (W9 Pp L))) (h2:H Pp=some (.lst [])) (h3:H L=some (.lst [.ref w])) (h4:H w=some (.lst [])) (h5:Pp≠w) (h6:∀ H',SameBut w H H'->H' w=some (.lst [.int 1])->Q .non H')
theorem Z2z {Z4 Z5 Z1 Z2 Z3 Z0:Addr} {aq ao:Addr} {ak aj:Addr} {aA au:Addr} (R:g.aW Z2 "add_size" "RowTable.add_size" zJ ["self","size"]) (aK:g.mg "len"=none) (Zl:g.mg "range"=none) (Zk:Cls g.K Z2) (Zn:Yp g.K Z2 "parts") (Zh:Yp g.K Z2 "ways"):g.Me (1) Z2 "add_size" ["self","size"] (uJ (Cs.mk Z0 Z1 Z2)):=by
 refine R.me Jh (fun vs H Q E h=>by obtain ⟨T,dt,Pp,L,w,rfl,hT,hP,hL,hw,nP,q⟩:=h;rfl) fun f_ cdv A outer s H vs Q E hr h=>?_
 obtain ⟨T,dt,Pp,L,w,rfl,hT,hP,hL,hw,nP,q⟩:=h;refine ⟨_,(@Yd _ _ _ _ _ (@Y4 _ _ _ _ (@Xp _ _ _ _ _ _ _ _ _ _ _ _ F.plainAttrs_list F.slot_list_append F.type_list_append Y7 (@Ys _ _ _ _ _ _ _ YL (@Y6 _ _ _ _ _ (pv 0) rfl) (@VP _ _ _ _ _ _ Va Yh) (fun _ _=>rfl)) (@Ya _ _ _ _ _ (@Oc _ _ _ _ _ _ _ _ (@Yo _ _ _ _ _ _ _ _ YJ (pv 1) Yh (Yl _)) Yh Yh) Yb (by rfl)) (by rfl) (by rfl) (by rfl) (by rfl) (by rfl)) (by rfl)) (@Ye _ _ _ (@Xo _ _ _ _ _ _ _ _ PassesOwn.never rfl (@RZ _ _ _ _ _ _ _ _ rfl Zl (@Ya _ _ _ _ _ (@Yt _ _ _ _ _ _ _ _ Xz (@YH _ _ _ _ _ _ _ _ _ _ aK Yy (@Ya _ _ _ _ _ (@Y6 _ _ _ _ _ (pv 0) rfl) Yb (by rfl)) (by decide +kernel) (by rfl) (by rfl) (by decide) (by decide) (by rfl) (by rfl)) Yh) (@Ya _ _ _ _ _ (@VP _ _ _ _ _ _ Va Yh) (@Ya _ _ _ _ _ (@VP _ _ _ _ _ _ Va Yh) Yb (by rfl)) (by rfl)) (by rfl)) (by rfl) (by rfl)) (@Yz _ _ (2) _ Jh.nd rfl (.inl rfl) (by first | exact .inl rfl | exact .inr rfl | assumption)) (@Ye _ _ _ YB) (by intro _;rfl)))),?_⟩;have nT:T≠w:=YG hT hw (by intro z;cases z);have nL:L≠w:=YG hL hw (by intro z;cases z);refine Ym fun R rr=>?_
 walk_at "rd";refine ⟨_,_,_,hT,Zk,Zh,_,VX _ _,_,rfl,_,aG.of hL,_,rfl,.inl ⟨rfl,_,aG.of hw⟩,w,rfl,_,hw,few (by decide),rr _ _ ?_⟩;have s1:SameBut w H (upd H w (.lst ([]++[.int 1]))):=fun b o nb e=>by rw [Yg nb];exact e
 have hw1:upd H w (.lst ([]++[.int 1])) w=some (.lst [.int 1]):=Yc;generalize upd H w (.lst ([]++[.int 1]))=H1 at s1 hw1;refine Ycb (n:=0) (fun i σ H'=>H'=H1) (fun R r=>?_) (by decide) rfl (fun i σ H' hi=>by omega) (fun σ H' e=>by subst e;exact q _ s1 hw1);walk_at "rd";refine ⟨_,_,_,s1 _ _ nT hT,Zk,Zn,_,Yem _ _,_,rfl,_,.inl (aG.of (s1 _ _ nP hP)),?_⟩;exact r
inductive uK (C:Cs) (vs:List V) (H:Hp) (Q:VK) (E_:XK):Prop
 | mk (T dt Pp L w:Addr) (h0:vs=[.ref T,.int 0,.int 0]) (h1:H T=some (.ins C.tab dt (W9 Pp L))) (h2:H Pp=some (.lst [])) (h3:H L=some (.lst [.ref w])) (h4:H w=some (.lst [])) (h5:Pp≠w) (h6:∀ H',SameBut w H H'->H' w=some (.lst [.int 1])->Q (.int 1) H')
theorem Z2R {k:Nat} {Z4 Z5 Z1 Z2 Z3 Z0:Addr} {aq ao:Addr} {ak aj:Addr} {aA au:Addr} (R:g.aW Z2 "ways_at" "RowTable.ways_at" zH ["self","place","left"]) (Z2S:g.Me k Z2 "add_size" ["self","size"] (uJ (Cs.mk Z0 Z1 Z2))) (aK:g.mg "len"=none) (Zk:Cls g.K Z2) (Zn:Yp g.K Z2 "parts") (Zh:Yp g.K Z2 "ways"):g.Me (k+1) Z2 "ways_at" ["self","place","left"] (uK (Cs.mk Z0 Z1 Z2)):=by
 refine R.me Z2N (fun vs H Q E h=>by obtain ⟨T,dt,Pp,L,w,rfl,hT,hP,hL,hw,nP,q⟩:=h;rfl) fun f_ cdv A outer s H vs Q E hr h=>?_
 obtain ⟨T,dt,Pp,L,w,rfl,hT,hP,hL,hw,nP,q⟩:=h;refine ⟨_,(@Yd _ _ _ _ _ (@X8 _ _ _ _ _ _ PassesOwn.never (@Yo _ _ _ _ _ _ _ _ Um (@YH _ _ _ _ _ _ _ _ _ _ aK Yy (@Ya _ _ _ _ _ (@Ys _ _ _ _ _ _ _ YL (@Y6 _ _ _ _ _ (pv 0) rfl) (@VP _ _ _ _ _ _ Va Yh) (fun _ _=>rfl)) Yb (by rfl)) (by decide +kernel) (by rfl) (by rfl) (by decide) (by decide) (by rfl) (by rfl)) (pv 2) (Yl _)) (@Ye _ _ _ (@Y4 _ _ _ _ (@Wy _ _ _ _ _ _ _ _ _ _ _ _ _ _ _ _ Z2S Zk hr (pv 0) (@Ya _ _ _ _ _ (@YH _ _ _ _ _ _ _ _ _ _ aK Yy (@Ya _ _ _ _ _ (@Ys _ _ _ _ _ _ _ YL (@Y6 _ _ _ _ _ (pv 0) rfl) (@VP _ _ _ _ _ _ Va Yh) (fun _ _=>rfl)) Yb (by rfl)) (by decide +kernel) (by rfl) (by rfl) (by decide) (by decide) (by rfl) (by rfl)) Yb (by rfl)) (by omega) (by rfl) (by rfl) (by rfl) (by rfl)) (by rfl)))) (@Ye _ _ _ (@Yn _ _ _ _ (@Ys _ _ _ _ _ _ _ YL (@Ys _ _ _ _ _ _ _ YL (@Y6 _ _ _ _ _ (pv 0) rfl) (pv 1) (fun _ _=>rfl)) (pv 2) (fun _ _=>rfl))))),?_⟩;have nT:T≠w:=YG hT hw (by intro z;cases z);have nL:L≠w:=YG hL hw (by intro z;cases z);walk_at "rd";refine Wb (α:=Bool) (fun x σ H'=>σ=[some (.ref T),some (.int 0),some (.int 0)]/\SameBut w H H'/\H' w=some (.lst (cn x))) (fun x => !x) (fun x=>if x then 0 else 1) false ⟨rfl,fun _ _ _ e=>e,hw⟩ ?_ ?_ ?_
 ·rintro x σ H' ⟨rfl,sb,hw'⟩ R r
  walk_at "rd";refine ⟨_,_,_,sb _ _ nT hT,Zk,Zh,_,VX _ _,_,rfl,_,aG.of (sb _ _ nL hL),_,rfl,_,rfl,_,.inl (aG.of hw'),?_⟩;have:=r H' ⟨rfl,sb,hw'⟩
  cases x<;>exact this
 ·rintro x σ H' ⟨rfl,sb,hw'⟩ hx
  have hx:x=false:=by simpa using hx
  subst hx;have hT':=sb _ _ nT hT;have hL':=sb _ _ nL hL;walk_at "rd";exact ⟨_,_,hT',Fg _ _,_,_,_,hT',Zk,Zh,_,VX _ _,_,rfl,_,aG.of hL',_,rfl,_,rfl,_,.inl (aG.of hw'),T,dt,Pp,L,w,rfl,hT',sb _ _ nP hP,hL',hw',nP,fun H2 uL hw2=>⟨fun b o nb e=>uL _ _ nb (sb b o nb e),true,hw2,by decide⟩⟩
 ·rintro x σ H' ⟨rfl,sb,hw'⟩ hx
  have hx:x=true:=by simpa using hx
  subst hx;walk_at "rd";exact ⟨_,_,_,sb _ _ nT hT,Zk,Zh,_,VX _ _,_,rfl,_,aG.of (sb _ _ nL hL),_,Yk (j:=0) rfl,_,rfl,_,aG.of hw',_,Yk (j:=0) rfl,q H' sb hw'⟩
structure Rm (C:Cs) (H:Hp) (p dx c Pp T dt L w:Addr):Prop where
 hp:H p=some (.ins C.row dx (mf c (fR Pp T)))
 hP:H Pp=some (.lst [])
 hT:H T=some (.ins C.tab dt (W9 Pp L))
 hL:H L=some (.lst [.ref w])
 nP:Pp≠w
 nc:c≠w
 gq:Pp≠c
 iC:L≠c
inductive uM (C:Cs) (vs:List V) (H:Hp) (Q:VK) (E_:XK):Prop
 | mk (p dx c Pp T dt L w:Addr) (h0:vs=[.ref p,.int 0]) (h1:Rm C H p dx c Pp T dt L w) (h2:H w=some (.lst [])) (h3:∀ H',SameBut w H H'->H' w=some (.lst [.int 1])->Q (.int 1) H')
theorem Z2A {k:Nat} {Z4 Z5 Z1 Z2 Z3 Z0:Addr} {aq ao:Addr} {ak aj:Addr} {aA au:Addr} (R:g.aW Z1 "reckoned" "RowMaker.reckoned" zL ["self","size"]) (Z3l:g.Me k Z2 "ways_at" ["self","place","left"] (uK (Cs.mk Z0 Z1 Z2))) (Zb:Cls g.K Z1) (Z9:Yp g.K Z1 "counts") (Zc:Yp g.K Z1 "parts") (Zd:Yp g.K Z1 "table") (Zk:Cls g.K Z2) (Zn:Yp g.K Z2 "parts") (Zh:Yp g.K Z2 "ways"):g.Me (k+1) Z1 "reckoned" ["self","size"] (uM (Cs.mk Z0 Z1 Z2)):=by
 refine R.me Z2u (fun vs H Q E h=>by obtain ⟨p,dx,c,Pp,T,dt,L,w,rfl,rm,hw,q⟩:=h;rfl) fun f_ cdv A outer s H vs Q E hr h=>?_
 obtain ⟨p,dx,c,Pp,T,dt,L,w,rfl,rm,hw,q⟩:=h;refine ⟨_,(@Ye _ _ _ (@Yn _ _ _ _ (@Wy _ _ _ _ _ _ _ _ _ _ _ _ _ _ _ _ Z3l Zk hr (@Y6 _ _ _ _ _ (pv 0) rfl) (@Ya _ _ _ _ _ Yh (@Ya _ _ _ _ _ (pv 1) Yb (by rfl)) (by rfl)) (by omega) (by rfl) (by rfl) (by rfl) (by rfl)))),?_⟩;walk_at "rd";exact ⟨_,_,_,rm.hp,Zb,Zd,_,Yel _ _ _,T,rfl,_,_,rm.hT,Ygd _ _,T,dt,Pp,L,w,rfl,rm.hT,rm.hP,rm.hL,hw,rm.nP,q⟩
inductive uN (C:Cs) (vs:List V) (H:Hp) (Q:VK) (E_:XK):Prop
 | mk (p dx c Pp T dt L w:Addr) (n:Bool) (h0:vs=[.ref p,.int 0]) (h1:Rm C H p dx c Pp T dt L w) (h2:H c=some (.lst (cn n))) (h3:H w=some (.lst (cn n))) (h4:∀ H',(∀ b o,b≠c->b≠w->H b=some o->H' b=some o)->H' c=some (.lst [.int 1])->H' w=some (.lst [.int 1])->Q (.int 1) H')
theorem Z2B {k:Nat} {Z4 Z5 Z1 Z2 Z3 Z0:Addr} {aq ao:Addr} {ak aj:Addr} {aA au:Addr} (R:g.aW Z1 "count_at" "Maker.count_at" zR ["self","size"]) (Z2T:g.Me k Z1 "reckoned" ["self","size"] (uM (Cs.mk Z0 Z1 Z2))) (aK:g.mg "len"=none) (Zb:Cls g.K Z1) (Z9:Yp g.K Z1 "counts") (Zc:Yp g.K Z1 "parts") (Zd:Yp g.K Z1 "table"):g.Me (k+1) Z1 "count_at" ["self","size"] (uN (Cs.mk Z0 Z1 Z2)):=by
 refine R.me Z2v (fun vs H Q E h=>by obtain ⟨p,dx,c,Pp,T,dt,L,w,n,rfl,rm,hc,hw,q⟩:=h;rfl) fun f_ cdv A outer s H vs Q E hr h=>?_
 obtain ⟨p,dx,c,Pp,T,dt,L,w,n,rfl,rm,hc,hw,q⟩:=h;refine ⟨_,(@Yd _ _ _ _ _ (@X8 _ _ _ _ _ _ PassesOwn.never (@Yo _ _ _ _ _ _ _ _ Um (@YH _ _ _ _ _ _ _ _ _ _ aK Yy (@Ya _ _ _ _ _ (@Y6 _ _ _ _ _ (pv 0) rfl) Yb (by rfl)) (by decide +kernel) (by rfl) (by rfl) (by decide) (by decide) (by rfl) (by rfl)) (pv 1) (Yl _)) (@Ye _ _ _ (@Y4 _ _ _ _ (@Xp _ _ _ _ _ _ _ _ _ _ _ _ F.plainAttrs_list F.slot_list_append F.type_list_append Y7 (@Y6 _ _ _ _ _ (pv 0) rfl) (@Ya _ _ _ _ _ (@Wy _ _ _ _ _ _ _ _ _ _ _ _ _ _ _ _ Z2T Zb hr (pv 0) (@Ya _ _ _ _ _ (@YH _ _ _ _ _ _ _ _ _ _ aK Yy (@Ya _ _ _ _ _ (@Y6 _ _ _ _ _ (pv 0) rfl) Yb (by rfl)) (by decide +kernel) (by rfl) (by rfl) (by decide) (by decide) (by rfl) (by rfl)) Yb (by rfl)) (by omega) (by rfl) (by rfl) (by rfl) (by rfl)) Yb (by rfl)) (by rfl) (by rfl) (by rfl) (by rfl) (by rfl)) (by rfl)))) (@Ye _ _ _ (@Yn _ _ _ _ (@Ys _ _ _ _ _ _ _ YL (@Y6 _ _ _ _ _ (pv 0) rfl) (pv 1) (fun _ _=>rfl))))),?_⟩;have jg:p≠c:=YG rm.hp hc (by intro z;cases z);have pI:p≠w:=YG rm.hp hw (by intro z;cases z);walk_at "rd";refine Wb (α:=Bool) (fun x σ H'=>σ=[some (.ref p),some (.int 0)]/\(∀ b o,b≠c->b≠w->H b=some o->H' b=some o)/\H' c=some (.lst (cn x))/\H' w=some (.lst (cn x))) (fun x => !x) (fun x=>if x then 0 else 1) n ⟨rfl,fun _ _ _ _ e=>e,hc,hw⟩ ?_ ?_ ?_
 ·rintro x σ H' ⟨rfl,sb,hc',hw'⟩ R r
  walk_at "rd";refine ⟨_,_,_,sb _ _ jg pI rm.hp,Zb,Z9,_,XG _ _,_,rfl,_,.inl (aG.of hc'),?_⟩;have:=r H' ⟨rfl,sb,hc',hw'⟩
  cases x<;>exact this
 ·rintro x σ H' ⟨rfl,sb,hc',hw'⟩ hx
  have hx:x=false:=by simpa using hx
  subst hx;have hp':=sb _ _ jg pI rm.hp;have nTc:T≠c:=YG rm.hT hc (by intro z;cases z);have nTw:T≠w:=YG rm.hT hw (by intro z;cases z);have Ai:L≠w:=YG rm.hL hw (by cases n<;>(intro z;cases z));have rm':Rm (Cs.mk Z0 Z1 Z2) H' p dx c Pp T dt L w:=⟨hp',sb _ _ rm.gq rm.nP rm.hP,sb _ _ nTc nTw rm.hT,sb _ _ rm.iC Ai rm.hL,rm.nP,rm.nc,rm.gq,rm.iC⟩;walk_at "rd";refine ⟨_,_,_,hp',Zb,Z9,_,XG _ _,.inl ⟨rfl,_,aG.of hc'⟩,_,_,hp',Fe _ _ _,_,_,_,hp',Zb,Z9,_,XG _ _,_,rfl,_,.inl (aG.of hc'),p,dx,c,Pp,T,dt,L,w,rfl,rm',hw',fun H2 uL hw2=>?_⟩;have hc2:=uL _ _ rm.nc hc';exact ⟨c,rfl,_,hc2,few (by decide),fun b o n1 n2 e=>by rw [Yg n1];exact uL _ _ n2 (sb b o n1 n2 e),true,Yc,by rw [Yg (Ne.symm rm.nc)];exact hw2,by decide⟩
 ·rintro x σ H' ⟨rfl,sb,hc',hw'⟩ hx
  have hx:x=true:=by simpa using hx
  subst hx;walk_at "rd";exact ⟨_,_,_,sb _ _ jg pI rm.hp,Zb,Z9,_,XG _ _,_,rfl,_,aG.of hc',_,Yk (j:=0) rfl,q H' sb hc' hw'⟩
inductive uO (C:Cs) (vs:List V) (H:Hp) (Q:VK) (E_:XK):Prop
 | mk (p dx c Pp T dt L w:Addr) (h0:vs=[.ref p,.int 0,.int 0]) (h1:Rm C H p dx c Pp T dt L w) (h2:∀ b H',Yf H H'->H' b=some (.tup [])->Q (.ref b) H')
theorem Z2C {Z4 Z5 Z1 Z2 Z3 Z0:Addr} {aq ao:Addr} {ak aj:Addr} {aA au:Addr} (R:g.aW Z1 "value_at" "RowMaker.value_at" zM ["self","size","number"]) (Zp:g.mg "enumerate"=none) (Zj:g.mg "tuple"=none) (Zb:Cls g.K Z1) (Z9:Yp g.K Z1 "counts") (Zc:Yp g.K Z1 "parts") (Zd:Yp g.K Z1 "table"):g.Me (1) Z1 "value_at" ["self","size","number"] (uO (Cs.mk Z0 Z1 Z2)):=by
 refine R.me Zs (fun vs H Q E h=>by obtain ⟨p,dx,c,Pp,T,dt,L,w,rfl,rm,q⟩:=h;rfl) fun f_ cdv A outer s H vs Q E hr h=>?_
 obtain ⟨p,dx,c,Pp,T,dt,L,w,rfl,rm,q⟩:=h;refine ⟨_,(@Yd _ _ _ _ _ (@Yr _ _ (3) _ _ _ _ Zs.nd rfl (.inl rfl) (@Y3 _ _ _ _ Yb) (by rfl) (by first | exact .inl rfl | exact .inr rfl | assumption)) (@Yd _ _ _ _ _ (@Yr _ _ (4) _ _ _ _ Zs.nd rfl (.inl rfl) (pv 1) (by rfl) (by first | exact .inl rfl | exact .inr rfl | assumption)) (@Yd _ _ _ _ _ (@Yr _ _ (5) _ _ _ _ Zs.nd rfl (.inl rfl) (pv 2) (by rfl) (by first | exact .inl rfl | exact .inr rfl | assumption)) (@Yd _ _ _ _ _ (@Xo _ _ _ _ _ _ _ _ PassesOwn.never rfl (@Ud _ _ _ _ _ _ _ _ rfl Zp (@Ya _ _ _ _ _ (@Y6 _ _ _ _ _ (pv 0) rfl) Yb (by rfl)) (by rfl)) (@Wl _ _ _ _ _ (2) rfl (@Y5 _ _ _ _ _ (@Yz _ _ (6) _ Zs.nd rfl (.inl rfl) (by first | exact .inl rfl | exact .inr rfl | assumption)) (@Y5 _ _ _ _ _ (@Yz _ _ (7) _ Zs.nd rfl (.inl rfl) (by first | exact .inl rfl | exact .inr rfl | assumption)) XZ (by rfl)) (by rfl)) (by rfl) (by rfl)) (@Yd _ _ _ _ _ YB (@Yd _ _ _ _ _ YB (@Yd _ _ _ _ _ YB (@Ye _ _ _ YB)))) (by intro _;rfl)) (@Ye _ _ _ (@Yn _ _ _ _ (@XI _ _ _ _ _ _ _ _ _ _ Zj Xy (@Ya _ _ _ _ _ (pv 3) Yb (by rfl)) (by decide +kernel) (by rfl) (by rfl) (by decide) (by decide) (by rfl) (by rfl)))))))),?_⟩;walk_at "rd";refine ⟨few (by decide),fun X gX=>?_⟩;have sX:=Yf.aF gX (.lst []);refine Vm (K:=g.K) (a:=Pp) (xs:=[]) (fun i σ H'=>σ=[some (V.ref p),some (V.int 0),some (V.int 0),some (V.ref X),some (V.int 0),some (V.int 0),none,none,none]/\H'=upd H X (.lst [])) (fun R r=>?_) ⟨rfl,rfl⟩ (fun i σ H' _ ⟨_,e⟩=>by rw [e];exact aG.of (sX _ _ rm.hP)) (fun i x σ H' T' hx=>by cases hx) ?_
 ·walk_at "rd"
  exact ⟨_,_,_,sX _ _ rm.hp,Zb,Zc,_,Yek _ _ _,r⟩
 ·rintro σ H' ⟨rfl,rfl⟩
  walk_at "rd";exact ⟨_,.inl ⟨aG.of Yc,fun l gl=>q l _ (sX.trans (.aF gl _)) Yc⟩⟩
inductive cD (C:Cs) (H:Hp) (lo:Int):Nat->Addr->List Addr->Prop
 | w (p dx c:Addr) (n:Bool) (h:H p=some (.ins C.w dx (mf c (fW lo 200)))) (hc:H c=some (.lst (cn n))):cD C H lo 0 p [c]
 | r (k:Nat) (p dx c Pp T dt L w:Addr) (n:Bool) (h:Rm C H p dx c Pp T dt L w) (hc:H c=some (.lst (cn n))) (hw:H w=some (.lst (cn n))):cD C H lo (k+1) p [c,w,Pp,L]
def mO (H:Hp) (lo:Int) (v:V):Nat->Prop
 | 0=>v = .int lo
 | _=>∃ b,v = .ref b/\H b=some (.tup [])
inductive uP (C:Cs) (vs:List V) (H:Hp) (Q:VK) (E_:XK):Prop
 | mk (p:Addr) (lo:Int) (k:Nat) (ms:List Addr) (n:Nat) (h0:vs=[.ref p,.int (n:Nat)]) (h1:n<=1000) (h2:cD C H lo k p ms) (h3:(n=0->Q .non H)) (h4:(0<n->∀ v H',(∀ b o,b∉ms->H b=some o->H' b=some o)->cD C H' lo k p ms->mO H' lo v k->Q v H'))
theorem Z47 {k:Nat} {Z4 Z5 Z1 Z2 Z3 Z0:Addr} {aq ao:Addr} {ak aj:Addr} {aA au:Addr} (R:g.Raw "least_below" "least_below" yP ["maker","below"]) (Z2b:g.Me k Z0 "value_at" ["self","size","number"] (uH (Cs.mk Z0 Z1 Z2))) (Z2U:g.Me k Z1 "value_at" ["self","size","number"] (uO (Cs.mk Z0 Z1 Z2))) (Z2c:g.Me k Z0 "count_at" ["self","size"] (uI (Cs.mk Z0 Z1 Z2))) (Z2V:g.Me k Z1 "count_at" ["self","size"] (uN (Cs.mk Z0 Z1 Z2))) (Zl:g.mg "range"=none) (Zb:Cls g.K Z1) (Z9:Yp g.K Z1 "counts") (Zc:Yp g.K Z1 "parts") (Zd:Yp g.K Z1 "table") (Z8:Cls g.K Z0) (Z7:Yp g.K Z0 "counts") (Ze:Yp g.K Z0 "low") (Za:Yp g.K Z0 "span"):g.Fn (k+1) "least_below" ["maker","below"] (uP (Cs.mk Z0 Z1 Z2)):=by
 refine R.fn Jd (fun vs H Q E h=>by obtain ⟨p,lo,k,ms,n,rfl,hn,hm,q0,q1⟩:=h;rfl) fun f_ cdv A outer s H vs Q E hr h=>?_
 obtain ⟨p,lo,k,ms,n,rfl,hn,hm,q0,q1⟩:=h;refine ⟨_,(@Yd _ _ _ _ _ (@Xo _ _ _ _ _ _ _ _ PassesOwn.never rfl (@Wf _ _ _ _ _ _ rfl Zl (@Ya _ _ _ _ _ (pv 1) Yb (by rfl)) (by rfl)) (@Yz _ _ (2) _ Jd.nd rfl (.inl rfl) (by first | exact .inl rfl | exact .inr rfl | assumption)) (@Ye _ _ _ (@Yu _ _ _ _ _ _ _ _ (@Yo _ _ _ _ _ _ _ _ WX (@Iz _ _ _ _ _ _ _ _ _ _ _ _ _ _ _ (Vo Z2c Z8 (Vo Z2V Zb Iw)) hr (pv 0) (@Ya _ _ _ _ _ (pv 2) Yb (by rfl)) (by omega) (by rfl) (by rfl) (by rfl) (by rfl)) Yh (Yl _)) (@Ye _ _ _ (@Yn _ _ _ _ (@Iz _ _ _ _ _ _ _ _ _ _ _ _ _ _ _ (Vo Z2b Z8 (Vo Z2U Zb Iw)) hr (pv 0) (@Ya _ _ _ _ _ (pv 2) (@Ya _ _ _ _ _ Yh Yb (by rfl)) (by rfl)) (by omega) (by rfl) (by rfl) (by rfl) (by rfl)))) Yq)) (by intro _;rfl)) (@Ye _ _ _ (@Yn _ _ _ _ YW))),?_⟩;walk_at "rd";refine W6 (n:=n) (fun i σ H'=>i=0/\σ=[some (.ref p),some (.int n),none]/\H'=H) (fun R r=>?_) (by omega) ⟨rfl,rfl,rfl⟩ ?_ ?_
 ·walk_at "rd";exact r
 ·rintro i σ H' hi ⟨rfl,rfl,rfl⟩
  have q1:=q1 (by omega)
  cases hm with
  | w _ dx c nn hp hc =>
   walk_at "rd";refine ⟨_,_,.head _,dx,_,hp,Yf9 _ _,p,dx,c,lo,nn,rfl,hp,hc,fun H2 sb hc2=>?_⟩;have hp2:=sb _ _ (YG hp hc (by intro z;cases z)) hp;exact ⟨_,rfl,YU (by decide) ⟨_,_,.head _,dx,_,hp2,Yga _ _,p,dx,c,lo,rfl,hp2,q1 _ H2 (fun b o nb e=>sb b o (fun z=>nb (by rw [z];exact .head _)) e) (.w p dx c true hp2 hc2) rfl⟩⟩
  | r k _ dx c Pp T dt L w nn rm hc hw =>
   walk_at "rd";refine ⟨_,_,.tail _ (.head _),dx,_,rm.hp,Ygb _ _ _,p,dx,c,Pp,T,dt,L,w,nn,rfl,rm,hc,hw,fun H2 sb hc2 hw2=>?_⟩;have hp2:=sb _ _ (YG rm.hp hc (by intro z;cases z)) (YG rm.hp hw (by intro z;cases z)) rm.hp;have Ai:L≠w:=YG rm.hL hw (by cases nn<;>(intro z;cases z));have pJ:Rm (Cs.mk Z0 Z1 Z2) H2 p dx c Pp T dt L w:=⟨hp2,sb _ _ rm.gq rm.nP rm.hP,sb _ _ (YG rm.hT hc (by intro z;cases z)) (YG rm.hT hw (by intro z;cases z)) rm.hT,sb _ _ rm.iC Ai rm.hL,rm.nP,rm.nc,rm.gq,rm.iC⟩;refine ⟨_,rfl,YU (by decide) ⟨_,_,.tail _ (.head _),dx,_,hp2,Ygc _ _ _,p,dx,c,Pp,T,dt,L,w,rfl,pJ,fun b H3 s3 hb=>q1 _ H3 (fun x o nx e=>s3 _ _ (sb x o (fun z=>nx (by rw [z];exact .head _)) (fun z=>nx (by rw [z];exact .tail _ (.head _))) e)) ?_ ⟨b,rfl,hb⟩⟩⟩;exact .r k p dx c Pp T dt L w true ⟨s3 _ _ pJ.hp,s3 _ _ pJ.hP,s3 _ _ pJ.hT,s3 _ _ pJ.hL,rm.nP,rm.nc,rm.gq,rm.iC⟩ (s3 _ _ hc2) (s3 _ _ hw2)
 ·rintro σ H' ⟨e,rfl,rfl⟩
  walk_at "rd";exact q0 (by omega)
def kdP (lo:Int):Bool->PyData
 | false => .tuple [.str "whole",.int lo,.int (lo+200)]
 | true => .tuple [.str "row",.tuple []]
theorem Y0.dk {K:W.Frag} {H:Hp} {lo:Int} {a:Addr} {k:Bool} (h:Y0 H lo a k.toNat):DK K H a (kdP lo k):=by
 cases k with
 | false =>
  have h:H a=some (.tup [.str "whole",.int lo,.int (lo+200)]):=h;exact ⟨.tup (aJ.of h) (.cons (.str _ (by decide +kernel)) (.cons (.int _) (.cons (.int _) .nil))),.tup (.cons (.str _) (.cons (.int _) (.cons (.int _) .nil))),by simp [kdP,PyData.depth,PyData.depthAll]⟩
 | true =>
  obtain ⟨b,h1,h2⟩:∃ b,H a=some (.tup [.str "row",.ref b])/\H b=some (.tup []):=h;exact ⟨.tup (aJ.of h1) (.cons (.str _ (by decide +kernel)) (.cons (.tup (aJ.of h2) .nil) .nil)),.tup (.cons (.str _) (.cons (.tup .nil) .nil)),by simp [kdP,PyData.depth,PyData.depthAll]⟩
theorem Jy {lo:Int}:kdP lo false≠kdP lo true:=by simp [kdP]
structure Li (P:Program) (w:World) (K:W.Frag) (C:Cs) (CL:Addr) (H:Hp) (ls dl d:Addr) (b:V) (lo:Int) (f:Bool->Option (Addr×List Addr)) (xs:Dx):Prop where
 hl:H ls=some (.ins CL dl (lf b d))
 hd:bM P w K H d xs
 len:xs.length=(f false).toList.length+(f true).toList.length
 lk:∀ k:Bool,aZ xs (kdP lo k)=(f k).map (·.1)
 jh:∀ k p ms,f k=some (p,ms)->cD C H lo k.toNat p ms
 dj:∀ p ms p' cu,f false=some (p,ms)->f true=some (p',cu)->∀ x∈ms,x∉cu
inductive uQ (K:W.Frag) (vs:List V) (H:Hp) (Q:VK) (E_:XK):Prop
 | mk (a b:Addr) (h0:vs=[.ref a]) (h1:H a=some (.tup [.str "row",.ref b])) (h2:H b=some (.tup [])) (h3:∀ D H',Yf H H'->H D=none->H' D=some (.lst [])->Q (.ref D) H')
theorem YaJ {Z4 Z5 Z1 Z2 Z3 Z0:Addr} {aq ao:Addr} {ak aj:Addr} {aA au:Addr} (R:g.Raw "parts_of" "parts_of" yp ["shape"]) (aN:g.mg "list"=none):g.Fn (1) "parts_of" ["shape"] (uQ g.K):=by
 refine R.fn IV (fun vs H Q E h=>by obtain ⟨a,b,rfl,ha,hb,q⟩:=h;rfl) fun f_ cdv A outer s H vs Q E hr h=>?_
 obtain ⟨a,b,rfl,ha,hb,q⟩:=h;refine ⟨_,(@Yd _ _ _ _ _ (@Yr _ _ (1) _ _ _ _ IV.nd rfl (.inl rfl) (@Ys _ _ _ _ _ _ _ YD (pv 0) Yh (fun _ _=>rfl)) (by rfl) (by first | exact .inl rfl | exact .inr rfl | assumption)) (@Yd _ _ _ _ _ (@Yu _ _ _ _ _ _ _ _ (@Yo _ _ _ _ _ _ _ _ YJ (pv 1) YC (Yl _)) (@Ye _ _ _ (@Yn _ _ _ _ (@XI _ _ _ _ _ _ _ _ _ _ aN Xu (@Ya _ _ _ _ _ (@Ys _ _ _ _ _ _ _ YD (pv 0) Yh (fun _ _=>rfl)) Yb (by rfl)) (by decide +kernel) (by rfl) (by rfl) (by decide) (by decide) (by rfl) (by rfl)))) Yq) (@Yd _ _ _ _ _ YB (@Yd _ _ _ _ _ YB (@Ye _ _ _ YB))))),?_⟩;refine Ym fun R rr=>?_
 walk_at "rd";refine ⟨_,aJ.of ha,_,Yk (j:=0) rfl,rr _ _ (dM rfl rfl ?_)⟩;walk_at "rd";exact ⟨_,aJ.of ha,_,Yk (j:=1) rfl,_,rfl,_,.inr (aJ.of hb),fun l hl=>q l _ (.aF hl _) hl Yc⟩
inductive uR (K:W.Frag) (C:Cs) (vs:List V) (H:Hp) (Q:VK) (E_:XK):Prop
 | mk (s:V) (a:Addr) (lo:Int) (k:Bool) (h0:vs=[s,.ref a]) (h1:Y0 H lo a k.toNat) (h2:∀ p ms H',Yf H H'->cD C H' lo k.toNat p ms->(∀ x∈ms,H x=none)->Q (.ref p) H')
theorem Z2W {k:Nat} {Z4 Z5 Z1 Z2 Z3 Z0:Addr} {aq ao:Addr} {ak aj:Addr} {aA au:Addr} (R:g.aW Z5 "new_maker" "Lister.new_maker" zE ["self","shape"]) (nU:g.Fn k "parts_of" ["shape"] (uQ g.K)) {cL:Nat} (Z2d:g.Ma cL "WholeMaker" Z0 ["self","low","high"] (Jo (Cs.mk Z0 Z1 Z2))) (mQ:cL+1<=k) {cW:Nat} (Z2X:g.Ma cW "RowMaker" Z1 ["self","parts"] (Js (Cs.mk Z0 Z1 Z2))) (oF:cW+1<=k):g.Me (k+1) Z5 "new_maker" ["self","shape"] (uR g.K (Cs.mk Z0 Z1 Z2)):=by
 refine R.me zF (fun vs H Q E h=>by obtain ⟨s,a,lo,k,rfl,hk,q⟩:=h;rfl) fun f_ cdv A outer s H vs Q E hr h=>?_
 obtain ⟨s,a,lo,k,rfl,hk,q⟩:=h;refine ⟨_,(@Yd _ _ _ _ _ (@Yr _ _ (2) _ _ _ _ zF.nd rfl (.inl rfl) (@Ys _ _ _ _ _ _ _ YD (pv 1) Yh (fun _ _=>rfl)) (by rfl) (by first | exact .inl rfl | exact .inr rfl | assumption)) (@Yd _ _ _ _ _ (@Yu _ _ _ _ _ _ _ _ (@Yo _ _ _ _ _ _ _ _ YJ (pv 2) YC (Yl _)) (@Ye _ _ _ (@Yn _ _ _ _ (@Uv _ _ _ _ _ _ _ _ _ _ _ _ _ Z2d hr (@Ya _ _ _ _ _ (@Ys _ _ _ _ _ _ _ YD (pv 1) Yh (fun _ _=>rfl)) (@Ya _ _ _ _ _ (@Ys _ _ _ _ _ _ _ YD (pv 1) Yh (fun _ _=>rfl)) Yb (by rfl)) (by rfl)) (by omega) (by rfl) (by rfl) (by decide) (by rfl) (by rfl)))) Yq) (@Yd _ _ _ _ _ (@Yu _ _ _ _ _ _ _ _ (@Yo _ _ _ _ _ _ _ _ YJ (pv 2) YC (Yl _)) (@Ye _ _ _ YB) Yq) (@Yd _ _ _ _ _ (@Hl _ (3) _ _ _ _ _ _ _ _ _ ([none,some 0]) ((["part","self"]:List Str)) _ (YT 0) _ _ zF.nd rfl (.inl rfl) (.own (.cap (i:=0) rfl rfl (by first | exact .inl rfl | exact .inr rfl) .nil)) rfl (@Xj _ _ _ _ (@Yv _ _ _ _ _ _ _ _ _ _ _ _ nU hr (@Ya _ _ _ _ _ (pv 1) Yb (by rfl)) (by omega) (by rfl) (by rfl) (by decide) (by rfl) (by rfl))) (fun cl C s₀ H₀ fp pn=>(@Yz _ _ (0) _ (show List.Nodup (["part","self"]:List Str) by decide +kernel) rfl (.inl rfl) (.inr rfl))) (fun cl C s₀ H₀ fp pn=>Xs) (fun cl C s₀ H₀ fp pn=>Yd4) (by intro x hx;simp at hx;first | (subst hx;exact .inl rfl) | (rcases hx with rfl | rfl<;>exact .inl rfl) | (rcases hx with rfl | rfl | rfl<;>exact .inl rfl) | (rcases hx with rfl | rfl | rfl | rfl<;>exact .inl rfl) | (rcases hx with rfl | rfl | rfl | rfl | rfl<;>exact .inl rfl)) (by rfl) (by decide) (by decide +kernel) (by intro _;rfl) (by rfl) (by first | exact .inl rfl | exact .inr rfl | assumption)) (@Yd _ _ _ _ _ (@Yu _ _ _ _ _ _ _ _ (@Yo _ _ _ _ _ _ _ _ YJ (pv 2) YC (Yl _)) (@Ye _ _ _ (@Yn _ _ _ _ (@Uv _ _ _ _ _ _ _ _ _ _ _ _ _ Z2X hr (@Ya _ _ _ _ _ (pv 3) Yb (by rfl)) (by omega) (by rfl) (by rfl) (by decide) (by rfl) (by rfl)))) Yq) (@Yd _ _ _ _ _ YB (@Yd _ _ _ _ _ YB (@Yd _ _ _ _ _ YB (@Ye _ _ _ YB))))))))),?_⟩
 cases k with
 | false =>
  have h:H a=some (.tup [.str "whole",.int lo,.int (lo+200)]):=hk;refine Ym fun R rr=>?_
  walk_at "rd";refine ⟨_,aJ.of h,_,Yk (j:=0) rfl,rr _ _ (dM rfl rfl ?_)⟩;walk_at "rd";refine ⟨_,aJ.of h,_,Yk (j:=1) rfl,_,aJ.of h,_,Yk (j:=2) rfl,?_⟩;intro p dx gp uT hne;refine ⟨p,dx,lo,200,rfl,Yc,fun c H1 gc sb h1 h2=>⟨rfl,?_⟩⟩;exact q p [c] H1 (W3 gp uT sb) (.w p dx c false h1 h2) (fun x hx=>by cases List.mem_singleton.mp hx;exact Xa (Xa gc))
 | true =>
  obtain ⟨b,h1,h2⟩:∃ b,H a=some (.tup [.str "row",.ref b])/\H b=some (.tup []):=hk;refine Ym fun R rr=>?_
  walk_at "rd";refine ⟨_,aJ.of h1,_,Yk (j:=0) rfl,rr _ _ (aX rfl (by decide +kernel) (aX rfl (by decide +kernel) (Ym fun R rr=>?_)))⟩;refine ⟨a,b,rfl,h1,h2,fun D H1 s1 gD hD=>?_⟩;refine Vz (K:=g.K) (tl:=tC (.ref D)) (xs:=[]) [] (fun R r=>r D H1 (.refl H1) (aG.of hD)) rfl (by decide) (fun i x y H' hx=>by cases hx) (fun Pp H2 gP s2 hP=>rr _ _ (dM rfl rfl ?_));walk_at "rd";intro p dx gp uT hne;have sP:(upd (upd H2 dx (.own p)) p (.ins Z1 dx [])) Pp=some (.lst []):=by rw [Yg (Yj hP gp),Yg (Yj hP uT)];exact hP
  refine ⟨p,dx,Pp,[],rfl,Yc,sP,by decide,fun c T dt L ws H3 gc gT gL uD hnd hwl sb pH uF Ad pG uE=>⟨rfl,?_⟩⟩
  match ws,hwl with
  | [w],_ =>
  have s3:=W3 gp uT sb;have hnd':=List.nodup_cons.mp hnd;have Ae:c≠w:=fun z=>hnd'.1 (by rw [z];exact .head _)
  have gw:=uD w (.head _);have hw3:=uE w (.head _);have Jz:∀ {x:Addr},(upd (upd H2 dx (.own p)) p (.ins Z1 dx [])) x=none->Pp≠x:=fun g=>Yj sP g
  have rm:Rm (Cs.mk Z0 Z1 Z2) H3 p dx c Pp T dt L w:=⟨pH,s3 _ _ hP,Ad,pG,Jz gw,Ae,Jz gc,YG pG uF (by intro z;cases z)⟩;refine q p [c,w,Pp,L] H3 ((s1.trans s2).trans s3) (.r 0 p dx c Pp T dt L w false rm uF hw3) (fun x hx=>?_);have fr:∀ {x:Addr},(upd (upd H2 dx (.own p)) p (.ins Z1 dx [])) x=none->H x=none:=fun g=>(s1.trans s2).free (Xa (Xa g))
  rcases List.mem_cons.mp hx with rfl | hx
  ·exact fr gc
  rcases List.mem_cons.mp hx with rfl | hx
  ·exact fr gw
  rcases List.mem_cons.mp hx with rfl | hx
  ·exact s1.free gP
  ·cases List.mem_singleton.mp hx;exact fr gL
theorem Y0.ahead {H:Hp} {lo:Int} {a:Addr} {k:Nat} (h:Y0 H lo a k):∃ (m:Str) (r:List V),H a=some (.tup (.str m::r))/\m≠"use":=by
 unfold Y0 at h
 split at h
 ·exact ⟨_,_,h,by decide +kernel⟩
 ·obtain ⟨b,h,_⟩:=h;exact ⟨_,_,h,by decide +kernel⟩
theorem cD.ls {C:Cs} {H:Hp} {lo:Int} {k:Nat} {p:Addr} {ms:List Addr} (h:cD C H lo k p ms):∀ x∈ms,∃ ys,H x=some (.lst ys):=fun x hx=>by
 cases h with
 | w _ dx c n hp hc=>cases List.mem_singleton.mp hx;exact ⟨_,hc⟩
 | r k' _ dx c Pp T dt L' w n rm hc hw =>
  rcases List.mem_cons.mp hx with rfl | hx
  ·exact ⟨_,hc⟩
  rcases List.mem_cons.mp hx with rfl | hx
  ·exact ⟨_,hw⟩
  rcases List.mem_cons.mp hx with rfl | hx
  ·exact ⟨_,rm.hP⟩
  ·cases List.mem_singleton.mp hx;exact ⟨_,rm.hL⟩
theorem cD.al {C:Cs} {H:Hp} {lo:Int} {k:Nat} {p:Addr} {ms:List Addr} (h:cD C H lo k p ms):∀ x∈ms,H x≠none:=fun x hx=>by
 obtain ⟨ys,e⟩:=h.ls x hx;rw [e];simp
theorem JB {α:Type} (o:Option α):o.toList.length<=1:=by cases o<;>simp
theorem cD.stay {C:Cs} {H H':Hp} {lo:Int} {k:Nat} {p:Addr} {ms:List Addr} (h:cD C H lo k p ms) (s:Yf H H'):cD C H' lo k p ms:=by
 cases h with
 | w _ dx c n hp hc=>exact .w p dx c n (s _ _ hp) (s _ _ hc)
 | r k _ dx c Pp T dt L w n rm hc hw=>exact .r k p dx c Pp T dt L w n ⟨s _ _ rm.hp,s _ _ rm.hP,s _ _ rm.hT,s _ _ rm.hL,rm.nP,rm.nc,rm.gq,rm.iC⟩ (s _ _ hc) (s _ _ hw)
theorem cD.dict {C:Cs} {H:Hp} {P:Program} {w0:World} {d:Addr} {xs ys:Dx} {lo:Int} {k:Nat} {p:Addr} {ms:List Addr} (h:cD C H lo k p ms) (hd:H d=some (cU P w0 d xs)):cD C (upd H d (cU P w0 d ys)) lo k p ms:=by
 have n:∀ {x:Addr} {o:HO},H x=some o->(∀ φ,o ≠ .ext φ)->upd H d (cU P w0 d ys) x=some o:=fun e ne=>by
  rw [Yg fun z=>by rw [z,hd] at e;exact ne _ (Option.some.inj e).symm];exact e
 cases h with
 | w _ dx c nn hp hc=>exact .w p dx c nn (n hp (by intro φ z;cases z)) (n hc (by intro φ z;cases z))
 | r k _ dx c Pp T dt L w nn rm hc hw=>exact .r k p dx c Pp T dt L w nn ⟨n rm.hp (by intro φ z;cases z),n rm.hP (by intro φ z;cases z),n rm.hT (by intro φ z;cases z),n rm.hL (by intro φ z;cases z),rm.nP,rm.nc,rm.gq,rm.iC⟩ (n hc (by intro φ z;cases z)) (n hw (by intro φ z;cases z))
inductive uU (P:Program) (w:World) (K:W.Frag) (C:Cs) (CL:Addr) (vs:List V) (H:Hp) (Q:VK) (E_:XK):Prop
 | mk (ls dl d:Addr) (b:V) (lo:Int) (f:Bool->Option (Addr×List Addr)) (xs:Dx) (a:Addr) (k:Bool) (h0:vs=[.ref ls,.ref a]) (h1:Li P w K C CL H ls dl d b lo f xs) (h2:Y0 H lo a k.toNat) (h3:∀ p ms H' f' xs',Li P w K C CL H' ls dl d b lo f' xs'->f' k=some (p,ms)->(∀ j z,f j=some z->f' j=some z)->(∀ j q cu,f' j=some (q,cu)->f j=none->∀ x∈cu,H x=none)->(∀ x o,x≠d->H x=some o->H' x=some o)->Q (.ref p) H')
theorem Z3m {k:Nat} {Z4 Z5 Z1 Z2 Z3 Z0:Addr} {aq ao:Addr} {ak aj:Addr} {aA au:Addr} (R:g.aW Z5 "maker_of" "Lister.maker_of" zB ["self","shape"]) (Z3n:g.Me k Z5 "new_maker" ["self","shape"] (uR g.K (Cs.mk Z0 Z1 Z2))) (Zr:Cls g.K Z5) (Zu:Yp g.K Z5 "book") (Zm:Yp g.K Z5 "makers"):g.Me (k+1) Z5 "maker_of" ["self","shape"] (uU g.P g.w g.K (Cs.mk Z0 Z1 Z2) Z5):=by
 refine R.me Z3g (fun vs H Q E h=>by obtain ⟨ls,dl,d,b,lo,f,xs,a,k,rfl,L,hk,q⟩:=h;rfl) fun f_ cdv A outer s H vs Q E hr h=>?_
 obtain ⟨ls,dl,d,b,lo,f,xs,a,k,rfl,L,hk,q⟩:=h;refine ⟨_,(@Yd _ _ _ _ _ (@Yu _ _ _ _ _ _ _ _ (@Yo _ _ _ _ _ _ _ _ (Yb3 hr) (pv 1) (@Y6 _ _ _ _ _ (pv 0) rfl) rfl) (@Ye _ _ _ (@Yu _ _ _ _ _ _ _ _ (@Yo _ _ _ _ _ _ _ _ YJ (@Ys _ _ _ _ _ _ _ YD (pv 1) Yh (fun _ _=>rfl)) YC (Yl _)) (@Ye _ _ _ YB) (@Ye _ _ _ (@Yeb _ _ _ _ _ _ _ _ _ _ hr (@Y6 _ _ _ _ _ (pv 0) rfl) (pv 1) (@Wy _ _ _ _ _ _ _ _ _ _ _ _ _ _ _ _ Z3n Zr hr (pv 0) (@Ya _ _ _ _ _ (pv 1) Yb (by rfl)) (by omega) (by rfl) (by rfl) (by rfl) (by rfl)) rfl)))) Yq) (@Ye _ _ _ (@Yn _ _ _ _ (@Yea _ _ _ _ _ _ _ hr (@Y6 _ _ _ _ _ (pv 0) rfl) (pv 1) (fun _ _=>rfl))))),?_⟩;have dk:=hk.dk (K:=g.K);walk_at "rd";refine ⟨_,_,_,L.hl,Zr,Zm,_,W2 _ _,d,rfl,xs,L.hd,_,dk,?_⟩;have lk:=L.lk k
 cases hf:f k with
 | some z =>
  obtain ⟨p,ms⟩:=z;rw [hf] at lk
  have lk:aZ xs (kdP lo k)=some p:=lk;rw [lk];refine YA (by simp) ?_;unfold Q4;walk_at "rd";exact ⟨_,_,_,L.hl,Zr,Zm,_,W2 _ _,d,rfl,xs,L.hd,_,dk,p,lk,q p ms H f xs L hf (fun _ _ e=>e) (fun j q' cu e1 e2=>by rw [e1] at e2;cases e2) (fun _ _ _ e=>e)⟩
 | none =>
  rw [hf] at lk
  have lk:aZ xs (kdP lo k)=none:=lk;rw [lk];refine YU rfl ?_;obtain ⟨m,r,hm,hmu⟩:=hk.ahead;refine ⟨_,aJ.of hm,_,Yk (j:=0) rfl,rfl,YA (fun z=>hmu (V.str.inj z)) ?_⟩;unfold Im;walk_at "rd";refine ⟨_,_,L.hl,Ju _ _ (by decide +kernel) (by decide +kernel),.ref ls,a,lo,k,rfl,hk,fun p ms H1 s1 mk1 Aj=>?_⟩;have hd1:bM g.P g.w g.K H1 d xs:=L.hd.keep (Io s1) (s1 _ _ L.hd.at_);have JC:=s1 _ _ L.hl;have lf1:=L.len;have o1:=JB (f false);have o2:=JB (f true);have ndl:ls≠d:=YG L.hl L.hd.at_ (by intro z;cases z);have Ak:=dk.keep s1;refine ⟨_,_,_,JC,Zr,Zm,_,W2 _ _,d,a,xs,kdP lo k,p,rfl,rfl,rfl,hd1,Ak,lk,by omega,?_⟩;have hd2:bM g.P g.w g.K (upd H1 d (cU g.P g.w d (xs++[(kdP lo k,a,p)]))) d (xs++[(kdP lo k,a,p)]):=hd1.put Ak lk (by omega);have hl2:upd H1 d (cU g.P g.w d (xs++[(kdP lo k,a,p)])) ls=some (.ins Z5 dl (lf b d)):=by rw [Yg ndl];exact JC
  have dk2:DK g.K (upd H1 d (cU g.P g.w d (xs++[(kdP lo k,a,p)]))) a (kdP lo k):=Ak.nJ fun z ys h=>h.imp (fun e=>by rw [Yg (YG e hd1.at_ (by intro z;cases z))];exact e) fun ⟨o,e⟩=>⟨o,by rw [Yg (YG e hd1.at_ (by intro z;cases z))];exact e⟩
  have hk2:aZ (xs++[(kdP lo k,a,p)]) (kdP lo k)=some p:=by rw [UD _ _ _ _ _ lk,if_pos rfl]
  unfold Q4;walk_at "rd";refine ⟨_,_,_,hl2,Zr,Zm,_,W2 _ _,d,rfl,_,hd2,_,dk2,p,hk2,?_⟩;refine q p ms _ (fun j=>if j=k then some (p,ms) else f j) (xs++[(kdP lo k,a,p)]) ⟨hl2,hd2,?_,fun j=>?_,fun j p' cu e=>?_,?_⟩ (if_pos rfl) (fun j z e=>?_) (fun j q' cu e1 e2 x hx=>?_) (fun x o hx e=>by rw [Yg hx];exact s1 _ _ e)
  ·rw [List.length_append,lf1]
   cases k with
   | false=>rw [if_pos rfl,if_neg (by decide),hf];simp;omega
   | true=>rw [if_neg (by decide),if_pos rfl,hf];simp
  ·rw [UD _ _ _ _ _ lk]
   by_cases c:j=k
   ·subst c;rw [if_pos rfl,if_pos rfl];rfl
   ·rw [if_neg c,if_neg (fun z=>c ?_)]
    ·exact L.lk j
    ·cases j<;>cases k<;>first | rfl | exact absurd z Jy | exact absurd z.symm Jy
  ·by_cases c:j=k
   ·subst c
    rw [if_pos rfl] at e
    cases Option.some.inj e
    exact mk1.dict hd1.at_
   ·rw [if_neg c] at e
    exact ((L.jh j p' cu e).stay s1).dict hd1.at_
  ·intro p1 ms1 p2 ms2 e1 e2 x h1 h2
   have al:∀ j p' cu,f j=some (p',cu)->∀ x∈cu,H x≠none:=fun j p' cu e x hx=>(L.jh j p' cu e).al x hx
   cases k with
   | false =>
    rw [if_pos rfl] at e1
    rw [if_neg (by decide)] at e2
    cases Option.some.inj e1
    exact al true _ _ e2 x h2 (Aj x h1)
   | true =>
    rw [if_neg (by decide)] at e1
    rw [if_pos rfl] at e2
    cases Option.some.inj e2
    exact al false _ _ e1 x h1 (Aj x h2)
  ·by_cases c:j=k
   ·subst c;rw [hf] at e;cases e
   ·rw [if_neg c];exact e
  ·by_cases c:j=k
   ·subst c
    rw [if_pos rfl] at e1
    cases Option.some.inj e1
    exact Aj x hx
   ·rw [if_neg c,e2] at e1;cases e1
def hal:Nat->Nat->List Nat
 | 0,_=>[]
 | f+1,o=>if o=0 then [] else (o / 2)::hal f (o / 2)
def ji (o:Nat):List Nat:=(hal 20 o).reverse
def mR:Nat->Dd
 | 0 => .put 0
 | 1 => .take
 | _ => .cg
def dst (tn:Nat) (x:Dd):List Dd:=(if bC x=0 then [] else (List.range (cQ tn (dk x))).map fun i=>mR ((tn+i)%3))++(match x with | .put o=>(ji o).map Dd.put | _=>[])
def wo {α:Type} (xs:List α):List (List α):=(List.range xs.length).map fun i=>xs.take i++xs.drop (i+1)
def wi {α:Type} (xs:List α) (L:List (List α)):List (List α):=((List.range L.length).map fun i=>(L.getD i []).map fun s=>xs.take i++[s]++xs.drop (i+1)).flatten
def stL (tn:Nat) (xs:List Dd):List (List Dd):=wo xs++wi xs (xs.map (dst tn))
def YV (H:Hp) (lo:Int) (us:List V) (xs:List Dd):Prop:=us.length=xs.length/\∀ (i:Nat) u x,us[i]?=some u->xs[i]?=some x->Y1 H lo u x
theorem YV.tp {H H':Hp} (k:Tp H H') {lo:Int} {us:List V} {xs:List Dd} (h:YV H lo us xs):YV H' lo us xs:=⟨h.1,fun i u x e1 e2=>(h.2 i u x e1 e2).tp k⟩
inductive uV (K:W.Frag) (vs:List V) (H:Hp) (Q:VK) (E_:XK):Prop
 | mk (lo:Int) (o:Nat) (h0:vs=[.int lo,.int (lo+o)]) (h1:o<=200) (h2:∀ D H',Yf H H'->H D=none->H' D=some (.lst ((ji o).map fun (i:Nat)=>V.int (lo+(i:Nat))))->Q (.ref D) H')
theorem Yen {f o:Nat} (h:0<o):hal (f+1) o=(o / 2)::hal f (o / 2):=by rw [hal,if_neg (by omega)]
theorem Yeo (f:Nat):hal f 0=[]:=by cases f<;>rfl
theorem Z48 {Z4 Z5 Z1 Z2 Z3 Z0:Addr} {aq ao:Addr} {ak aj:Addr} {aA au:Addr} (R:g.Raw "whole_steps" "whole_steps" yQ ["low","value"]):g.Fn (1) "whole_steps" ["low","value"] (uV g.K):=by
 refine R.fn ug (fun vs H Q E h=>by obtain ⟨lo,o,rfl,ho,q⟩:=h;rfl) fun f_ cdv A outer s H vs Q E hr h=>?_
 obtain ⟨lo,o,rfl,ho,q⟩:=h;refine ⟨_,(@Yd _ _ _ _ _ (@Yr _ _ (2) _ _ _ _ ug.nd rfl (.inl rfl) (@Y3 _ _ _ _ Yb) (by rfl) (by first | exact .inl rfl | exact .inr rfl | assumption)) (@Yd _ _ _ _ _ (@Yr _ _ (3) _ _ _ _ ug.nd rfl (.inl rfl) (@Yt _ _ _ _ _ _ _ _ Xz (pv 1) (pv 0)) (by rfl) (by first | exact .inl rfl | exact .inr rfl | assumption)) (@Yd _ _ _ _ _ (@X8 _ _ _ _ _ _ PassesOwn.never (@Yo _ _ _ _ _ _ _ _ WX (pv 3) Yh (Yl _)) (@Yd _ _ _ _ _ (@Yr _ _ (3) _ _ _ _ ug.nd rfl (.inl rfl) (@Yt _ _ _ _ _ _ _ _ Wa (pv 3) Yh) (by rfl) (by first | exact .inl rfl | exact .inr rfl | assumption)) (@Ye _ _ _ (@Y4 _ _ _ _ (@Xp _ _ _ _ _ _ _ _ _ _ _ _ F.plainAttrs_list F.slot_list_append F.type_list_append Y7 (pv 2) (@Ya _ _ _ _ _ (@Yt _ _ _ _ _ _ _ _ Xi (pv 0) (pv 3)) Yb (by rfl)) (by rfl) (by rfl) (by rfl) (by rfl) (by rfl)) (by rfl))))) (@Ye _ _ _ (@Yn _ _ _ _ (@R4 _ _ _ _ _ _ _ (pv 2) (@VP _ _ _ _ _ _ Va Yh))))))),?_⟩;refine Ym fun R rr=>?_
 walk_at "rd";refine ⟨few (by decide),fun X gX=>rr _ _ (Ym fun R rr=>?_)⟩;have sX:=Yf.aF gX (.lst []);walk_at "rd";rw [show lo+(o:Int) - lo=o by omega];refine rr _ _ (Ym fun R rr=>?_);refine Wb (α:=Nat×Nat×List Nat) (fun a σ H'=>σ=[some (.int lo),some (.int (lo+o)),some (.ref X),some (.int (a.1:Nat))]/\a.1<2^a.2.1/\a.2.1<=20/\a.2.2.length+a.2.1=20/\hal 20 o=a.2.2++hal a.2.1 a.1/\SameBut X H H'/\H' X=some (.lst (a.2.2.map fun (i:Nat)=>V.int (lo+(i:Nat))))) (fun a=>decide (0<a.1)) (fun a=>a.1) (o,20,[]) ⟨rfl,(by omega:o<2^20),Nat.le_refl 20,rfl,rfl,fun b u nb e=>by rw [Yg nb];exact e,Yc⟩ ?_ ?_ ?_
 ·rintro ⟨x,f,l⟩ σ H' ⟨rfl,h1,h2,h3,h4,sb,hX⟩ R r
  walk_at "rd";have:=r H' ⟨rfl,h1,h2,h3,h4,sb,hX⟩;rw [show decide (0<x)=decide ((0:Int)<(x:Int)) from decide_eq_decide.mpr (by omega)] at this
  exact this
 ·rintro ⟨x,f,l⟩ σ H' ⟨rfl,h1,h2,h3,h4,sb,hX⟩ hx
  have hx0:0<x:=of_decide_eq_true hx;clear hx;have hf:f≠0:=fun z=>by subst z;simp at h1;omega
  obtain ⟨f,rfl⟩:∃ f',f=f'+1:=⟨f - 1,by omega⟩;dsimp only at h1 h2 h3 h4 hX ⊢;rw [Yen hx0] at h4
  rw [Nat.pow_succ] at h1
  refine Ym fun R rr=>?_
  walk_at "rd";refine ⟨XV (by decide) (by decide),rr _ _ ?_⟩;walk_at "rd";rw [show ((x:Nat):Int) / 2=((x / 2:Nat):Int) by omega];refine ⟨.inl ⟨rfl,_,aG.of hX⟩,_,hX,few (by simp;omega),?_⟩;refine ⟨(x / 2,f,l++[x / 2]),rfl,(by omega:x / 2<2^f),(by omega:f<=20),?_,?_,fun b u nb e=>by rw [Yg nb];exact sb b u nb e,?_,(by omega:x / 2<x)⟩
  ·show (l++[x / 2]).length+f=20
   rw [List.length_append,List.length_singleton];omega
  ·show hal 20 o=(l++[x / 2])++hal f (x / 2)
   rw [h4,List.append_assoc];rfl
  ·rw [Yc,List.map_append];rfl
 ·rintro ⟨x,f,l⟩ σ H' ⟨rfl,h1,h2,h3,h4,sb,hX⟩ hx
  have hx:x=0:=by have:=of_decide_eq_false hx;omega
  subst hx;refine rr _ _ ?_;walk_at "rd";rw [Yeo,List.append_nil] at h4
  refine ⟨_,aG.of hX,fun Y gY=>q Y _ (fun b u e=>?_) ?_ ?_⟩
  ·rw [Yg (Yj (sb _ _ (Yj e gX) e) gY)]
   exact sb _ _ (Yj e gX) e
  ·cases e:H Y with
   | none=>rfl
   | some u=>rw [sb _ _ (Yj e gX) e] at gY;cases gY
  ·rw [Yc,ji,h4,List.map_reverse]
structure Nl (H H':Hp) (as:List Addr) (zs:List (List V)):Prop where
 len:as.length=zs.length
 nw:∀ a∈as,H a=none
 nd:as.Nodup
 at_:∀ (i:Nat) a z,as[i]?=some a->zs[i]?=some z->H' a=some (.lst z)
theorem Nl.snoc {H H' aO:Hp} {as:List Addr} {zs:List (List V)} {a:Addr} {z:List V} (h:Nl H H' as zs) (ha:H a=none) (ha':H' a=none) (hz:aO a=some (.lst z)) (k:∀ b∈as,∀ o,H' b=some o->aO b=some o):Nl H aO (as++[a]) (zs++[z]):=by
 have al:∀ b∈as,H' b≠none:=fun b hb=>by
  obtain ⟨i,hi⟩:=List.getElem?_of_mem hb;have hl:=(List.getElem?_eq_some_iff.mp hi).1;have e:zs[i]?=some (zs[i]'(by have:=h.len;omega)):=List.getElem?_eq_getElem _;rw [h.at_ i b _ hi e];simp
 refine ⟨by rw [List.length_append,List.length_append,h.len];rfl,fun b hb=>?_,?_,fun i b y h1 h2=>?_⟩
 ·rcases List.mem_append.mp hb with hb | hb
  ·exact h.nw b hb
  ·cases List.mem_singleton.mp hb;exact ha
 ·rw [List.nodup_append]
  refine ⟨h.nd,by simp,fun x hx y hy=>?_⟩
  cases List.mem_singleton.mp hy
  intro e;subst e;exact al x hx ha'
 ·by_cases c:i<as.length
  ·rw [List.getElem?_append_left c] at h1
   rw [List.getElem?_append_left (by have:=h.len;omega)] at h2
   exact k b (List.mem_of_getElem? h1) _ (h.at_ i b y h1 h2)
  ·have hi:i=as.length:=by
    have:=(List.getElem?_eq_some_iff.mp h1).1;rw [List.length_append,List.length_singleton] at this
    omega
   subst hi;rw [List.getElem?_append_right (Nat.le_refl _),Nat.sub_self] at h1
   rw [h.len,List.getElem?_append_right (Nat.le_refl _),Nat.sub_self] at h2
   cases Option.some.inj h1
   cases Option.some.inj h2
   exact hz
inductive uW (K:W.Frag) (vs:List V) (H:Hp) (Q:VK) (E_:XK):Prop
 | mk (T:Addr) (us:List V) (h0:vs=[.ref T]) (h1:H T=some (.lst us)) (h2:us.length<=100) (h3:∀ D as H',Yf H H'->H D=none->H' D=some (.lst (as.map V.ref))->Nl H H' as (wo us)->Q (.ref D) H')
theorem Z40 {Z4 Z5 Z1 Z2 Z3 Z0:Addr} {aq ao:Addr} {ak aj:Addr} {aA au:Addr} (R:g.Raw "without_each" "without_each" yR ["things"]) (aK:g.mg "len"=none) (Zl:g.mg "range"=none):g.Fn (1) "without_each" ["things"] (uW g.K):=by
 refine R.fn Z3U (fun vs H Q E h=>by obtain ⟨T,us,rfl,hT,hl,q⟩:=h;rfl) fun f_ cdv A outer s H vs Q E hr h=>?_
 obtain ⟨T,us,rfl,hT,hl,q⟩:=h;refine ⟨_,(@Ye _ _ _ (@Yn _ _ _ _ (@X5 _ _ _ _ _ _ _ ([none,some 0]) ((["place","things"]:List Str)) _ (YT 0) _ _ (.own (.cap (i:=0) rfl rfl (by first | exact .inl rfl | exact .inr rfl) .nil)) rfl (@Wf _ _ _ _ _ _ rfl Zl (@Ya _ _ _ _ _ (@YH _ _ _ _ _ _ _ _ _ _ aK Yy (@Ya _ _ _ _ _ (pv 0) Yb (by rfl)) (by decide +kernel) (by rfl) (by rfl) (by decide) (by decide) (by rfl) (by rfl)) Yb (by rfl)) (by rfl)) (fun cl C s₀ H₀ fp pn=>(@Yz _ _ (0) _ (show List.Nodup (["place","things"]:List Str) by decide +kernel) rfl (.inl rfl) (.inr rfl))) (fun cl C s₀ H₀ fp pn=>Xs) (fun cl C s₀ H₀ fp pn=>(@Yt _ _ _ _ _ _ _ _ XC (@Xr _ _ _ _ _ _ _ _ _ _ (Wt (K:=g.K)) (pv 1) Xw (@Xx _ _ _ (pv 0))) (@Xr _ _ _ _ _ _ _ _ _ _ (Wt (K:=g.K)) (pv 1) (@Xx _ _ _ (@Yt _ _ _ _ _ _ _ _ Xi (pv 0) Yh)) Xw))) (by intro x hx;simp at hx;first | (subst hx;exact .inl rfl) | (rcases hx with rfl | rfl<;>exact .inl rfl) | (rcases hx with rfl | rfl | rfl<;>exact .inl rfl) | (rcases hx with rfl | rfl | rfl | rfl<;>exact .inl rfl) | (rcases hx with rfl | rfl | rfl | rfl | rfl<;>exact .inl rfl)) (by rfl) (by decide) (by decide +kernel) (by intro _;rfl)))),?_⟩;walk_at "rd";refine Uz (n:=us.length) (fun D i zs H'=>∃ as:List Addr,zs=as.map V.ref/\as.length=i/\H' D=some (.lst zs)/\Yf H H'/\D∉as/\Nl H H' as ((List.range i).map fun i=>us.take i++us.drop (i+1))) (fun R r=>?_) (by omega) ?_ ?_ ?_ ?_
 ·walk_at "rd"
  exact ⟨_,.inl (aG.of hT),r⟩
 ·intro D hD
  exact ⟨[],rfl,rfl,Yc,.aF hD _,by simp,⟨rfl,(fun a h=>by cases h),List.nodup_nil,fun i a z h=>by cases h⟩⟩
 ·rintro D i zs H' ⟨as,rfl,h1,h2,_⟩
  exact ⟨by rw [List.length_map,h1],h2⟩
 ·rintro D i zs H' hD hi ⟨as,rfl,hal,hd,sm,jY,nl⟩ R r
  walk_at "rd";refine ⟨_,aG.of (sm _ _ hT),fun X gX=>?_⟩;rw [WM];have sX:=Yf.aF gX (.lst (us.take i));refine ⟨_,aG.of (sX _ _ (sm _ _ hT)),fun Y gY=>?_⟩;rw [show (i:Int)+1=((i+1:Nat):Int) by omega,WN];have sY:=Yf.aF gY (.lst (us.drop (i+1)));refine ⟨_,sY _ _ Yc,_,Yc,few (by simp;omega),fun Z gZ=>?_⟩;have sZ:=Yf.aF gZ (.lst (us.take i++us.drop (i+1)));have s3:=(sX.trans sY).trans sZ;have Al:H' Z=none:=(sX.trans sY).free gZ;have pK:Z≠D:=Ne.symm (Yj hd Al);refine r _ _ (s3 _ _ hd) ⟨as++[Z],by rw [List.map_append];rfl,by rw [List.length_append,hal];rfl,Yc,.bT hD (sm.trans s3) _,fun h=>?_,?_⟩
  ·rcases List.mem_append.mp h with h | h
   ·exact jY h
   ·exact pK (List.mem_singleton.mp h).symm
  ·rw [List.range_succ,List.map_append]
   refine nl.snoc (sm.free Al) Al (by rw [Yg pK,Yc]) (fun b hb o e=>?_);rw [Yg fun z=>jY (by rw [<- z];exact hb)];exact s3 _ _ e
 ·rintro D zs H' hD ⟨as,rfl,hal,hd,sm,jY,nl⟩
  exact q D as H' sm hD hd nl
section
 variable {src:List (Option Nat)} {te:TE} {σ:St} {H:Hp} {Q:VK}
theorem Yep {K:W.Frag} {tl:TE} {b:Addr} {xs:List V} (zs:List (List V)) (ha:∀ R:V->Hp->Prop,R (.ref b) H->tl σ H R) (hS:H b=some (.lst xs)) (hz:zs.length=xs.length) (hlen:xs.length<=100000)
  (step:∀ (i:Nat) x z H',xs[i]?=some x->zs[i]?=some z->Yf H H'->∀ R:VK,(∀ a aO,Yf H' aO->H' a=none->aO a=some (.lst z)->R (.ref a) aO)->te (some x::YN src σ) H' R)
  (fin:∀ D as H',Yf H H'->H D=none->H' D=some (.lst (as.map V.ref))->Nl H H' as zs->Q (.ref D) H'):fj (none::src) (WG K tl) (YT 0) X9 te σ H Q:=by
 refine Yde (b:=b) (fun D i ys H'=>∃ as:List Addr,ys=as.map V.ref/\as.length=i/\H' D=some (.lst ys)/\Yf H H'/\D∉as/\Nl H H' as (zs.take i)) ha (aG.of hS) hlen ?_ ?_ ?_ ?_
 ·intro D hD
  exact ⟨[],rfl,rfl,Yc,.aF hD _,by simp,⟨by simp,(fun a h=>by cases h),List.nodup_nil,fun i a z h=>by cases h⟩⟩
 ·rintro D i ys H' hD ⟨as,rfl,h1,h2,sm,_⟩
  exact ⟨by rw [List.length_map,h1],h2,aG.of (sm _ _ hS)⟩
 ·rintro D i x ys H' hD hx ⟨as,rfl,hal,hd,sm,jY,nl⟩ R r
  have hi:=(List.getElem?_eq_some_iff.mp hx).1;have JD:zs[i]?=some (zs[i]'(by omega)):=List.getElem?_eq_getElem _;refine step i x _ H' hx JD sm R fun Z aO s2 gZ hZ=>?_
  have pK:Z≠D:=Ne.symm (Yj hd gZ);refine r _ _ (s2 _ _ hd) ⟨as++[Z],by rw [List.map_append];rfl,by rw [List.length_append,hal];rfl,Yc,.bT hD (sm.trans s2) _,fun h=>?_,?_⟩
  ·rcases List.mem_append.mp h with h | h
   ·exact jY h
   ·exact pK (List.mem_singleton.mp h).symm
  ·rw [XF JD]
   refine nl.snoc (sm.free gZ) gZ (by rw [Yg pK];exact hZ) (fun b hb o e=>?_);rw [Yg fun z=>jY (by rw [<- z];exact hb)];exact s2 _ _ e
 ·rintro D ys H' hD ⟨as,rfl,hal,hd,sm,jY,nl⟩
  rw [<- hz,List.take_length] at nl
  exact fin D as H' sm hD hd nl
end
def JF (H:Hp) (is_:List Addr) (ss:List (List V)):Prop:=is_.length=ss.length/\∀ (i:Nat) a s,is_[i]?=some a->ss[i]?=some s->H a=some (.lst s)
inductive pL (K:W.Frag) (vs:List V) (H:Hp) (Q:VK) (E_:XK):Prop
 | mk (T I:Addr) (us:List V) (is_:List Addr) (ss:List (List V)) (h0:vs=[.ref T,.ref I]) (h1:H T=some (.lst us)) (h2:us.length<=100) (h3:H I=some (.lst (is_.map V.ref))) (h4:is_.length<=100) (h5:JF H is_ ss) (h6:(∀ s∈ss,s.length<=100)) (h7:∀ D as H',Yf H H'->H D=none->H' D=some (.lst (as.map V.ref))->D∉as->Nl H H' as (wi us ss)->Q (.ref D) H')
theorem UE {α:Type} {us:List α} {ss:List (List α)} (h:∀ s∈ss,s.length<=100):∀ i≤ss.length,(((List.range i).map fun i=>(ss.getD i []).map fun s=>us.take i++[s]++us.drop (i+1)).flatten).length<=100*i
 | 0,_=>by simp
 | i+1,hi=>by
  have ih:=UE (us:=us) h i (by omega);rw [List.range_succ,List.map_append,List.flatten_append,List.length_append];have:(ss.getD i []).length<=100:=by
   rw [List.getD_eq_getElem?_getD,List.getElem?_eq_getElem (by omega)];exact h _ (List.getElem_mem _)
  simp only [List.map_cons,List.map_nil,List.flatten_cons,List.flatten_nil,List.append_nil,List.length_map];omega
theorem Nl.app {H H1 H':Hp} {as bs:List Addr} {zs ys:List (List V)} (h:Nl H H1 as zs) (h2:Nl H1 H' bs ys) (al:∀ a∈as,H1 a≠none) (f:∀ x,H1 x=none->H x=none) (k:∀ a∈as,∀ o,H1 a=some o->H' a=some o):Nl H H' (as++bs) (zs++ys):=by
 refine ⟨by rw [List.length_append,List.length_append,h.len,h2.len],fun a ha=>?_,?_,fun i a z e1 e2=>?_⟩
 ·rcases List.mem_append.mp ha with ha | ha
  ·exact h.nw a ha
  ·exact f a (h2.nw a ha)
 ·rw [List.nodup_append]
  refine ⟨h.nd,h2.nd,fun x hx y hy e=>?_⟩;subst e;exact al x hx (h2.nw x hy)
 ·by_cases c:i<as.length
  ·rw [List.getElem?_append_left c] at e1
   rw [List.getElem?_append_left (by have:=h.len;omega)] at e2
   exact k a (List.mem_of_getElem? e1) _ (h.at_ i a z e1 e2)
  ·rw [List.getElem?_append_right (by omega)] at e1
   rw [List.getElem?_append_right (by have:=h.len;omega),<- h.len] at e2
   exact h2.at_ _ a z e1 e2
theorem Z3E {Z4 Z5 Z1 Z2 Z3 Z0:Addr} {aq ao:Addr} {ak aj:Addr} {aA au:Addr} (R:g.Raw "with_each_step" "with_each_step" yS ["things","inner"]) (Zp:g.mg "enumerate"=none):g.Fn (1) "with_each_step" ["things","inner"] (pL g.K):=by
 refine R.fn ZK (fun vs H Q E h=>by obtain ⟨T,I,us,is_,ss,rfl,hT,pN,hI,hil,hss,hsl,q⟩:=h;rfl) fun f_ cdv A outer s H vs Q E hr h=>?_
 obtain ⟨T,I,us,is_,ss,rfl,hT,pN,hI,hil,hss,hsl,q⟩:=h;refine ⟨_,(@Yd _ _ _ _ _ (@Yr _ _ (2) _ _ _ _ ZK.nd rfl (.inl rfl) (@Y3 _ _ _ _ Yb) (by rfl) (by first | exact .inl rfl | exact .inr rfl | assumption)) (@Yd _ _ _ _ _ (@Xo _ _ _ _ _ _ _ _ PassesOwn.never rfl (@Ud _ _ _ _ _ _ _ _ rfl Zp (@Ya _ _ _ _ _ (pv 1) Yb (by rfl)) (by rfl)) (@Wl _ _ _ _ _ (2) rfl (@Y5 _ _ _ _ _ (@Yz _ _ (3) _ ZK.nd rfl (.inr rfl) (by first | exact .inl rfl | exact .inr rfl | assumption)) (@Y5 _ _ _ _ _ (@Yz _ _ (4) _ ZK.nd rfl (.inl rfl) (by first | exact .inl rfl | exact .inr rfl | assumption)) XZ (by rfl)) (by rfl)) (by rfl) (by rfl)) (@Ye _ _ _ (@Y4 _ _ _ _ (@Xp _ _ _ _ _ _ _ _ _ _ _ _ PySem.F.plainAttrs_list PySem.F.slot_list_extend PySem.F.type_list_extend Qe (pv 2) (@Ya _ _ _ _ _ (@X5 _ _ _ _ _ _ _ ([none,some 0,some 3]) ((["step","things","place"]:List Str)) _ (YT 0) _ _ (.own (.cap (i:=0) rfl rfl (by first | exact .inl rfl | exact .inr rfl) (.cap (i:=3) rfl rfl (by first | exact .inl rfl | exact .inr rfl) .nil))) rfl (@Xj _ _ _ _ (pv 4)) (fun cl C s₀ H₀ fp pn=>(@Yz _ _ (0) _ (show List.Nodup (["step","things","place"]:List Str) by decide +kernel) rfl (.inl rfl) (.inr rfl))) (fun cl C s₀ H₀ fp pn=>Xs) (fun cl C s₀ H₀ fp pn=>(@Yt _ _ _ _ _ _ _ _ XC (@Yt _ _ _ _ _ _ _ _ XC (@Xr _ _ _ _ _ _ _ _ _ _ (Wt (K:=g.K)) (pv 1) Xw (@Xx _ _ _ (pv 2))) (@Y3 _ _ _ _ (@Ya _ _ _ _ _ (pv 0) Yb (by rfl)))) (@Xr _ _ _ _ _ _ _ _ _ _ (Wt (K:=g.K)) (pv 1) (@Xx _ _ _ (@Yt _ _ _ _ _ _ _ _ Xi (pv 2) Yh)) Xw))) (by intro x hx;simp at hx;first | (subst hx;exact .inl rfl) | (rcases hx with rfl | rfl<;>exact .inl rfl) | (rcases hx with rfl | rfl | rfl<;>exact .inl rfl) | (rcases hx with rfl | rfl | rfl | rfl<;>exact .inl rfl) | (rcases hx with rfl | rfl | rfl | rfl | rfl<;>exact .inl rfl)) (by rfl) (by decide) (by decide +kernel) (by intro _;rfl)) Yb (by rfl)) (by rfl) (by rfl) (by rfl) (by rfl) (by rfl)) (by rfl))) (by intro _;rfl)) (@Ye _ _ _ (@Yn _ _ _ _ (pv 2))))),?_⟩;refine Ym fun R rr=>?_
 walk_at "rd";refine ⟨few (by decide),fun C gC=>rr _ _ (Ym fun R rr=>?_)⟩;have sC:=Yf.aF gC (.lst []);refine Vm (K:=g.K) (a:=I) (xs:=is_.map V.ref) (fun i σ H'=>∃ (o3 o4:Option V) (as:List Addr),σ=[some (.ref T),some (.ref I),some (.ref C),o3,o4]/\SameBut C H H'/\H' C=some (.lst (as.map V.ref))/\C∉as/\Nl H H' as (((List.range i).map fun i=>(ss.getD i []).map fun s=>us.take i++[s]++us.drop (i+1)).flatten)) (fun R r=>by walk_at "rd";exact r) ⟨none,none,[],rfl,fun b o nb e=>sC _ _ e,Yc,by simp,⟨rfl,(fun a h=>by cases h),List.nodup_nil,fun i a z h=>by cases h⟩⟩ (fun i σ H' _ ⟨_,_,_,_,sb,_,_,_⟩=>aG.of (sb _ _ (Yj hI gC) hI)) ?_ ?_
 ·rintro i x σ H' Z hx ⟨o3,o4,as,rfl,sb,hC,uX,nl⟩ gZ
  rw [List.getElem?_map] at hx
  obtain ⟨ii,uY,rfl⟩:=Option.map_eq_some_iff.mp hx;have hi:=(List.getElem?_eq_some_iff.mp uY).1;have hsi:ss[i]?=some (ss[i]'(by have:=hss.1;omega)):=List.getElem?_eq_getElem _;generalize ss[i]'(by have:=hss.1;omega)=sl at hsi;have afx:=hsl _ (List.mem_of_getElem? hsi);have his:=hss.2 i ii sl uY hsi;have sZ:=Yf.aF gZ (.tup [.int (i:Int),.ref ii]);refine ⟨Z,_,rfl,aJ.of Yc,rfl,_,_,rfl,_,_,rfl,rfl,?_⟩;walk_at "rd";have hT1:=sZ _ _ (sb _ _ (Yj hT gC) hT);have jZ:=sZ _ _ hC;have Am:SameBut C H (upd H' Z (.tup [.int (i:Int),.ref ii])):=fun b o nb e=>sZ _ _ (sb b o nb e)
  have fM:Nl H (upd H' Z (.tup [.int (i:Int),.ref ii])) as _:=⟨nl.len,nl.nw,nl.nd,fun j a z e1 e2=>sZ _ _ (nl.at_ j a z e1 e2)⟩;have hll:=UE (us:=us) hsl i (by have:=hss.1;omega);rw [<- nl.len] at hll
  have Ao:=sZ _ _ (sb _ _ (Yj his gC) his);generalize upd H' Z (.tup [.int (i:Int),.ref ii])=H1 at sZ hT1 jZ Am fM Ao;refine ⟨.inl ⟨rfl,_,aG.of jZ⟩,?_⟩;refine Yep (K:=g.K) (b:=ii) (xs:=sl) (sl.map fun s=>us.take i++[s]++us.drop (i+1)) (fun R r=>by walk_at "rd";exact r) Ao (by simp) (by omega) ?_ ?_
  ·intro j y z H2 hy hz sm R r
   rw [List.getElem?_map,hy] at hz
   cases Option.some.inj hz
   walk_at "rd";refine ⟨_,aG.of (sm _ _ hT1),fun X gX=>?_⟩;rw [WM];have sX:=Yf.aF gX (.lst (us.take i));refine ⟨few (by decide),fun Y gY=>?_⟩;have sY:=Yf.aF gY (.lst [y]);refine ⟨_,sY _ _ Yc,_,Yc,few (by simp;omega),fun W gW=>?_⟩;have sW:=Yf.aF gW (.lst (us.take i++[y]));refine ⟨_,aG.of (sW _ _ (sY _ _ (sX _ _ (sm _ _ hT1)))),fun X2 gX2=>?_⟩;rw [show (i:Int)+1=((i+1:Nat):Int) by omega,WN];have JG:=Yf.aF gX2 (.lst (us.drop (i+1)));refine ⟨_,JG _ _ Yc,_,Yc,few (by simp;omega),fun A gA=>?_⟩;have s5:=((sX.trans sY).trans sW).trans JG;exact r A _ (s5.trans (.aF gA _)) (s5.free gA) Yc
  ·intro D bs H2 sm gD hD dU
   have hC2:=sm _ _ jZ;have nCD:C≠D:=Yj jZ gD;refine ⟨C,D,_,_,rfl,rfl,hC2,hD,few (by have:=dU.len;simp at this;simp;omega),fun b o nb e=>by rw [Yg nb];exact sm _ _ (Am b o nb e),as++bs,by rw [Yc,List.map_append],?_,?_⟩
   ·intro h
    rcases List.mem_append.mp h with h | h
    ·exact uX h
    ·have:=dU.nw C h;rw [jZ] at this;cases this
   ·rw [List.range_succ,List.map_append,List.flatten_append]
    have e0:ss.getD i []=sl:=by rw [List.getD_eq_getElem?_getD,hsi];rfl
    simp only [List.map_cons,List.map_nil,List.flatten_cons,List.flatten_nil,List.append_nil,e0];have alv:∀ a∈as,H1 a≠none:=fun a ha=>by
     obtain ⟨j,hj⟩:=List.getElem?_of_mem ha;have e:=(List.getElem?_eq_some_iff.mp hj).1;have hz:(((List.range i).map fun i=>(ss.getD i []).map fun s=>us.take i++[s]++us.drop (i+1)).flatten)[j]?=some ((((List.range i).map fun i=>(ss.getD i []).map fun s=>us.take i++[s]++us.drop (i+1)).flatten)[j]'(by rw [<- fM.len];exact e)):=List.getElem?_eq_getElem _;rw [fM.at_ j a _ hj hz];simp
    have hb:∀ b∈bs,b≠C:=fun b hb z=>by have:=dU.nw b hb;rw [z,jZ] at this;cases this
    refine fM.app ⟨dU.len,dU.nw,dU.nd,fun j a z e1 e2=>by rw [Yg (hb a (List.mem_of_getElem? e1))];exact dU.at_ j a z e1 e2⟩ alv (fun x gx=>?_) (fun a ha o e=>by rw [Yg fun z=>uX (by rw [<- z];exact ha)];exact sm _ _ e)
    cases e:H x with
    | none=>rfl
    | some o =>
     by_cases c:x=C
     ·rw [c,jZ] at gx;cases gx
     ·rw [Am x o c e] at gx;cases gx
 ·rintro σ H' ⟨o3,o4,as,rfl,sb,hC,uX,nl⟩
  refine rr _ _ ?_;walk_at "rd";rw [List.length_map,hss.1] at nl
  exact q C as H' (fun b o e=>sb b o (Yj e gC) e) gC hC uX nl
def fS (b:V) (ls:Addr):List (Str×V):=[("book",b),("lister",.ref ls)]
theorem JH (b:V) (ls:Addr):(fS b ls).lookup ("book":Str)=some b:=rfl
theorem Ydo (b:V) (ls:Addr):(fS b ls).lookup ("lister":Str)=some (.ref ls):=Jw (by decide +kernel) (by decide +kernel)
theorem QF {m:Str} (b:V) (ls:Addr) (h:(m==("book":Str))=false) (h2:(m==("lister":Str))=false):(fS b ls).lookup m=none:=rO h h2
def mu (d:Addr) (f:Bool->Option (Addr×List Addr)) (x:Addr):Prop:=x=d\/∃ k p ms,f k=some (p,ms)/\x∈ms
structure Go (d:Addr) (H:Hp) (f:Bool->Option (Addr×List Addr)) (H':Hp) (f':Bool->Option (Addr×List Addr)):Prop where
 fr:∀ x o,¬ mu d f x->H x=some o->H' x=some o
 up:∀ j z,f j=some z->f' j=some z
 nw:∀ x,mu d f' x->mu d f x\/H x=none
theorem Go.out {d:Addr} {H H':Hp} {f f':Bool->Option (Addr×List Addr)} (g:Go d H f H' f') {x:Addr} (h:¬ mu d f x) (hx:H x≠none):¬ mu d f' x:=fun z=>(g.nw x z).elim h hx
theorem Go.trans {d:Addr} {H H1 H2:Hp} {f f1 f2:Bool->Option (Addr×List Addr)} (a:Go d H f H1 f1) (b:Go d H1 f1 H2 f2):Go d H f H2 f2:=⟨fun x o h e=>b.fr x o (a.out h (by rw [e];simp)) (a.fr x o h e),fun j z e=>b.up j z (a.up j z e),fun x h=>by
 rcases b.nw x h with h | h
 ·exact a.nw x h
 ·by_cases c:mu d f x
  ·exact .inl c
  ·refine .inr ?_
   cases e:H x with
   | none=>rfl
   | some o=>rw [a.fr x o c e] at h;cases h⟩
theorem Wx {d:Addr} {H H':Hp} {f:Bool->Option (Addr×List Addr)} (s:Yf H H'):Go d H f H' f:=⟨fun _ _ _ e=>s _ _ e,fun _ _ e=>e,fun _ h => .inl h⟩
structure SI (P:Program) (w:World) (K:W.Frag) (C:Cs) (CL CS:Addr) (H:Hp) (st ds ls dl d:Addr) (b:V) (lo:Int) (f:Bool->Option (Addr×List Addr)) (xs:Dx):Prop where
 fu:H st=some (.ins CS ds (fS b ls))
 li:Li P w K C CL H ls dl d b lo f xs
section
 variable {P:Program} {w:World} {K:PySem.W.Frag} {C:Cs} {CL CS:Addr} {H H':Hp} {st ds ls dl d:Addr} {b:V} {lo:Int} {f:Bool->Option (Addr×List Addr)} {xs:Dx}
theorem Li.fX (L:Li P w K C CL H ls dl d b lo f xs) {x:Addr} (h:mu d f x):(∃ o,H x=some o)/\(∀ ys,H x≠some (.tup ys))/\∀ c e fs,H x≠some (.ins c e fs):=by
 rcases h with rfl | ⟨k,p,ms,e,hx⟩
 ·rw [L.hd.at_];exact ⟨⟨_,rfl⟩,(fun _ z=>by cases z),fun _ _ _ z=>by cases z⟩
 ·obtain ⟨ys,e⟩:=(L.jh k p ms e).ls x hx
  rw [e];exact ⟨⟨_,rfl⟩,(fun _ z=>by cases z),fun _ _ _ z=>by cases z⟩
theorem Li.new (L:Li P w K C CL H ls dl d b lo f xs) {x:Addr} (h:H x=none):¬ mu d f x:=fun z=>by
 obtain ⟨⟨o,e⟩,_⟩:=L.fX z;rw [h] at e;cases e
theorem Li.tp (L:Li P w K C CL H ls dl d b lo f xs) {f':Bool->Option (Addr×List Addr)} (g:Go d H f H' f'):Tp H H':=fun x ys e=>g.fr x _ (fun z=>(L.fX z).2.1 _ e) e
theorem Li.ins (L:Li P w K C CL H ls dl d b lo f xs) {f':Bool->Option (Addr×List Addr)} (g:Go d H f H' f') {x c e:Addr} {fs:List (Str×V)} (h:H x=some (.ins c e fs)):H' x=some (.ins c e fs):=g.fr x _ (fun z=>(L.fX z).2.2 _ _ _ h) h
theorem Li.same (L:Li P w K C CL H ls dl d b lo f xs) (s:Yf H H'):Li P w K C CL H' ls dl d b lo f xs:=⟨s _ _ L.hl,L.hd.keep (Io s) (s _ _ L.hd.at_),L.len,L.lk,fun k p ms e=>(L.jh k p ms e).stay s,L.dj⟩
theorem SI.same (L:SI P w K C CL CS H st ds ls dl d b lo f xs) (s:Yf H H'):SI P w K C CL CS H' st ds ls dl d b lo f xs:=⟨s _ _ L.fu,L.li.same s⟩
theorem cD.own {k:Nat} {p:Addr} {ms:List Addr} (h:cD C H lo k p ms) {x:Addr} {ys zs:List V} (hx:H x=some (.lst ys)) (hm:x∉ms):cD C (upd H x (.lst zs)) lo k p ms:=by
 cases h with
 | w _ dx c n hp hc=>exact .w p dx c n (by rw [Yg (YG hp hx (by intro z;cases z))];exact hp) (by rw [Yg fun z=>hm (by rw [<- z];exact .head _)];exact hc)
 | r k' _ dx c Pp T dt L' w n rm hc hw =>
  have k:∀ {y:Addr} {o:HO},y≠x->H y=some o->upd H x (.lst zs) y=some o:=fun ne e=>by rw [Yg ne];exact e
  exact .r k' p dx c Pp T dt L' w n ⟨k (YG rm.hp hx (by intro z;cases z)) rm.hp,k (fun z=>hm (by rw [<- z];exact .tail _ (.tail _ (.head _)))) rm.hP,k (YG rm.hT hx (by intro z;cases z)) rm.hT,k (fun z=>hm (by rw [<- z];exact .tail _ (.tail _ (.tail _ (.head _))))) rm.hL,rm.nP,rm.nc,rm.gq,rm.iC⟩ (k (fun z=>hm (by rw [<- z];exact .head _)) hc) (k (fun z=>hm (by rw [<- z];exact .tail _ (.head _))) hw)
theorem SI.own (L:SI P w K C CL CS H st ds ls dl d b lo f xs) {x:Addr} {ys zs:List V} (hx:H x=some (.lst ys)) (hm:¬ mu d f x):SI P w K C CL CS (upd H x (.lst zs)) st ds ls dl d b lo f xs:=by
 have k:∀ {y:Addr} {o:HO},y≠x->H y=some o->upd H x (.lst zs) y=some o:=fun ne e=>by rw [Yg ne];exact e
 have nd:d≠x:=fun z=>hm (.inl z.symm)
 refine ⟨k (YG L.fu hx (by intro z;cases z)) L.fu,k (YG L.li.hl hx (by intro z;cases z)) L.li.hl,L.li.hd.keep (fun y us h=>h.imp (fun e=>k (YG e hx (by intro z;cases z)) e) fun ⟨o,e⟩=>⟨o,k (YG e hx (by intro z;cases z)) e⟩) (k nd L.li.hd.at_),L.li.len,L.li.lk,fun j p ms e=>(L.li.jh j p ms e).own hx fun z=>hm (.inr ⟨j,p,ms,e,z⟩),L.li.dj⟩
end
inductive JK (P:Program) (w:World) (K:W.Frag) (C:Cs) (CL CS:Addr) (vs:List V) (H:Hp) (Q:VK) (E_:XK):Prop
 | mk (st ds:Addr) (b:V) (lo:Int) (h0:vs=[.ref st,b]) (h1:H st=some (.ins CS ds [])) (h2:∀ ls dl d H',SameBut st H H'->SI P w K C CL CS H' st ds ls dl d b lo (fun _=>none) []->H d=none->Q .non H')
theorem Z2Y {k:Nat} {Z4 Z5 Z1 Z2 Z3 Z0:Addr} {aq ao:Addr} {ak aj:Addr} {aA au:Addr} (R:g.cY "Stepper" Z3 "Stepper.__init__" zN ["self","book"]) {dF:Nat} (Z3F:g.Ma dF "Lister" Z5 ["self","book"] (Jv g.P g.w Z5)) (qI:dF+1<=k) (Zi:Cls g.K Z3) (Zg:Yp g.K Z3 "book") (Zf:Yp g.K Z3 "lister"):g.Ma (k+1) "Stepper" Z3 ["self","book"] (JK g.P g.w g.K (Cs.mk Z0 Z1 Z2) Z5 Z3):=by
 refine R.ma Z2O (fun vs H Q E h=>by obtain ⟨st,ds,b,lo,rfl,hst,q⟩:=h;rfl) fun f_ cdv A outer s H vs Q E hr h=>?_
 obtain ⟨st,ds,b,lo,rfl,hst,q⟩:=h;refine ⟨_,(@Yd _ _ _ _ _ (@XU _ _ _ _ _ _ _ _ (pv 0) (pv 1) rfl) (@Ye _ _ _ (@XU _ _ _ _ _ _ _ _ (pv 0) (@Uv _ _ _ _ _ _ _ _ _ _ _ _ _ Z3F hr (@Ya _ _ _ _ _ (pv 1) Yb (by rfl)) (by omega) (by rfl) (by rfl) (by decide) (by rfl) (by rfl)) rfl))),?_⟩;walk_at "rd";refine ⟨Z3,ds,_,hst,Zi,Zg,by decide,fun ls dl gl JL hne=>?_⟩;obtain ⟨H1,hH1⟩:∃ H1,H1=upd H st (.ins Z3 ds (Xb "book" b [])):=⟨_,rfl⟩;rw [<- hH1] at gl JL ⊢
 have h1:H1 st=some (.ins Z3 ds (Xb "book" b [])):=by rw [hH1,Yc]
 refine ⟨ls,dl,b,rfl,Yc,fun d H2 gd sb hl hd=>⟨rfl,?_⟩⟩;have s2:=W3 gl JL sb;have h2:=s2 _ _ h1;refine ⟨Z3,ds,_,h2,Zi,Zf,Vh (show 1<=3 by decide),?_⟩;have JM:=Xa (Xa gd);have nst:ls≠st:=Ne.symm (Yj h1 gl);have Ng:d≠st:=YG hd h2 (by intro z;cases z);have fr:∀ {x:Addr} {o:HO},x≠st->H x=some o->H1 x=some o:=fun n e=>by rw [hH1,Yg n];exact e
 refine q ls dl d _ (fun x o nx e=>by rw [Yg nx];exact s2 _ _ (fr nx e)) ⟨?_,by rw [Yg nst];exact hl,Ydh (by rw [Yg Ng];exact hd),rfl,fun k=>rfl,fun k p ms e=>(by cases e),fun p ms p' cu e=>(by cases e)⟩ ?_
 ·rw [Yc]
  refine congrArg some (congrArg (HO.ins _ _) ?_)
  show Xb "lister" (.ref ls) [(("book":Str),b)]=fS b ls
  simp only [Xb,if_neg (n1 (a:=("book":Str)) (b:=("lister":Str)) (by decide +kernel))];rfl
 ·rw [hH1] at JM
  exact Xa JM
section
 variable {P:Program} {w:World} {K:PySem.W.Frag} {C:Cs} {CL CS:Addr} {H H':Hp} {st ds ls dl d:Addr} {b:V} {lo:Int} {f:Bool->Option (Addr×List Addr)} {xs:Dx}
theorem cD.Fi {k:Nat} {p:Addr} {ms cu:List Addr} (h:cD C H lo k p ms) (fr:∀ x o,x∉cu->H x=some o->H' x=some o) (hm:∀ x∈cu,∃ ys,H x=some (.lst ys)) (dj:∀ x∈ms,x∉cu):cD C H' lo k p ms:=by
 have ki:∀ {y c e:Addr} {fs:List (Str×V)},H y=some (.ins c e fs)->H' y=some (.ins c e fs):=fun e=>fr _ _ (fun z=>by obtain ⟨ys,e'⟩:=hm _ z;rw [e] at e';cases e') e
 cases h with
 | w _ dx c n hp hc=>exact .w p dx c n (ki hp) (fr _ _ (dj c (.head _)) hc)
 | r k' _ dx c Pp T dt L' w n rm hc hw=>exact .r k' p dx c Pp T dt L' w n ⟨ki rm.hp,fr _ _ (dj Pp (.tail _ (.tail _ (.head _)))) rm.hP,ki rm.hT,fr _ _ (dj L' (.tail _ (.tail _ (.tail _ (.head _))))) rm.hL,rm.nP,rm.nc,rm.gq,rm.iC⟩ (fr _ _ (dj c (.head _)) hc) (fr _ _ (dj w (.tail _ (.head _))) hw)
theorem Li.cnt (L:Li P w K C CL H ls dl d b lo f xs) {k:Bool} {p:Addr} {ms:List Addr} (e:f k=some (p,ms)) (fr:∀ x o,x∉ms->H x=some o->H' x=some o) (m:cD C H' lo k.toNat p ms):Li P w K C CL H' ls dl d b lo f xs:=by
 have hm:=(L.jh k p ms e).ls;have nl:∀ {x:Addr} {o:HO},H x=some o->(∀ ys,o ≠ .lst ys)->H' x=some o:=fun e' ne=>fr _ _ (fun z=>by obtain ⟨ys,e2⟩:=hm _ z;rw [e'] at e2;exact ne _ (Option.some.inj e2)) e'
 refine ⟨nl L.hl (by intro ys z;cases z),L.hd.keep (fun y us h=>h.imp (fun e=>nl e (by intro ys z;cases z)) fun ⟨o,e⟩=>⟨o,nl e (by intro ys z;cases z)⟩) (nl L.hd.at_ (by intro ys z;cases z)),L.len,L.lk,fun j p' cu e'=>?_,L.dj⟩;by_cases c:j=k
 ·subst c
  rw [e] at e'
  cases Option.some.inj e'
  exact m
 ·refine (L.jh j p' cu e').Fi fr hm fun x h1 h2=>?_
  cases j<;>cases k<;>first | exact c rfl | exact L.dj _ _ _ _ e' e x h1 h2 | exact L.dj _ _ _ _ e e' x h2 h1
end
theorem Ydp {K:W.Frag} {tl:TE} {g:TG} {tb:TS} {D:Ends} {σ:St} {H:Hp} {xs:List V} (Pv:Addr->Nat->St->Hp->Prop) (ha:∀ R:V->Hp->Prop,(∀ c H1,Pv c 0 σ H1->R (.ref c) H1)->tl σ H R) (hl:∀ c i σ H,i<=xs.length->Pv c i σ H->aJ K H c xs)
  (hs:∀ c (i:Nat) x σ H,xs[i]?=some x->Pv c i σ H->g x σ H fun σ2 H2=>tb { D with nx:=Pv c (i+1),ct:=Pv c (i+1),bk:=D.nx } σ2 H2) (hd:∀ c σ H,Pv c xs.length σ H->D.nx σ H):Vj (qR K tl) g tb D σ H:=by
 refine ha _ fun c H1 h0=>⟨c,rfl,⟨xs,hl c 0 σ H1 (Nat.zero_le _) h0⟩,?_⟩
 exact Oo (Pv c) h0 (hl c) (hs c) (hd c)
theorem Go.own {d X:Addr} {H H':Hp} {o':HO} {f f':Bool->Option (Addr×List Addr)} (g:Go d H f H' f') (h:H X=none):Go d H f (upd H' X o') f':=⟨fun x o hm e=>by rw [Yg (Yj e h)];exact g.fr x o hm e,g.up,g.nw⟩
theorem JN {d:Addr} {H H':Hp} {f f':Bool->Option (Addr×List Addr)} (up:∀ j z,f j=some z->f' j=some z) (nw:∀ j q cu,f' j=some (q,cu)->f j=none->∀ x∈cu,H x=none) (fr:∀ x o,x≠d->H x=some o->H' x=some o):Go d H f H' f':=⟨fun x o h e=>fr x o (fun z=>h (.inl z)) e,up,fun x h=>by
 rcases h with h | ⟨j,p,ms,e,hx⟩
 ·exact .inl (.inl h)
 ·cases ef:f j with
  | none=>exact .inr (nw j p ms e ef x hx)
  | some z =>
   have:=up j z ef;rw [e] at this
   cases Option.some.inj this
   exact .inl (.inr ⟨j,p,ms,ef,hx⟩)⟩
theorem YV.snoc {H:Hp} {lo:Int} {us:List V} {xs:List Dd} {u:V} {x:Dd} (h:YV H lo us xs) (hu:Y1 H lo u x):YV H lo (us++[u]) (xs++[x]):=⟨by rw [List.length_append,List.length_append,h.1];rfl,fun i v y e1 e2=>by
 by_cases c:i<us.length
 ·rw [List.getElem?_append_left c] at e1
  rw [List.getElem?_append_left (by have:=h.1;omega)] at e2
  exact h.2 i v y e1 e2
 ·have hi:i=us.length:=by
   have:=(List.getElem?_eq_some_iff.mp e1).1;rw [List.length_append,List.length_singleton] at this
   omega
  subst hi;rw [List.getElem?_append_right (Nat.le_refl _),Nat.sub_self] at e1
  rw [h.1,List.getElem?_append_right (Nat.le_refl _),Nat.sub_self] at e2
  cases Option.some.inj e1
  cases Option.some.inj e2
  exact hu⟩
def uZ (tn:Nat) (x:Dd):List Dd:=if bC x=0 then [] else (List.range (cQ tn (dk x))).map fun i=>mR ((tn+i)%3)
inductive u5 (P:Program) (w:World) (K:W.Frag) (C:Cs) (CL CS:Addr) (vs:List V) (H:Hp) (Q:VK) (E_:XK):Prop
 | mk (st ds ls dl d:Addr) (b:V) (lo:Int) (f:Bool->Option (Addr×List Addr)) (xs:Dx) (tn:Nat) (a:Addr) (v:V) (x:Dd) (h0:vs=[.ref st,.ref a,v]) (h1:SI P w K C CL CS H st ds ls dl d b lo f xs) (h2:Y9 H lo tn a .pk) (h3:Y1 H lo v x) (h4:bN x) (h5:∀ D us H' f' xs',SI P w K C CL CS H' st ds ls dl d b lo f' xs'->Go d H f H' f'->H D=none->¬ mu d f' D->H' D=some (.lst us)->YV H' lo us (uZ tn x)->Q (.ref D) H')
theorem Yge {H:Hp} {lo:Int} {v:V} {k:Nat} {X:Addr} (hk:k<3) (h:mO H lo v k) (hX:H X=some (.tup [.str (bB k),v])):Y1 H lo (.ref X) (mR k):=by
 match k,hk with
 | 0,_ =>
  have h:v = .int lo:=h;subst h;exact ⟨X,rfl,by rw [hX];simp⟩
 | 1,_=>obtain ⟨b,rfl,hb⟩:=h;exact ⟨X,b,rfl,hX,hb⟩
 | 2,_=>obtain ⟨b,rfl,hb⟩:=h;exact ⟨X,b,rfl,hX,hb⟩
theorem Ygf {o:Nat} (h:o<=200):mG o<=8:=by
 unfold mG Builtin.Int.intBits
 split
 ·omega
 ·have:o.log2<8:=by
   by_cases c:o=0
   ·subst c;decide
   ·exact (Nat.log2_lt c).mpr (by omega)
  simp only [Int.natAbs_natCast];omega
theorem Ygg {x:Dd} (h:bN x):bC x<=8:=by
 cases x with
 | put o=>exact Ygf h
 | _=>simp [bC]
theorem Z1I {k:Nat} {Z4 Z5 Z1 Z2 Z3 Z0:Addr} {aq ao:Addr} {ak aj:Addr} {aA au:Addr} (R:g.aW Z3 "leasts_ahead" "Stepper.leasts_ahead" ZI ["self","shape","value"]) (Zz:g.Fn k "branch_place" ["branches","mark"] (iu)) (pO:g.Fn k "size_of" ["book","shape","value"] (pF g.K)) (jr:g.Fn k "least_below" ["maker","below"] (uP (Cs.mk Z0 Z1 Z2))) (Z3G:g.Me k Z5 "maker_of" ["self","shape"] (uU g.P g.w g.K (Cs.mk Z0 Z1 Z2) Z5)) (Zr:Cls g.K Z5) (Zu:Yp g.K Z5 "book") (Zm:Yp g.K Z5 "makers") (Zi:Cls g.K Z3) (Zg:Yp g.K Z3 "book") (Zf:Yp g.K Z3 "lister"):g.Me (k+1) Z3 "leasts_ahead" ["self","shape","value"] (u5 g.P g.w g.K (Cs.mk Z0 Z1 Z2) Z5 Z3):=by
 refine R.me Zq (fun vs H Q E h=>by obtain ⟨st,ds,ls,dl,d,b,lo,f,xs,tn,a,v,x,rfl,si,hS,hv,hx,q⟩:=h;rfl) fun f_ cdv A outer s H vs Q E hr h=>?_
 obtain ⟨st,ds,ls,dl,d,b,lo,f,xs,tn,a,v,x,rfl,si,hS,hv,hx,q⟩:=h;refine ⟨_,(@Yd _ _ _ _ _ (@Yr _ _ (3) _ _ _ _ Zq.nd rfl (.inl rfl) (@Yv _ _ _ _ _ _ _ _ _ _ _ _ pO hr (@Ya _ _ _ _ _ (@Y6 _ _ _ _ _ (pv 0) rfl) (@Ya _ _ _ _ _ (pv 1) (@Ya _ _ _ _ _ (pv 2) Yb (by rfl)) (by rfl)) (by rfl)) (by omega) (by rfl) (by rfl) (by decide) (by rfl) (by rfl)) (by rfl) (by first | exact .inl rfl | exact .inr rfl | assumption)) (@Yd _ _ _ _ _ (@Yr _ _ (4) _ _ _ _ Zq.nd rfl (.inl rfl) (@Y3 _ _ _ _ Yb) (by rfl) (by first | exact .inl rfl | exact .inr rfl | assumption)) (@Yd _ _ _ _ _ (@Xo _ _ _ _ _ _ _ _ PassesOwn.never rfl (@Gd _ _ _ _ (@Xr _ _ _ _ _ _ _ _ _ _ PK (@Ys _ _ _ _ _ _ _ YD (pv 1) Yh (fun _ _=>rfl)) Xw (@Xx _ _ _ (@Yv _ _ _ _ _ _ _ _ _ _ _ _ Zz hr (@Ya _ _ _ _ _ (@Ys _ _ _ _ _ _ _ YD (pv 1) Yh (fun _ _=>rfl)) (@Ya _ _ _ _ _ (@Ys _ _ _ _ _ _ _ YD (pv 2) Yh (fun _ _=>rfl)) Yb (by rfl)) (by rfl)) (by omega) (by rfl) (by rfl) (by decide) (by rfl) (by rfl))))) (@Wl _ _ _ _ _ (2) rfl (@Y5 _ _ _ _ _ (@Yz _ _ (5) _ Zq.nd rfl (.inl rfl) (by first | exact .inl rfl | exact .inr rfl | assumption)) (@Y5 _ _ _ _ _ (@Yz _ _ (6) _ Zq.nd rfl (.inl rfl) (by first | exact .inl rfl | exact .inr rfl | assumption)) XZ (by rfl)) (by rfl)) (by rfl) (by rfl)) (@Yd _ _ _ _ _ (@Yr _ _ (7) _ _ _ _ Zq.nd rfl (.inl rfl) (@Yv _ _ _ _ _ _ _ _ _ _ _ _ jr hr (@Ya _ _ _ _ _ (@Wy _ _ _ _ _ _ _ _ _ _ _ _ _ _ _ _ Z3G Zr hr (@Y6 _ _ _ _ _ (pv 0) rfl) (@Ya _ _ _ _ _ (pv 6) Yb (by rfl)) (by omega) (by rfl) (by rfl) (by rfl) (by rfl)) (@Ya _ _ _ _ _ (pv 3) Yb (by rfl)) (by rfl)) (by omega) (by rfl) (by rfl) (by decide) (by rfl) (by rfl)) (by rfl) (by first | exact .inl rfl | exact .inr rfl | assumption)) (@Ye _ _ _ (@Yu _ _ _ _ _ _ _ _ (@Yo _ _ _ _ _ _ _ _ Wg (pv 7) YW (Yl _)) (@Ye _ _ _ (@Y4 _ _ _ _ (@Xp _ _ _ _ _ _ _ _ _ _ _ _ F.plainAttrs_list F.slot_list_append F.type_list_append Y7 (pv 4) (@Ya _ _ _ _ _ (@YO _ _ _ _ _ (@Ya _ _ _ _ _ (pv 5) (@Ya _ _ _ _ _ (pv 7) Yb (by rfl)) (by rfl))) Yb (Y8 _ _ _ _ _)) (by rfl) (by rfl) (by rfl) (by rfl) (by rfl)) (by rfl))) Yq))) (by intro _;rfl)) (@Ye _ _ _ (@Yn _ _ _ _ (pv 4)))))),?_⟩;obtain ⟨b',c0,c1,c2,p0,p1,p2,h1,hP⟩:=id hS;obtain ⟨a',u,rfl,ha,hu⟩:=hv.two;have d8:=Ygg hx;refine Ym fun R rr=>?_
 walk_at "rd";refine ⟨_,_,_,si.fu,Zi,Zg,_,JH _ _,b,lo,tn,a,.pk,.ref a',bC x,rfl,hS,.pk _ x hv hx,fun H1 s1=>rr _ _ (Ym fun R rr=>?_)⟩;walk_at "rd";refine ⟨few (by decide),fun X gX=>rr _ _ (Ym fun R rr=>?_)⟩;have sX:=Yf.aF gX (.lst []);have s2:=s1.trans sX;have Aq:H X=none:=s1.free gX;have si2:=si.same s2;have hP2:=hP.kt (Yx s2);refine Ydp (xs:=([.ref c0,.ref c1,.ref c2]:List V).take (cQ tn (dk x))) (fun c i σ H'=>∃ (o5 o6 o7:Option V) (us:List V) (f':Bool->Option (Addr×List Addr)) (xs':Dx),σ=[some (.ref st),some (.ref a),some (.ref a'),some (.int (bC x:Nat)),some (.ref X),o5,o6,o7]/\H' c=some (.tup (([.ref c0,.ref c1,.ref c2]:List V).take (cQ tn (dk x))))/\SI g.P g.w g.K (Cs.mk Z0 Z1 Z2) Z5 Z3 H' st ds ls dl d b lo f' xs'/\Go d H f H' f'/\¬ mu d f' X/\H' X=some (.lst us)/\YV H' lo us (if bC x=0 then [] else (List.range i).map fun i=>mR ((tn+i)%3))) (fun R r=>?_) (fun c i σ H' _ ⟨_,_,_,_,_,_,_,h,_⟩=>aJ.of h) ?_ ?_
 ·walk_at "rd"
  refine ⟨_,aJ.of (s2 _ _ h1),_,Yk (j:=1) rfl,_,aJ.of (s2 _ _ h1),_,Yk (j:=1) rfl,_,aJ.of (s2 _ _ ha),_,Yk (j:=0) rfl,lo,tn,dk x,b',c0,c1,c2,p0,p1,p2,rfl,hP2,Vp x,fun H3 s3=>⟨_,rfl,b',_,rfl,aJ.of (s3 _ _ hP2.b),?_,fun p hp=>?_⟩⟩
  ·have:cQ tn (dk x)=0\/cQ tn (dk x)=1\/cQ tn (dk x)=2:=by have:=VH (tn:=tn) (k:=dk x);omega
   show ¬ (HT.aQ 3 0 none=0/\HT.aQ 3 3 (some (cQ tn (dk x):Int))=3)
   rcases this with e | e | e<;>rw [e]<;>decide
  ·have sp:=Yf.aF hp (.tup (WS [.ref c0,.ref c1,.ref c2] none (some (cQ tn (dk x):Int))))
   have s4:=s3.trans sp;refine r p _ ⟨none,none,none,[],f,xs,rfl,by rw [Yc,WM],si2.same s4,Wx (s2.trans s4),si.li.new Aq,s4 _ _ Yc,?_⟩
   split<;>exact ⟨rfl,fun i u x h=>by cases h⟩
 ·rintro c i y σ H' hy ⟨o5,o6,o7,us,f',xs',rfl,hc,cF,go,hX,mU,al⟩
  have hi:i<cQ tn (dk x):=by
   have:=(List.getElem?_eq_some_iff.mp hy).1;rw [List.length_take] at this
   omega
  have hi3:i<3:=Nat.lt_trans hi VH;rw [List.getElem?_take_of_lt hi] at hy
  obtain ⟨cc,pp,g1,g2,g3⟩:=hP.get hi3;rw [hy] at g1
  cases Option.some.inj g1
  have tp:=si.li.tp go;have mV:Y0 H' lo pp ((tn+i)%3):=g3.tp tp;have hk3:(tn+i)%3<3:=Nat.mod_lt _ (by decide);obtain ⟨k,hk⟩:∃ k:Bool,Y0 H' lo pp k.toNat/\∀ v H,mO H lo v k.toNat->mO H lo v ((tn+i)%3):=by
   generalize (tn+i)%3=m at mV hk3
   match m,hk3 with
   | 0,_=>exact ⟨false,mV,fun _ _ h=>h⟩
   | 1,_=>exact ⟨true,mV,fun _ _ h=>h⟩
   | 2,_=>exact ⟨true,by unfold Y0 at mV ⊢;rw [if_neg (by decide)] at mV;exact (if_neg (by decide)).mpr mV,fun _ _ h=>h⟩
  refine ⟨cc,_,rfl,aJ.of (tp _ _ g2),rfl,_,_,rfl,_,_,rfl,rfl,Ym fun R rr=>?_⟩;walk_at "rd";refine ⟨_,_,_,cF.fu,Zi,Zf,_,Ydo _ _,ls,rfl,_,_,cF.li.hl,Ju _ _ (by decide +kernel) (by decide +kernel),ls,dl,d,b,lo,f',xs',pp,k,rfl,cF.li,hk.1,fun p ms H4 f4 vd L4 e4 JQ JR JT=>?_⟩;refine ⟨p,lo,k.toNat,ms,bC x,rfl,by omega,L4.jh k p ms e4,fun z=>?_,fun z v H5 iW mk5 lv=>?_⟩
  ·have fO:=JN JQ JR JT
   have si4:SI g.P g.w g.K (Cs.mk Z0 Z1 Z2) Z5 Z3 H4 st ds ls dl d b lo f4 vd:=⟨cF.li.ins fO cF.fu,L4⟩;have JV:=cF.li.tp fO;refine rr _ _ ?_;walk_at "rd";refine ⟨JV _ _ hc,us,f4,vd,si4,go.trans fO,fO.out hX (by rw [mU];simp),fO.fr _ _ hX mU,?_⟩;rw [if_pos z] at al ⊢
   exact al.tp JV
  ·have fO:=JN JQ JR JT
   have eO:Go d H4 f4 H5 f4:=⟨fun y o h e=>iW y o (fun hm=>h (.inr ⟨k,p,ms,e4,hm⟩)) e,fun _ _ e=>e,fun _ h => .inl h⟩;have Ar:SI g.P g.w g.K (Cs.mk Z0 Z1 Z2) Z5 Z3 H5 st ds ls dl d b lo f4 vd:=⟨L4.ins eO (cF.li.ins fO cF.fu),L4.cnt e4 iW mk5⟩;have Av:=(cF.li.tp fO).trans (L4.tp eO);have JW:=fO.out hX (by rw [mU];simp);have Aw:=eO.fr _ _ JW (fO.fr _ _ hX mU);have lv:=hk.2 _ _ lv;have nn:v ≠ .non:=by
    generalize (tn+i)%3=m at lv
    cases m with
    | zero=>have lv:v = .int lo:=lv;rw [lv];intro z;cases z
    | succ m=>obtain ⟨b0,rfl,_⟩:=lv;intro z;cases z
   refine rr _ _ ?_;walk_at "rd";refine YU nn ⟨.inl ⟨rfl,_,aG.of Aw⟩,few (by decide),fun Y gY=>?_⟩;have sY:=Yf.aF gY (.tup [.str (bB ((tn+i)%3)),v]);have pP:=sY _ _ Aw;have JX:¬ mu d f4 X:=JW;have si6:=Ar.same sY;have hl:=al.1;have j4:=(Av.trans (YR (Yx sY))).trans (Ws (ys:=us++[.ref Y]) pP);have hl3:us.length<=3:=by rw [hl];split<;>simp<;>omega
   have hYf:upd (upd H5 Y (.tup [.str (bB ((tn+i)%3)),v])) X (.lst (us++[.ref Y])) Y=some (.tup [.str (bB ((tn+i)%3)),v]):=Ws pP _ _ Yc;have lv6:∀ m,mO H5 lo v m->mO (upd (upd H5 Y (.tup [.str (bB ((tn+i)%3)),v])) X (.lst (us++[.ref Y]))) lo v m:=fun m h=>by
    cases m with
    | zero=>exact h
    | succ m=>obtain ⟨b0,e,hb⟩:=h;exact ⟨b0,e,Ws pP _ _ (sY _ _ hb)⟩
   refine ⟨_,pP,few (by omega),j4 _ _ hc,us++[.ref Y],f4,vd,si6.own pP JX,?_,JX,Yc,?_⟩
   ·exact (((go.trans fO).trans eO).trans (Wx sY)).own Aq
   ·rw [if_neg (by omega)] at al ⊢
    rw [List.range_succ,List.map_append];exact (al.tp j4).snoc (Yge hk3 (lv6 _ lv) hYf)
 ·rintro c σ H' ⟨o5,o6,o7,us,f',xs',rfl,hc,cF,go,hX,mU,al⟩
  refine rr _ _ ?_;walk_at "rd";rw [List.length_take] at al
  refine q X us H' f' xs' cF go Aq hX mU ?_;have:min (cQ tn (dk x)) [V.ref c0,V.ref c1,V.ref c2].length=cQ tn (dk x):=by have:=VH (tn:=tn) (k:=dk x);simp;omega
  rw [this] at al
  exact al
inductive F2 {α β:Type} (R:α->β->Prop):List α->List β->Prop
 | nil:F2 R [] []
 | cons {a:α} {b:β} {as:List α} {bs:List β} (h:R a b) (t:F2 R as bs):F2 R (a::as) (b::bs)
section
 variable {α β:Type} {R:α->β->Prop}
theorem F2.len:∀ {as:List α} {bs:List β},F2 R as bs->as.length=bs.length
 | _,_,.nil=>rfl
 | _,_,.cons _ t=>by rw [List.length_cons,List.length_cons,t.len]
theorem F2.of:∀ {as:List α} {bs:List β},as.length=bs.length->(∀ (i:Nat) a b,as[i]?=some a->bs[i]?=some b->R a b)->F2 R as bs
 | [],[],_,_ => .nil
 | a::as,b::bs,h,k => .cons (k 0 a b rfl rfl) (F2.of (Nat.succ.inj h) fun i x y e1 e2=>k (i+1) x y e1 e2)
 | [],_::_,h,_=>by cases h
 | _::_,[],h,_=>by cases h
theorem F2.get:∀ {as:List α} {bs:List β},F2 R as bs->∀ (i:Nat) a b,as[i]?=some a->bs[i]?=some b->R a b
 | _,_,.nil,i,a,b,e,_=>by cases e
 | _,_,.cons h t,0,a,b,e1,e2=>by cases Option.some.inj e1;cases Option.some.inj e2;exact h
 | _,_,.cons h t,i+1,a,b,e1,e2=>t.get i a b e1 e2
theorem F2.app:∀ {as:List α} {bs:List β} {cs:List α} {ds:List β},F2 R as bs->F2 R cs ds->F2 R (as++cs) (bs++ds)
 | _,_,_,_,.nil,h=>h
 | _,_,_,_,.cons h t,k => .cons h (t.app k)
theorem F2.take:∀ {as:List α} {bs:List β} (n:Nat),F2 R as bs->F2 R (as.take n) (bs.take n)
 | _,_,0,_ => .nil
 | _,_,_+1,.nil => .nil
 | _,_,n+1,.cons h t => .cons h (t.take n)
theorem F2.drop:∀ {as:List α} {bs:List β} (n:Nat),F2 R as bs->F2 R (as.drop n) (bs.drop n)
 | _,_,0,h=>h
 | _,_,_+1,.nil => .nil
 | _,_,n+1,.cons h t=>t.drop n
theorem F2.flat:∀ {as:List (List α)} {bs:List (List β)},F2 (F2 R) as bs->F2 R as.flatten bs.flatten
 | _,_,.nil => .nil
 | _,_,.cons h t=>h.app t.flat
theorem F2.map {α' β':Type} {R':α'->β'->Prop} {f:α->α'} {g:β->β'} (k:∀ a b,R a b->R' (f a) (g b)):∀ {as:List α} {bs:List β},F2 R as bs->F2 R' (as.map f) (bs.map g)
 | _,_,.nil => .nil
 | _,_,.cons h t => .cons (k _ _ h) (t.map k)
theorem F2.imp {R':α->β->Prop} (k:∀ a b,R a b->R' a b):∀ {as:List α} {bs:List β},F2 R as bs->F2 R' as bs
 | _,_,.nil => .nil
 | _,_,.cons h t => .cons (k _ _ h) (t.imp k)
theorem F2.rng {f:Nat->α} {g:Nat->β}:∀ {l:List Nat},(∀ i∈l,R (f i) (g i))->F2 R (l.map f) (l.map g)
 | [],_ => .nil
 | i::l,h => .cons (h i (.head _)) (F2.rng fun j hj=>h j (.tail _ hj))
theorem F2.getD:∀ {as:List (List α)} {bs:List (List β)} (i:Nat),F2 (F2 R) as bs->F2 R (as.getD i []) (bs.getD i [])
 | _,_,_,.nil => .nil
 | _,_,0,.cons h t=>h
 | _,_,i+1,.cons h t=>t.getD i
theorem F2.wo {as:List α} {bs:List β} (h:F2 R as bs):F2 (F2 R) (KW.wo as) (KW.wo bs):=by
 unfold KW.wo;rw [h.len];exact F2.rng fun i _=>(h.take i).app (h.drop (i+1))
theorem F2.wi {as:List α} {bs:List β} {ss:List (List α)} {L:List (List β)} (h:F2 R as bs) (k:F2 (F2 R) ss L):F2 (F2 R) (KW.wi as ss) (KW.wi bs L):=by
 unfold KW.wi;rw [k.len];exact F2.flat (F2.rng fun i _=>F2.map (f:=fun s=>as.take i++[s]++as.drop (i+1)) (g:=fun s=>bs.take i++[s]++bs.drop (i+1)) (fun s t e=>((h.take i).app (.cons e .nil)).app (h.drop (i+1))) (k.getD i))
end
theorem YV.f2 {H:Hp} {lo:Int} {us:List V} {xs:List Dd} (h:YV H lo us xs):F2 (Y1 H lo) us xs:=F2.of h.1 h.2
theorem F2.al {H:Hp} {lo:Int} {us:List V} {xs:List Dd} (h:F2 (Y1 H lo) us xs):YV H lo us xs:=⟨h.len,h.get⟩
def vf (H:Hp) (lo:Int) (as:List Addr) (L:List (List Dd)):Prop:=F2 (fun a xs=>∃ us,H a=some (.lst us)/\YV H lo us xs) as L
theorem Nl.all {H H':Hp} {lo:Int} {as:List Addr} {zs:List (List V)} {L:List (List Dd)} (n:Nl H H' as zs) (h:F2 (F2 (Y1 H' lo)) zs L):vf H' lo as L:=by
 refine F2.of (by rw [n.len,h.len]) fun i a xs e1 e2=>?_
 have hi:=(List.getElem?_eq_some_iff.mp e2).1;have hz:zs[i]?=some (zs[i]'(by have:=h.len;omega)):=List.getElem?_eq_getElem _;exact ⟨_,n.at_ i a _ e1 hz,(h.get i _ xs hz e2).al⟩
inductive Rs (H:Hp) (lo:Int) (tn:Nat):Sd->V->Addr->Prop
 | wh (o:Nat) (D:Addr) (ho:o<=200) (hD:H D=some (.lst ((ji o).map fun (i:Nat)=>V.int (lo+(i:Nat))))):Rs H lo tn .wh (.int (lo+o)) D
 | bD (v:V) (D:Addr) (hD:H D=some (.lst [])):Rs H lo tn .bD v D
 | pk (v:V) (x:Dd) (us:List V) (D:Addr) (h:Y1 H lo v x) (k:bN x) (hD:H D=some (.lst us)) (al:YV H lo us (dst tn x)):Rs H lo tn .pk v D
 | aR (T:Addr) (us:List V) (xs:List Dd) (as:List Addr) (D:Addr) (hT:H T=some (.lst us)) (al:YV H lo us xs) (hD:H D=some (.lst (as.map V.ref))) (hl:vf H lo as (stL tn xs)):Rs H lo tn .aR (.ref T) D
theorem Rs.al {H:Hp} {lo:Int} {tn:Nat} {s:Sd} {v:V} {D:Addr} (h:Rs H lo tn s v D):∃ us,H D=some (.lst us):=by cases h<;>exact ⟨_,by assumption⟩
theorem Rs.go {H H':Hp} {lo:Int} {tn:Nat} {s:Sd} {v:V} {D:Addr} (h:Rs H lo tn s v D) (tp:Tp H H') (k:∀ o,H D=some o->H' D=some o) (hs:s ≠ .aR):Rs H' lo tn s v D:=by
 cases h with
 | wh o D ho hD=>exact .wh o D ho (k _ hD)
 | bD v D hD=>exact .bD v D (k _ hD)
 | pk v x us D h kx hD al=>exact .pk v x us D (h.tp tp) kx (k _ hD) (al.tp tp)
 | aR=>exact absurd rfl hs
theorem Wi.go {H H':Hp} {lo:Int} {s:Sd} {v:V} {L:List (Sd×V×Nat)} (h:Wi H lo s v L) (tp:Tp H H') (k:s = .aR->∀ T o,v = .ref T->H T=some o->H' T=some o):Wi H' lo s v L:=by
 cases h with
 | wh o ho=>exact .wh o ho
 | bD b hb=>exact .bD b (tp _ _ hb)
 | pk a u x ha hd kx=>exact .pk a u x (tp _ _ ha) (hd.tp tp) kx
 | aR D us xs h l hl h2=>exact .aR D us xs (k rfl _ _ rfl h) l hl fun i u x e1 e2=>⟨(h2 i u x e1 e2).1.tp tp,(h2 i u x e1 e2).2⟩
def vg (H:Hp) (lo:Int) (tn:Nat) (is_:List Addr) (L:List (Sd×V×Nat)):Prop:=is_.length=L.length/\∀ (i:Nat) a w,is_[i]?=some a->L[i]?=some w->Rs H lo tn w.1 w.2.1 a
inductive vh (P:Program) (w:World) (K:W.Frag) (C:Cs) (CL CS:Addr) (vs:List V) (H:Hp) (Q:VK) (E_:XK):Prop
 | mk (st ds ls dl d:Addr) (b:V) (lo:Int) (f:Bool->Option (Addr×List Addr)) (xs:Dx) (tn:Nat) (a:Addr) (s:Sd) (v:V) (I:Addr) (is_:List Addr) (L:List (Sd×V×Nat)) (h0:vs=[.ref st,.ref a,v,.ref I]) (h1:SI P w K C CL CS H st ds ls dl d b lo f xs) (h2:Y9 H lo tn a s) (h3:Wi H lo s v L) (h4:H I=some (.lst (is_.map V.ref))) (h5:vg H lo tn is_ L) (h6:¬ mu d f I) (h7:(∀ a∈is_,¬ mu d f a)) (h8:∀ D H' f' xs',SI P w K C CL CS H' st ds ls dl d b lo f' xs'->Go d H f H' f'->H D=none->¬ mu d f' D->Rs H' lo tn s v D->Q (.ref D) H')
theorem Y1.inj {H:Hp} {lo:Int} {v:V} {x y:Dd} (h:Y1 H lo v x) (k:Y1 H lo v y):x=y:=by
 obtain ⟨a,u,rfl,h1,-⟩:=id h.two;obtain ⟨a',u',e,h2,-⟩:=id k.two
 cases e
 rw [h1] at h2
 have e:=HO.tup.inj (Option.some.inj h2);have e1:=V.str.inj (List.cons.inj e).1;have e2:=Jj _ (Vp x) _ (Vp y) e1
 cases x with
 | put o =>
  cases y with
  | put o' =>
   obtain ⟨c,ec,hc⟩:=h;obtain ⟨c',ec',hc'⟩:=k
   cases ec;cases ec'
   rw [hc] at hc'
   have e:=V.int.inj (List.cons.inj (List.cons.inj (HO.tup.inj (Option.some.inj hc'))).2).1;rw [show o=o' by omega]
  | take=>cases e2
  | cg=>cases e2
 | take=>cases y<;>first | rfl | cases e2
 | cg=>cases y<;>first | rfl | cases e2
theorem JZ:∀ f o,(hal f o).length<=f
 | 0,_=>Nat.le_refl _
 | f+1,o=>by
  rw [hal]
  split
  ·exact Nat.zero_le _
  ·rw [List.length_cons];have:=JZ f (o / 2);omega
theorem J0 (o:Nat):(ji o).length<=20:=by rw [ji,List.length_reverse];exact JZ 20 o
def Ui (x:Dd):List Dd:=match x with | .put o=>(ji o).map Dd.put | _=>[]
theorem Ax (tn:Nat) (x:Dd):dst tn x=uZ tn x++Ui x:=rfl
theorem Ay (tn:Nat) (x:Dd):(dst tn x).length<=100:=by
 rw [Ax,List.length_append];have h1:(uZ tn x).length<=3:=by
  unfold uZ
  split
  ·simp
  ·have:=VH (tn:=tn) (k:=dk x);simp;omega
 have h2:(Ui x).length<=20:=by
  cases x with
  | put o=>rw [Ui,List.length_map];exact J0 o
  | _=>simp [Ui]
 omega
theorem Rs.mark {H:Hp} {lo:Int} {tn:Nat} {a' D:Addr} {u:V} {x:Dd} (ha:H a'=some (.tup [.str (bB (dk x)),u])) (hd:Y1 H lo (.ref a') x) (h:Rs H lo tn (jV (dk x)) u D):∃ us,H D=some (.lst us)/\us.length<=20/\∀ H' (as:List Addr),as.length=us.length->(∀ (j:Nat) a t,as[j]?=some a->(us.map fun u=>[V.str (bB (dk x)),u])[j]?=some t->H' a=some (.tup t))->YV H' lo (as.map V.ref) (Ui x):=by
 cases x with
 | put o =>
  obtain ⟨c,ec,hc⟩:=hd
  cases ec
  rw [ha] at hc
  have e:=(List.cons.inj (List.cons.inj (HO.tup.inj (Option.some.inj hc))).2).1;subst e;generalize hv:V.int (lo+(o:Int))=v at h
  cases h with
  | wh o' D ho hD =>
   have:o=o':=by have:=V.int.inj hv;omega
   subst this;refine ⟨_,hD,by rw [List.length_map];exact J0 o,fun H' as hl hat=>⟨by rw [List.length_map,hl,List.length_map,Ui,List.length_map],fun i v x e1 e2=>?_⟩⟩;rw [List.getElem?_map] at e1
   obtain ⟨c,hc,rfl⟩:=Option.map_eq_some_iff.mp e1;rw [Ui,List.getElem?_map] at e2
   obtain ⟨j,hj,rfl⟩:=Option.map_eq_some_iff.mp e2;exact ⟨c,rfl,hat i c _ hc (by rw [List.getElem?_map,List.getElem?_map,hj];rfl)⟩
 | take =>
  have h:Rs H lo tn .bD u D:=h
  cases h with
  | bD _ _ hD=>exact ⟨_,hD,by simp,fun H' as hl _=>by cases List.length_eq_zero_iff.mp hl;exact ⟨rfl,fun i u x h=>by cases h⟩⟩
 | cg =>
  have h:Rs H lo tn .bD u D:=h
  cases h with
  | bD _ _ hD=>exact ⟨_,hD,by simp,fun H' as hl _=>by cases List.length_eq_zero_iff.mp hl;exact ⟨rfl,fun i u x h=>by cases h⟩⟩
theorem J1 {α:Type} {P:Nat->α->Prop}:∀ n,(∀ i,i<n->∃ s,P i s)->∃ ss:List α,ss.length=n/\∀ (i:Nat) s,ss[i]?=some s->P i s
 | 0,_=>⟨[],rfl,fun i s h=>by cases h⟩
 | n+1,h=>by
  obtain ⟨ss,h1,h2⟩:=J1 n fun i hi=>h i (by omega)
  obtain ⟨s,hs⟩:=h n (by omega);refine ⟨ss++[s],by rw [List.length_append,h1];rfl,fun i t e=>?_⟩;by_cases c:i<ss.length
  ·rw [List.getElem?_append_left c] at e;exact h2 i t e
  ·have hi:i=ss.length:=by
    have:=(List.getElem?_eq_some_iff.mp e).1;rw [List.length_append,List.length_singleton] at this
    omega
   subst hi;rw [List.getElem?_append_right (Nat.le_refl _),Nat.sub_self] at e
   cases Option.some.inj e
   rw [h1];exact hs
theorem vg.all {H:Hp} {lo:Int} {tn:Nat} {is_:List Addr} {us:List V} {xs:List Dd} (l:us.length=xs.length) (h2:∀ (i:Nat) u x,us[i]?=some u->xs[i]?=some x->Y1 H lo u x/\bN x) (inn:vg H lo tn is_ ((us.zip xs).map fun w=>(.pk,w.1,bC w.2))):is_.length=xs.length/\∃ ss,JF H is_ ss/\F2 (F2 (Y1 H lo)) ss (xs.map (dst tn)):=by
 have il:is_.length=xs.length:=by rw [inn.1,List.length_map,List.length_zip];omega
 obtain ⟨ss,h1,h3⟩:=J1 (P:=fun i s=>∃ a x,is_[i]?=some a/\xs[i]?=some x/\H a=some (.lst s)/\F2 (Y1 H lo) s (dst tn x)) xs.length fun i hi=>by
  have e1:is_[i]?=some (is_[i]'(by omega)):=List.getElem?_eq_getElem _;have e2:xs[i]?=some (xs[i]'hi):=List.getElem?_eq_getElem _;have e3:us[i]?=some (us[i]'(by omega)):=List.getElem?_eq_getElem _;generalize is_[i]'(by omega)=a at e1;generalize xs[i]'hi=x at e2;generalize us[i]'(by omega)=u at e3;have:=inn.2 i a (.pk,u,bC x) e1 (by rw [List.getElem?_map,show (us.zip xs)[i]?=some (u,x) from List.getElem?_zip_eq_some.mpr ⟨e3,e2⟩];rfl);generalize hs:(Sd.pk,u,bC x)=w at this;have this:Rs H lo tn .pk u a:=by rw [<- hs] at this;exact this
  cases this with
  | pk _ y vs _ hy ky hD al =>
   cases hy.inj (h2 i u x e3 e2).1
   exact ⟨vs,a,_,e1,e2,hD,al.f2⟩
 refine ⟨il,ss,⟨by omega,fun i a s e1 e2=>?_⟩,F2.of (by rw [List.length_map,h1]) fun i s L e1 e2=>?_⟩
 ·obtain ⟨a',x,k1,k2,k3,k4⟩:=h3 i s e2
  rw [e1] at k1
  cases Option.some.inj k1
  exact k3
 ·obtain ⟨a',x,k1,k2,k3,k4⟩:=h3 i s e1
  rw [List.getElem?_map,k2] at e2
  cases Option.some.inj e2
  exact k4
theorem Az {α:Type} (us:List α):(wo us).length=us.length:=by unfold wo;rw [List.length_map,List.length_range]
theorem Z2Z {k:Nat} {Z4 Z5 Z1 Z2 Z3 Z0:Addr} {aq ao:Addr} {ak aj:Addr} {aA au:Addr} (R:g.aW Z3 "steps_by" "Stepper.steps_by" zO ["self","shape","value","inner"]) (jt:g.Fn k "whole_steps" ["low","value"] (uV g.K)) (Z49:g.Fn k "without_each" ["things"] (uW g.K)) (J2:g.Fn k "with_each_step" ["things","inner"] (pL g.K)) (Z1Y:g.Me k Z3 "leasts_ahead" ["self","shape","value"] (u5 g.P g.w g.K (Cs.mk Z0 Z1 Z2) Z5 Z3)) (aN:g.mg "list"=none) (Zj:g.mg "tuple"=none) (Zi:Cls g.K Z3) (Zg:Yp g.K Z3 "book") (Zf:Yp g.K Z3 "lister"):g.Me (k+1) Z3 "steps_by" ["self","shape","value","inner"] (vh g.P g.w g.K (Cs.mk Z0 Z1 Z2) Z5 Z3):=by
 refine R.me zP (fun vs H Q E h=>by obtain ⟨st,ds,ls,dl,d,b,lo,f,xs,tn,a,s,v,I,is_,L,rfl,si,hS,wi,hI,inn,nI,nis,q⟩:=h;rfl) fun f_ cdv A outer s H vs Q E hr h=>?_
 obtain ⟨st,ds,ls,dl,d,b,lo,f,xs,tn,a,s,v,I,is_,L,rfl,si,hS,wi,hI,inn,nI,nis,q⟩:=h;refine ⟨_,(@Yd _ _ _ _ _ (@Yr _ _ (4) _ _ _ _ zP.nd rfl (.inr rfl) (@Ys _ _ _ _ _ _ _ YD (pv 1) Yh (fun _ _=>rfl)) (by rfl) (by first | exact .inl rfl | exact .inr rfl | assumption)) (@Yd _ _ _ _ _ (@Yu _ _ _ _ _ _ _ _ (@Yo _ _ _ _ _ _ _ _ YJ (pv 4) YC (Yl _)) (@Ye _ _ _ (@Yn _ _ _ _ (@Yv _ _ _ _ _ _ _ _ _ _ _ _ jt hr (@Ya _ _ _ _ _ (@Ys _ _ _ _ _ _ _ YD (pv 1) Yh (fun _ _=>rfl)) (@Ya _ _ _ _ _ (pv 2) Yb (by rfl)) (by rfl)) (by omega) (by rfl) (by rfl) (by decide) (by rfl) (by rfl)))) Yq) (@Yd _ _ _ _ _ (@Yu _ _ _ _ _ _ _ _ (@Yo _ _ _ _ _ _ _ _ YJ (pv 4) YC (Yl _)) (@Ye _ _ _ YB) Yq) (@Yd _ _ _ _ _ (@Yu _ _ _ _ _ _ _ _ (@Yo _ _ _ _ _ _ _ _ YJ (pv 4) YC (Yl _)) (@Ye _ _ _ (@Yn _ _ _ _ (@X5 _ _ _ _ _ _ _ ([none]) ((["things"]:List Str)) _ (YT 0) _ _ (.own .nil) rfl (@Xj _ _ _ _ (@Yv _ _ _ _ _ _ _ _ _ _ _ _ J2 hr (@Ya _ _ _ _ _ (@XI _ _ _ _ _ _ _ _ _ _ aN Xu (@Ya _ _ _ _ _ (pv 2) Yb (by rfl)) (by decide +kernel) (by rfl) (by rfl) (by decide) (by decide) (by rfl) (by rfl)) (@Ya _ _ _ _ _ (pv 3) Yb (by rfl)) (by rfl)) (by omega) (by rfl) (by rfl) (by decide) (by rfl) (by rfl))) (fun cl C s₀ H₀ fp pn=>(@Yz _ _ (0) _ (show List.Nodup (["things"]:List Str) by decide +kernel) rfl (.inl rfl) (.inr rfl))) (fun cl C s₀ H₀ fp pn=>Xs) (fun cl C s₀ H₀ fp pn=>(@XI _ _ _ _ _ _ _ _ _ _ Zj (UY (K:=g.K)) (@Ya _ _ _ _ _ (pv 0) Yb (by rfl)) (by decide +kernel) (by rfl) (by rfl) (by decide) (by decide) (by rfl) (by rfl))) (by intro x hx;simp at hx) (by rfl) (by decide) (by decide +kernel) (by intro _;rfl)))) Yq) (@Yd _ _ _ _ _ (@Yu _ _ _ _ _ _ _ _ (@Yo _ _ _ _ _ _ _ _ YJ (pv 4) YC (Yl _)) (@Ye _ _ _ YB) Yq) (@Yd _ _ _ _ _ (@Yu _ _ _ _ _ _ _ _ (@Yo _ _ _ _ _ _ _ _ YJ (pv 4) YC (Yl _)) (@Ye _ _ _ (@Yn _ _ _ _ (@Yt _ _ _ _ _ _ _ _ XC (@Wy _ _ _ _ _ _ _ _ _ _ _ _ _ _ _ _ Z1Y Zi hr (pv 0) (@Ya _ _ _ _ _ (pv 1) (@Ya _ _ _ _ _ (pv 2) Yb (by rfl)) (by rfl)) (by omega) (by rfl) (by rfl) (by rfl) (by rfl)) (@X5 _ _ _ _ _ _ _ ([none,some 2]) ((["step","value"]:List Str)) _ (YT 0) _ _ (.own (.cap (i:=2) rfl rfl (by first | exact .inl rfl | exact .inr rfl) .nil)) rfl (@Xj _ _ _ _ (@Ys _ _ _ _ _ _ _ YL (pv 3) Yh (fun _ _=>rfl))) (fun cl C s₀ H₀ fp pn=>(@Yz _ _ (0) _ (show List.Nodup (["step","value"]:List Str) by decide +kernel) rfl (.inl rfl) (.inr rfl))) (fun cl C s₀ H₀ fp pn=>Xs) (fun cl C s₀ H₀ fp pn=>(@YO _ _ _ _ _ (@Ya _ _ _ _ _ (@Ys _ _ _ _ _ _ _ (UP (K:=g.K)) (pv 1) Yh (fun _ _=>rfl)) (@Ya _ _ _ _ _ (pv 0) Yb (by rfl)) (by rfl)))) (by intro x hx;simp at hx;first | (subst hx;exact .inl rfl) | (rcases hx with rfl | rfl<;>exact .inl rfl) | (rcases hx with rfl | rfl | rfl<;>exact .inl rfl) | (rcases hx with rfl | rfl | rfl | rfl<;>exact .inl rfl) | (rcases hx with rfl | rfl | rfl | rfl | rfl<;>exact .inl rfl)) (by rfl) (by decide) (by decide +kernel) (by intro _;rfl))))) Yq) (@Yd _ _ _ _ _ (@Yu _ _ _ _ _ _ _ _ (@Yo _ _ _ _ _ _ _ _ YJ (pv 4) YC (Yl _)) (@Ye _ _ _ YB) Yq) (@Yd _ _ _ _ _ (@Yr _ _ (5) _ _ _ _ zP.nd rfl (.inl rfl) (@Yt _ _ _ _ _ _ _ _ XC (@Yv _ _ _ _ _ _ _ _ _ _ _ _ Z49 hr (@Ya _ _ _ _ _ (pv 2) Yb (by rfl)) (by omega) (by rfl) (by rfl) (by decide) (by rfl) (by rfl)) (@Yv _ _ _ _ _ _ _ _ _ _ _ _ J2 hr (@Ya _ _ _ _ _ (pv 2) (@Ya _ _ _ _ _ (pv 3) Yb (by rfl)) (by rfl)) (by omega) (by rfl) (by rfl) (by decide) (by rfl) (by rfl))) (by rfl) (by first | exact .inl rfl | exact .inr rfl | assumption)) (@Ye _ _ _ (@Yn _ _ _ _ (@X5 _ _ _ _ _ _ _ ([none,some 4,some 1,some 0]) ((["step","kind","shape","self"]:List Str)) _ (YT 0) _ _ (.own (.cap (i:=4) rfl rfl (by first | exact .inl rfl | exact .inr rfl) (.cap (i:=1) rfl rfl (by first | exact .inl rfl | exact .inr rfl) (.cap (i:=0) rfl rfl (by first | exact .inl rfl | exact .inr rfl) .nil)))) rfl (@Xj _ _ _ _ (pv 5)) (fun cl C s₀ H₀ fp pn=>(@Yz _ _ (0) _ (show List.Nodup (["step","kind","shape","self"]:List Str) by decide +kernel) rfl (.inl rfl) (.inr rfl))) (fun cl C s₀ H₀ fp pn=>(@Rn _ _ _ (@X4 _ _ _ _ _ _ _ (@Yo _ _ _ _ _ _ _ _ YJ (pv 1) YC (Yl _)) (@Wk _ _ _ _ Yd5)).pt)) (fun cl C s₀ H₀ fp pn=>(pv 0)) (by intro x hx;simp at hx;first | (subst hx;exact .inl rfl) | (rcases hx with rfl | rfl<;>exact .inl rfl) | (rcases hx with rfl | rfl | rfl<;>exact .inl rfl) | (rcases hx with rfl | rfl | rfl | rfl<;>exact .inl rfl) | (rcases hx with rfl | rfl | rfl | rfl | rfl<;>exact .inl rfl)) (by rfl) (by decide) (by decide +kernel) (by intro _;rfl)))))))))))),?_⟩
 cases wi with
 | wh o ho =>
  have hS:H a=some (.tup [.str "whole",.int lo,.int (lo+200)]):=hS;refine Ym fun R rr=>?_
  walk_at "rd";refine ⟨_,aJ.of hS,_,Yk (j:=0) rfl,rr _ _ (dM rfl rfl ?_)⟩;walk_at "rd";exact ⟨_,aJ.of hS,_,Yk (j:=1) rfl,lo,o,rfl,ho,fun D H' sm gD hD=>q D H' f xs (si.same sm) (Wx sm) gD (si.li.new gD) (.wh o D ho hD)⟩
 | bD b hb =>
  obtain ⟨c,h1,h2⟩:∃ b,H a=some (.tup [.str "row",.ref b])/\H b=some (.tup []):=hS;refine Ym fun R rr=>?_
  walk_at "rd";refine ⟨_,aJ.of h1,_,Yk (j:=0) rfl,rr _ _ (aX rfl (by decide +kernel) (aX rfl (by decide +kernel) (dM rfl rfl ?_)))⟩;walk_at "rd";have il:is_=[]:=List.length_eq_zero_iff.mp inn.1;subst il;refine Vz (K:=g.K) (xs:=[]) [] (fun R r=>?_) rfl (by decide) (fun i x y H' hx=>by cases hx) ?_
  ·walk_at "rd"
   refine ⟨_,.inr (aJ.of hb),fun l gl=>?_⟩;have sl:=Yf.aF gl (.lst []);refine ⟨l,I,[],[],[],rfl,Yc,by decide,sl _ _ hI,by decide,⟨rfl,fun i a s e=>by cases e⟩,(fun s h=>by cases h),fun D as H' sm gD hD _ nl=>?_⟩;have:as=[]:=List.length_eq_zero_iff.mp nl.len;subst this;exact r D H' (sl.trans sm) (aG.of hD)
  ·intro D H' gD sm hD
   exact q D H' f xs (si.same sm) (Wx sm) gD (si.li.new gD) (.bD _ D hD)
 | pk a' u x ha hd hk =>
  obtain ⟨b',c0,c1,c2,p0,p1,p2,h1,hP⟩:=id hS;refine Ym fun R rr=>?_
  walk_at "rd";refine ⟨_,aJ.of h1,_,Yk (j:=0) rfl,rr _ _ (aX rfl (by decide +kernel) (aX rfl (by decide +kernel) (aX rfl (by decide +kernel) (aX rfl (by decide +kernel) (dM rfl rfl ?_)))))⟩;walk_at "rd";refine ⟨_,_,si.fu,QF _ _ (by decide +kernel) (by decide +kernel),st,ds,ls,dl,d,b,lo,f,xs,tn,a,.ref a',x,rfl,si,hS,hd,hk,fun D us H' f' xs' cF go gD nD hD al=>?_⟩;obtain ⟨a0,rfl⟩:∃ a0,is_=[a0]:=List.length_eq_one_iff.mp inn.1;have rs:Rs H lo tn (jV (dk x)) u a0:=inn.2 0 a0 _ rfl rfl;obtain ⟨Ba,hu0,pN,hmk⟩:=rs.mark ha hd;have tp:=si.li.tp go;have hI':=go.fr _ _ nI hI;have Nh:=go.fr _ _ (nis a0 (.head _)) hu0;have ha':=tp _ _ ha;refine QV (K:=g.K) (xs:=Ba) (Ba.map fun u=>[.str (bB (dk x)),u]) (fun R r=>?_) (by simp) (by omega) ?_ ?_
  ·walk_at "rd"
   exact ⟨_,aG.of hI',_,Yk (j:=0) rfl,r a0 H' (.refl _) (aG.of Nh)⟩
  ·intro i y t H2 hy ht sm R r
   rw [List.getElem?_map,hy] at ht
   cases Option.some.inj ht
   walk_at "rd";exact ⟨_,aJ.of (sm _ _ ha'),_,Yk (j:=0) rfl,few (by decide),fun X gX=>r X _ (.aF gX _) Yc⟩
  ·intro D2 as H2 gD2 sm hD2 hal hat
   have hl:=al.1;have dl':=Ay tn x;rw [Ax,List.length_append,<- hl] at dl'
   refine ⟨D,rfl,D2,rfl,_,sm _ _ hD,_,hD2,few (by rw [List.length_map];omega),fun X gX=>?_⟩;have sX:=Yf.aF gX (.lst (us++as.map V.ref));have s2:=sm.trans sX;have tp2:=tp.trans (YR (Yx s2));have gX':H X=none:=by
    cases e:H X with
    | none=>rfl
    | some o =>
     by_cases c:mu d f X
     ·have:=(si.li.fX c).1
      have h3:=(cF.li.fX (x:=X) (by
       rcases c with c | ⟨k,p,ms,e1,e2⟩
       ·exact .inl c
       ·exact .inr ⟨k,p,ms,go.up _ _ e1,e2⟩)).1
      obtain ⟨o',h3⟩:=h3;rw [sm _ _ h3] at gX;cases gX
     ·rw [sm _ _ (go.fr _ _ c e)] at gX;cases gX
   refine q X _ f' xs' (cF.same s2) (go.trans (Wx s2)) gX' (cF.li.new (sm.free gX)) (.pk _ x _ X (hd.tp tp2) hk Yc ?_);rw [Ax];refine ((al.tp (YR (Yx s2))).f2.app (hmk _ as hal fun j c t e1 e2=>sX _ _ (hat j c t e1 e2)).f2).al
 | aR T us xs' hT l hl h2 =>
  obtain ⟨e,b',c0,c1,c2,p0,p1,p2,h0,h1,hP⟩:=id hS;refine Ym fun R rr=>?_
  walk_at "rd";refine ⟨_,aJ.of h0,_,Yk (j:=0) rfl,rr _ _ (aX rfl (by decide +kernel) (aX rfl (by decide +kernel) (aX rfl (by decide +kernel) (aX rfl (by decide +kernel) (aX rfl (by decide +kernel) (aX rfl (by decide +kernel) (Ym fun R rr=>?_)))))))⟩;walk_at "rd";obtain ⟨il,ss,hss,f2⟩:=inn.all l h2;have hsl:∀ s∈ss,s.length<=100:=fun s hs=>by
   obtain ⟨i,hi⟩:=List.getElem?_of_mem hs;have hi':=(List.getElem?_eq_some_iff.mp hi).1;have hx:(xs'.map (dst tn))[i]?=some ((xs'.map (dst tn))[i]'(by have:=f2.len;omega)):=List.getElem?_eq_getElem _;rw [(f2.get i s _ hi hx).len,List.getElem_map];exact Ay tn _
  refine ⟨T,us,rfl,hT,by omega,fun D1 as1 H1 s1 gD1 hD1 fM=>⟨T,I,us,is_,ss,rfl,s1 _ _ hT,by omega,s1 _ _ hI,by omega,⟨hss.1,fun i c z e1 e2=>s1 _ _ (hss.2 i c z e1 e2)⟩,hsl,fun D2 as2 H2 s2 gD2 hD2 _ dU=>⟨D1,rfl,D2,rfl,_,s2 _ _ hD1,_,hD2,few ?_,fun p gp=>rr _ _ ?_⟩⟩⟩
  ·have h3:=UE (us:=us) hsl ss.length (Nat.le_refl _)
   have h4:=dU.len;have h5:=fM.len;rw [Az] at h5
   have h6:=hss.1;unfold wi at h4;rw [List.length_map,List.length_map];omega
  walk_at "rd";have sp:=Yf.aF gp (.lst (as1.map V.ref++as2.map V.ref));have s3:=(s1.trans s2).trans sp;refine R3 (K:=g.K) (xs:=as1.map V.ref++as2.map V.ref) (fun _=>true) (fun v=>v) (fun R r=>by walk_at "rd";exact r p _ (.refl _) (aG.of Yc)) ?_ ?_ ?_ ?_
  ·have h3:=UE (us:=us) hsl ss.length (Nat.le_refl _)
   have h4:=dU.len;have h5:=fM.len;rw [Az] at h5
   have h6:=hss.1;unfold wi at h4;rw [List.length_append,List.length_map,List.length_map];omega
  ·intro x H' hx sm R r
   walk_at "rd";exact r H' (.refl _)
  ·intro x H' hx _ sm R r
   walk_at "rd";exact r H' (.refl _)
  ·intro D H' gD sm hD
   have s4:=s3.trans sm;have J3:H D=none:=s3.free gD;rw [List.filter_eq_self.mpr (fun _ _=>rfl),List.map_id',<- List.map_append] at hD
   have tp:=YR (Yx s4);have aD:YV H' lo us xs':=⟨l,fun i u x e1 e2=>(h2 i u x e1 e2).1.tp tp⟩;refine q D H' f xs (si.same s4) (Wx s4) J3 (si.li.new J3) (.aR T us xs' (as1++as2) D (s4 _ _ hT) aD hD ?_);have k1:Nl H H' as1 (wo us):=⟨fM.len,fM.nw,fM.nd,fun i c z e1 e2=>sm _ _ (sp _ _ (s2 _ _ (fM.at_ i c z e1 e2)))⟩;have k2:Nl H1 H' as2 (wi us ss):=⟨dU.len,dU.nw,dU.nd,fun i c z e1 e2=>sm _ _ (sp _ _ (dU.at_ i c z e1 e2))⟩;exact (k1.all aD.f2.wo).app (k2.all (aD.f2.wi (f2.imp fun _ _ h=>h.imp fun _ _ h=>h.tp tp)))
theorem Go.free {P:Program} {w:World} {K:W.Frag} {C:Cs} {CL:Addr} {H H':Hp} {ls dl d:Addr} {b:V} {lo:Int} {f f':Bool->Option (Addr×List Addr)} {xs:Dx} (go:Go d H f H' f') (L:Li P w K C CL H' ls dl d b lo f' xs) {x:Addr} (h:H' x=none):H x=none:=by
 cases e:H x with
 | none=>rfl
 | some o =>
  by_cases c:mu d f x
  ·obtain ⟨o',h3⟩:=(L.fX (x:=x) (by
    rcases c with c | ⟨k,p,ms,e1,e2⟩
    ·exact .inl c
    ·exact .inr ⟨k,p,ms,go.up _ _ e1,e2⟩)).1
   rw [h] at h3;cases h3
  ·rw [go.fr _ _ c e] at h;cases h
inductive jJ (P:Program) (w:World) (K:W.Frag) (C:Cs) (CL CS:Addr) (m:Nat) (vs:List V) (H:Hp) (Q:VK) (E_:XK):Prop
 | mk (st ds ls dl d:Addr) (b:V) (lo:Int) (f:Bool->Option (Addr×List Addr)) (xs:Dx) (tn:Nat) (a:Addr) (s:Sd) (v:V) (n:Nat) (h0:vs=[.ref st,.ref a,v]) (h1:SI P w K C CL CS H st ds ls dl d b lo f xs) (h2:Y9 H lo tn a s) (h3:Vx H lo s v n) (h4:dR s<=m) (h5:(∀ T,s = .aR->v = .ref T->¬ mu d f T)) (h6:∀ D H' f' xs',SI P w K C CL CS H' st ds ls dl d b lo f' xs'->Go d H f H' f'->H D=none->¬ mu d f' D->Rs H' lo tn s v D->Q (.ref D) H')
theorem Fj {P:Program} {w:World} {K:W.Frag} {C:Cs} {CL CS:Addr} {vs:List V} {H:Hp} {Q:VK} {E:XK} (h:jJ P w K C CL CS 0 vs H Q E):False:=by
 obtain ⟨st,ds,ls,dl,d,b,lo,f,xs,tn,a,s,v,n,_,_,_,_,h,_⟩:=h
 cases s<;>simp [dR] at h
inductive SfV (P:Program) (w:World) (K:W.Frag) (C:Cs) (CL CS:Addr) (H:Hp) (st ds ls dl d:Addr) (b:V) (lo:Int) (f:Bool->Option (Addr×List Addr)) (tn:Nat) (a:Addr) (v:V) (I l:Addr) (ts:List Addr) (L:List (Sd×V×Nat)) (i:Nat) (σ:St) (H':Hp):Prop
 | mk (o4 o5:Option V) (is_:List Addr) (f':Bool->Option (Addr×List Addr)) (xs:Dx) (e:σ=[some (.ref st),some (.ref a),some v,some (.ref I),o4,o5]) (si:SI P w K C CL CS H' st ds ls dl d b lo f' xs) (go:Go d H f H' f') (hI:H' I=some (.lst (is_.map V.ref))) (nI:¬ mu d f' I) (Ii:I∉is_) (nis:∀ a∈is_,¬ mu d f' a) (inn:vg H' lo tn is_ (L.take i)) (hl:H' l=some (.lst (ts.map V.ref))) (nl:¬ mu d f' l) (pr:pq H' lo tn ts L)
theorem ZT {k:Nat} {Z4 Z5 Z1 Z2 Z3 Z0:Addr} {aq ao:Addr} {ak aj:Addr} {aA au:Addr} (R:g.aW Z3 "steps_from" "Stepper.steps_from" ZZ ["self","shape","value"]) (zY:g.Fn k "things_within" ["book","shape","value"] (zV g.K)) (Bb:g.Me k Z3 "steps_from" ["self","shape","value"] (jJ g.P g.w g.K (Cs.mk Z0 Z1 Z2) Z5 Z3 m)) (Z3o:g.Me k Z3 "steps_by" ["self","shape","value","inner"] (vh g.P g.w g.K (Cs.mk Z0 Z1 Z2) Z5 Z3)) (Zi:Cls g.K Z3) (Zg:Yp g.K Z3 "book") (Zf:Yp g.K Z3 "lister"):g.Me (k+1) Z3 "steps_from" ["self","shape","value"] (jJ g.P g.w g.K (Cs.mk Z0 Z1 Z2) Z5 Z3 (m+1)):=by
 refine R.me ZE (fun vs H Q E h=>by obtain ⟨st,ds,ls,dl,d,b,lo,f,xs,tn,a,s,v,n,rfl,si,hS,hv,hm,nT,q⟩:=h;rfl) fun f_ cdv A outer s H vs Q E hr h=>?_
 obtain ⟨st,ds,ls,dl,d,b,lo,f,xs,tn,a,s,v,n,rfl,si,hS,hv,hm,nT,q⟩:=h;refine ⟨_,(@Yd _ _ _ _ _ (@Yr _ _ (3) _ _ _ _ ZE.nd rfl (.inl rfl) (@Y3 _ _ _ _ Yb) (by rfl) (by first | exact .inl rfl | exact .inr rfl | assumption)) (@Yd _ _ _ _ _ (@Xo _ _ _ _ _ _ _ _ PassesOwn.never rfl (@Xj _ _ _ _ (@Yv _ _ _ _ _ _ _ _ _ _ _ _ zY hr (@Ya _ _ _ _ _ (@Y6 _ _ _ _ _ (pv 0) rfl) (@Ya _ _ _ _ _ (pv 1) (@Ya _ _ _ _ _ (pv 2) Yb (by rfl)) (by rfl)) (by rfl)) (by omega) (by rfl) (by rfl) (by decide) (by rfl) (by rfl))) (@Wl _ _ _ _ _ (2) rfl (@Y5 _ _ _ _ _ (@Yz _ _ (4) _ ZE.nd rfl (.inl rfl) (by first | exact .inl rfl | exact .inr rfl | assumption)) (@Y5 _ _ _ _ _ (@Yz _ _ (5) _ ZE.nd rfl (.inl rfl) (by first | exact .inl rfl | exact .inr rfl | assumption)) XZ (by rfl)) (by rfl)) (by rfl) (by rfl)) (@Ye _ _ _ (@Y4 _ _ _ _ (@Xp _ _ _ _ _ _ _ _ _ _ _ _ F.plainAttrs_list F.slot_list_append F.type_list_append Y7 (pv 3) (@Ya _ _ _ _ _ (@Wy _ _ _ _ _ _ _ _ _ _ _ _ _ _ _ _ Bb Zi hr (pv 0) (@Ya _ _ _ _ _ (pv 4) (@Ya _ _ _ _ _ (pv 5) Yb (by rfl)) (by rfl)) (by omega) (by rfl) (by rfl) (by rfl) (by rfl)) Yb (by rfl)) (by rfl) (by rfl) (by rfl) (by rfl) (by rfl)) (by rfl))) (by intro _;rfl)) (@Ye _ _ _ (@Yn _ _ _ _ (@Wy _ _ _ _ _ _ _ _ _ _ _ _ _ _ _ _ Z3o Zi hr (pv 0) (@Ya _ _ _ _ _ (pv 1) (@Ya _ _ _ _ _ (pv 2) (@Ya _ _ _ _ _ (pv 3) Yb (by rfl)) (by rfl)) (by rfl)) (by omega) (by rfl) (by rfl) (by rfl) (by rfl)))))),?_⟩;refine Ym fun R rr=>?_
 walk_at "rd";refine ⟨few (by decide),fun I gI=>rr _ _ (Ym fun R rr=>?_)⟩;have sI:=Yf.aF gI (.lst []);refine WK (fun l xs H2=>∃ (ts:List Addr) (L:List (Sd×V×Nat)),xs=ts.map V.ref/\Yf (upd H I (.lst [])) H2/\H2 l=some (.lst (ts.map V.ref))/\upd H I (.lst []) l=none/\ts.length<=100/\pq H2 lo tn ts L/\(∀ w∈L,dR w.1<dR s)/\Wi (upd H I (.lst [])) lo s v L) (fun R r=>?_) ?_
 ·walk_at "rd"
  exact ⟨_,_,_,sI _ _ si.fu,Zi,Zg,_,JH _ _,_,lo,tn,a,s,v,n,rfl,hS.kt (Yx sI),hv.kt (Yx sI),fun D ts L H' s' gD hD hl pr w1 _ _ _ wi=>r D _ H' (aG.of hD) ⟨ts,L,rfl,s',hD,gD,hl,pr,w1,wi⟩⟩
 ·rintro l xs0 H2 hS2 ⟨ts,L,rfl,s2,hl,gl,Fb,pr,w1,wi⟩
  have rN:=pr.1;have nm:∀ w∈L,w.1 ≠ .aR:=fun w hw e=>by
   have:=w1 w hw;rw [e] at this
   cases s<;>simp [dR] at this
  have hlI:l≠I:=fun e=>by rw [e,Yc] at gl;cases gl
  have s3:=sI.trans s2;refine ⟨SfV g.P g.w g.K (Cs.mk Z0 Z1 Z2) Z5 Z3 H st ds ls dl d b lo f tn a v I l ts L,⟨none,none,[],f,xs,rfl,si.same s3,Wx s3,s2 _ _ Yc,si.li.new gI,by simp,(fun a h=>by cases h),⟨rfl,fun i a w h=>by cases h⟩,hl,si.li.new (sI.free gl),pr⟩,fun i σ H' _ ⟨_,_,_,_,_,_,_,_,_,_,_,_,_,hl',_,_⟩=>aG.of hl',?_,?_⟩
  ·rintro i x σ H' hx ⟨o4,o5,is_,f',xs',rfl,cF,go,hI,nI,Ii,nis,inn,hl',nl,vm⟩
   rw [List.getElem?_map] at hx
   obtain ⟨t,ht,rfl⟩:=Option.map_eq_some_iff.mp hx;have hi:=(List.getElem?_eq_some_iff.mp ht).1;have hwi:L[i]?=some (L[i]'(by omega)):=List.getElem?_eq_getElem _;generalize L[i]'(by omega)=w at hwi;have pC:=List.mem_of_getElem? hwi;obtain ⟨c,e1,e2,e3⟩:=vm.2 i t w ht hwi;refine ⟨t,_,rfl,aJ.of e1,rfl,_,_,rfl,_,_,rfl,rfl,?_⟩;walk_at "rd";have:=w1 w pC;refine ⟨.inl ⟨rfl,_,aG.of hI⟩,_,_,cF.fu,QF _ _ (by decide +kernel) (by decide +kernel),st,ds,ls,dl,d,b,lo,f',xs',tn,c,w.1,w.2.1,w.2.2,rfl,cF,e2,e3,by omega,fun T es=>absurd es (nm w pC),fun D H5 f5 xs5 Ar eO gD nD rs=>?_⟩;have vo:=eO.fr _ _ nI hI;have J4:=eO.out nI (by rw [hI];simp);have Av:=cF.li.tp eO;have DI:D≠I:=fun z=>by rw [z,hI] at gD;cases gD
   have il:=inn.1;rw [List.length_take] at il
   have j4:Tp H' (upd H5 I (.lst (is_.map V.ref++[.ref D]))):=Av.trans (Ws vo);have old:∀ (j:Nat) a w,is_[j]?=some a->(L.take i)[j]?=some w->Rs H' lo tn w.1 w.2.1 a/\w.1 ≠ .aR:=fun j a w k1 k2=>⟨inn.2 j a w k1 k2,nm w (List.mem_of_mem_take (List.mem_of_getElem? k2))⟩
   have al:∀ a∈is_,∃ us,H' a=some (.lst us):=fun a ha=>by
    obtain ⟨j,hj⟩:=List.getElem?_of_mem ha;have hj':=(List.getElem?_eq_some_iff.mp hj).1;have hw:(L.take i)[j]?=some ((L.take i)[j]'(by rw [<- inn.1];exact hj')):=List.getElem?_eq_getElem _;exact (old j a _ hj hw).1.al
   refine ⟨_,vo,few (by rw [List.length_map];omega),_,_,is_++[D],f5,xs5,rfl,Ar.own vo J4,(go.trans eO).own gI,by rw [Yc,List.map_append];rfl,J4,fun h=>?_,fun a ha=>?_,⟨?_,fun j a w' k1 k2=>?_⟩,by rw [Yg hlI];exact eO.fr _ _ nl hl',eO.out nl (by rw [hl'];simp),⟨vm.1,fun j t w k1 k2=>?_⟩⟩
   ·rcases List.mem_append.mp h with h | h
    ·exact Ii h
    ·exact DI (List.mem_singleton.mp h).symm
   ·rcases List.mem_append.mp ha with ha | ha
    ·obtain ⟨us,e⟩:=al a ha
     exact eO.out (nis a ha) (by rw [e];simp)
    ·cases List.mem_singleton.mp ha;exact nD
   ·rw [List.length_append,List.length_take,List.length_singleton];omega
   ·rw [XF hwi] at k2
    by_cases cj:j<is_.length
    ·rw [List.getElem?_append_left cj] at k1
     rw [List.getElem?_append_left (by rw [List.length_take];omega)] at k2
     have hm:=List.mem_of_getElem? k1;exact (old j a w' k1 k2).1.go j4 (fun o e=>by rw [Yg fun z=>Ii (by rw [<- z];exact hm)];exact eO.fr _ _ (nis a hm) e) (old j a w' k1 k2).2
    ·have hj:j=is_.length:=by
      have:=(List.getElem?_eq_some_iff.mp k1).1;rw [List.length_append,List.length_singleton] at this
      omega
     subst hj;rw [List.getElem?_append_right (Nat.le_refl _),Nat.sub_self] at k1
     cases Option.some.inj k1
     rw [List.getElem?_append_right (by rw [List.length_take];omega),List.length_take,show is_.length - min i L.length=0 by omega] at k2
     cases Option.some.inj k2
     exact rs.go (Ws vo) (fun o e=>by rw [Yg DI];exact e) (nm _ pC)
   ·obtain ⟨p',k3,k4,k5⟩:=vm.2 j t w k1 k2
    exact ⟨p',j4 _ _ k3,k4.tp j4,k5.tp j4 (nm w (List.mem_of_getElem? k2))⟩
  ·rintro σ H' ⟨o4,o5,is_,f',xs',rfl,cF,go,hI,nI,Ii,nis,inn,hl',nl,vm⟩
   refine rr _ _ ?_;rw [List.length_map,rN,List.take_length] at inn
   have tp:=si.li.tp go;have wi':Wi H' lo s v L:=by
    refine wi.go (fun x ys e=>?_) fun es T o ev eo=>?_
    ·by_cases c:x=I
     ·rw [c,Yc] at e;cases e
     ·rw [Yg c] at e;exact tp _ _ e
    ·subst es
     subst ev
     cases hv with
     | aR _ us zs hT _ _ _ =>
      rw [Yg (Yj hT gI)] at eo
      exact go.fr T o (nT T rfl rfl) eo
   walk_at "rd";refine ⟨_,_,cF.fu,QF _ _ (by decide +kernel) (by decide +kernel),st,ds,ls,dl,d,b,lo,f',xs',tn,a,s,v,I,is_,L,rfl,cF,hS.tp tp,wi',hI,inn,nI,nis,fun D H3 f3 J5 J6 go3 gD nD rs=>q D H3 f3 J5 J6 (go.trans go3) (go.free cF.li gD) nD rs⟩
inductive Cq
 | bY (i:Int)
 | st (s:Str)
 | nl
 | dd (x:Dd)
 | ds (xs:List Dd)
 | dl (L:List (List Dd))
def dep:Cq->Nat
 | .bY _=>1
 | .st _=>1
 | .nl=>1
 | .dd _=>2
 | .ds _=>3
 | .dl _=>4
def cty:Cq->Nat
 | .bY _=>0
 | .st _=>0
 | .nl=>1
 | .dd _=>1
 | .ds _=>2
 | .dl _=>2
def bJ (lo:Int):Cq->List Cq
 | .dd (.put o)=>[.st (bB 0),.bY (lo+o)]
 | .dd .take=>[.st (bB 1),.nl]
 | .dd .cg=>[.st (bB 2),.nl]
 | .ds xs=>xs.map .dd
 | .dl L=>L.map .ds
 | _=>[]
def j5:Cq->Prop
 | .ds xs=>xs.length<=100
 | .dl L=>L.length<=20000/\∀ xs∈L,xs.length<=100
 | _=>True
theorem j5.sub {lo:Int} {c e:Cq} (h:j5 c) (he:e∈bJ lo c):j5 e/\dep e<dep c:=by
 cases c with
 | bY i=>cases he
 | st s=>cases he
 | nl=>cases he
 | dd x =>
  cases x<;>simp [bJ] at he<;>rcases he with rfl | rfl<;>exact ⟨trivial,by simp [dep]⟩
 | ds xs=>obtain ⟨x,_,rfl⟩:=List.mem_map.mp he;exact ⟨trivial,by simp [dep]⟩
 | dl L=>obtain ⟨x,hx,rfl⟩:=List.mem_map.mp he;exact ⟨h.2 x hx,by simp [dep]⟩
theorem j5.len {lo:Int} {c:Cq} (h:j5 c):(bJ lo c).length<=20000:=by
 cases c with
 | bY i=>exact Nat.zero_le _
 | st s=>exact Nat.zero_le _
 | nl=>exact Nat.zero_le _
 | dd x=>cases x<;>simp [bJ]
 | ds xs=>rw [bJ,List.length_map];have h:xs.length<=100:=h;omega
 | dl L=>rw [bJ,List.length_map];exact h.1
inductive aM (H:Hp) (lo:Int):V->Cq->Prop
 | bY (i:Int):aM H lo (.int i) (.bY i)
 | st (s:Str):aM H lo (.str s) (.st s)
 | tup (a:Addr) (us:List V) (c:Cq) (hc:cty c=1) (h:H a=some (.tup us)) (hl:us.length=(bJ lo c).length) (k:∀ (i:Nat) u e,us[i]?=some u->(bJ lo c)[i]?=some e->aM H lo u e):aM H lo (.ref a) c
 | lst (a:Addr) (us:List V) (c:Cq) (hc:cty c=2) (h:H a=some (.lst us)) (hl:us.length=(bJ lo c).length) (k:∀ (i:Nat) u e,us[i]?=some u->(bJ lo c)[i]?=some e->aM H lo u e):aM H lo (.ref a) c
theorem aM.same {H H':Hp} {lo:Int} {v:V} {c:Cq} (h:aM H lo v c) (s:Yf H H'):aM H' lo v c:=by
 induction h with
 | bY i=>exact .bY i
 | st z=>exact .st z
 | tup a us c hc h hl k ih=>exact .tup a us c hc (s _ _ h) hl ih
 | lst a us c hc h hl k ih=>exact .lst a us c hc (s _ _ h) hl ih
theorem aM.tp {H H':Hp} (t:Tp H H') {lo:Int} {v:V} {c:Cq} (h:aM H lo v c):dep c<=2->aM H' lo v c:=by
 induction h with
 | bY i=>exact fun _ => .bY i
 | st z=>exact fun _ => .st z
 | tup a us c hc h hl k ih=>exact fun hd => .tup a us c hc (t _ _ h) hl fun i u e e1 e2=>ih i u e e1 e2 (by
   have:∀ e∈bJ lo c,dep e<=1:=by
    cases c with
    | dd x=>intro e he;cases x<;>simp [bJ] at he<;>rcases he with rfl | rfl<;>simp [dep]
    | nl=>intro e he;cases he
    | bY i=>intro e he;cases he
    | st z=>intro e he;cases he
    | ds xs=>cases hc
    | dl L=>cases hc
   exact Nat.le_succ_of_le (this e (List.mem_of_getElem? e2)))
 | lst a us c hc h hl k ih=>intro hd;cases c<;>first | (simp [dep] at hd;done) | (simp [cty] at hc;done)
theorem aM.own {H:Hp} {lo:Int} {v:V} {c:Cq} {D:Addr} {zs zs':List V} (h:aM H lo v c) (hd:dep c<=3) (hD:H D=some (.lst zs)) (ne:v ≠ .ref D):aM (upd H D (.lst zs')) lo v c:=by
 have t:Tp H (upd H D (.lst zs')):=Ws hD
 cases h with
 | bY i=>exact .bY i
 | st z=>exact .st z
 | tup a us c hc h hl k=>exact (aM.tup a us c hc h hl k).tp t (by cases c<;>first | (simp [dep];done) | (simp [cty] at hc;done))
 | lst a us c hc h hl k=>exact .lst a us c hc (by rw [Yg fun z=>ne (by rw [z])];exact h) hl fun i u e e1 e2=>(k i u e e1 e2).tp t (by
   have:=List.mem_of_getElem? e2
   cases c with
   | ds xs=>obtain ⟨x,_,rfl⟩:=List.mem_map.mp this;simp [dep]
   | dl L=>simp [dep] at hd
   | _=>cases hc)
def Fs (H:Hp) (v:V):Prop:=∀ a,v = .ref a->H a=none
def J7 (H H':Hp) (v:V):Prop:=∀ a us,v = .ref a->H' a=some (.lst us)->∀ u∈us,Fs H u
inductive dW (m:Nat) (vs:List V) (H:Hp) (Q:VK) (E_:XK):Prop
 | mk (v:V) (lo:Int) (c:Cq) (h0:vs=[v]) (h1:aM H lo v c) (h2:j5 c) (h3:dep c<=m) (h4:dep c<=4) (h5:∀ v' H',Yf H H'->(∀ a,v' = .ref a->H a=none)->J7 H H' v'->aM H' lo v' c->Q v' H')
theorem Yds {vs:List V} {H:Hp} {Q:VK} {E:XK} (h:dW 0 vs H Q E):False:=by
 obtain ⟨v,lo,c,_,_,_,h,_⟩:=h
 cases c<;>simp [dep] at h
theorem vp {k:Nat} {Z4 Z5 Z1 Z2 Z3 Z0:Addr} {aq ao:Addr} {ak aj:Addr} {aA au:Addr} (R:g.Raw "copied" "copied" Uh ["thing"]) (ZA:g.Fn k "copied" ["thing"] (dW m)) (dh:g.mg "dict"=none) (Z6:g.mg "isinstance"=none) (aN:g.mg "list"=none) (Zj:g.mg "tuple"=none):g.Fn (k+1) "copied" ["thing"] (dW (m+1)):=by
 refine R.fn Ydk (fun vs H Q E h=>by obtain ⟨v,lo,c,rfl,hv,ok,hm,h4,q⟩:=h;rfl) fun f_ cdv A outer s H vs Q E hr h=>?_
 obtain ⟨v,lo,c,rfl,hv,ok,hm,h4,q⟩:=h;refine ⟨_,(@Yd _ _ _ _ _ (@Yu _ _ _ _ _ _ _ _ (@Xh _ _ _ (@YH _ _ _ _ _ _ _ _ _ _ Z6 YK (@Ya _ _ _ _ _ (pv 0) (@Ya _ _ _ _ _ (@Xq _ _ _ _ ("list") aN (by decide +kernel) (by rfl) (by rfl) (by decide) (by decide)) Yb (by rfl)) (by rfl)) (by decide +kernel) (by rfl) (by rfl) (by decide) (by decide) (by rfl) (by rfl)) (by intro _;rfl)) (@Ye _ _ _ (@Yn _ _ _ _ (@X5 _ _ _ _ _ _ _ ([none]) ((["each"]:List Str)) _ (YT 0) _ _ (.own .nil) rfl (@Xj _ _ _ _ (pv 0)) (fun cl C s₀ H₀ fp pn=>(@Yz _ _ (0) _ (show List.Nodup (["each"]:List Str) by decide +kernel) rfl (.inl rfl) (.inr rfl))) (fun cl C s₀ H₀ fp pn=>Xs) (fun cl C s₀ H₀ fp pn=>(@Yv _ _ _ _ _ _ _ _ _ _ _ _ ZA hr (@Ya _ _ _ _ _ (pv 0) Yb (by rfl)) (by omega) (by rfl) (by rfl) (by decide) (by rfl) (by rfl))) (by intro x hx;simp at hx) (by rfl) (by decide) (by decide +kernel) (by intro _;rfl)))) Yq) (@Yd _ _ _ _ _ (@Yu _ _ _ _ _ _ _ _ (@Xh _ _ _ (@YH _ _ _ _ _ _ _ _ _ _ Z6 YK (@Ya _ _ _ _ _ (pv 0) (@Ya _ _ _ _ _ (@Xq _ _ _ _ ("tuple") Zj (by decide +kernel) (by rfl) (by rfl) (by decide) (by decide)) Yb (by rfl)) (by rfl)) (by decide +kernel) (by rfl) (by rfl) (by decide) (by decide) (by rfl) (by rfl)) (by intro _;rfl)) (@Ye _ _ _ (@Yn _ _ _ _ (@XI _ _ _ _ _ _ _ _ _ _ Zj Xy (@Ya _ _ _ _ _ (@X5 _ _ _ _ _ _ _ ([none]) ((["each"]:List Str)) _ (YT 0) _ _ (.own .nil) rfl (@Gd _ _ _ _ (pv 0)) (fun cl C s₀ H₀ fp pn=>(@Yz _ _ (0) _ (show List.Nodup (["each"]:List Str) by decide +kernel) rfl (.inl rfl) (.inr rfl))) (fun cl C s₀ H₀ fp pn=>Xs) (fun cl C s₀ H₀ fp pn=>(@Yv _ _ _ _ _ _ _ _ _ _ _ _ ZA hr (@Ya _ _ _ _ _ (pv 0) Yb (by rfl)) (by omega) (by rfl) (by rfl) (by decide) (by rfl) (by rfl))) (by intro x hx;simp at hx) (by rfl) (by decide) (by decide +kernel) (by intro _;rfl)) Yb (by rfl)) (by decide +kernel) (by rfl) (by rfl) (by decide) (by decide) (by rfl) (by rfl)))) Yq) (@Yd _ _ _ _ _ (@Yu _ _ _ _ _ _ _ _ (@Xh _ _ _ (@YH _ _ _ _ _ _ _ _ _ _ Z6 YK (@Ya _ _ _ _ _ (pv 0) (@Ya _ _ _ _ _ (@Xq _ _ _ _ ("dict") dh (by decide +kernel) (by rfl) (by rfl) (by decide) (by decide)) Yb (by rfl)) (by rfl)) (by decide +kernel) (by rfl) (by rfl) (by decide) (by decide) (by rfl) (by rfl)) (by intro _;rfl)) (@Ye _ _ _ YB) Yq) (@Ye _ _ _ (@Yn _ _ _ _ (pv 0)))))),?_⟩
 cases hv with
 | bY i =>
  walk_at "rd";exact ⟨_,rfl,_,.int i,false,rfl,YA (by decide) ⟨_,rfl,_,.int i,false,rfl,YA (by decide) ⟨_,rfl,_,.int i,false,rfl,YA (by decide) (q _ H (.refl _) (fun a z=>by cases z) (fun a us z=>by cases z) (.bY i))⟩⟩⟩
 | st z =>
  walk_at "rd";exact ⟨_,rfl,_,.str z,false,rfl,YA (by decide) ⟨_,rfl,_,.str z,false,rfl,YA (by decide) ⟨_,rfl,_,.str z,false,rfl,YA (by decide) (q _ H (.refl _) (fun a z=>by cases z) (fun a us z=>by cases z) (.st z))⟩⟩⟩
 | tup a us c hc ha hl k =>
  have ol:=ok.len (lo:=lo);walk_at "rd";refine ⟨_,rfl,_,.tup ha,false,rfl,YA (by decide) ⟨_,rfl,_,.tup ha,true,rfl,YU rfl ?_⟩⟩;refine Yc9 (K:=g.K) (b:=a) (xs:=us) (fun D i y Hx=>y ≠ .ref D/\Fs H y/\∀ e,(bJ lo c)[i]?=some e->aM Hx lo y e) (fun D i y Ha Hb h s=>⟨h.1,h.2.1,fun e he=>(h.2.2 e he).same s⟩) (fun D i y Hx zs zs' h hD=>⟨h.1,h.2.1,fun e he=>(h.2.2 e he).own (by have:=(ok.sub (List.mem_of_getElem? he)).2;omega) hD h.1⟩) (fun R r=>by walk_at "rd";exact r) (aJ.of ha) (by omega) ?_ ?_
  ·intro D i x H' zs hx sm hd R r
   have hi:=(List.getElem?_eq_some_iff.mp hx).1;have he:(bJ lo c)[i]?=some ((bJ lo c)[i]'(by omega)):=List.getElem?_eq_getElem _;generalize (bJ lo c)[i]'(by omega)=e at he;have sb:=ok.sub (List.mem_of_getElem? he);walk_at "rd";refine ⟨x,lo,e,rfl,(k i x e hx he).same sm,sb.1,by omega,by omega,fun v' aO s'' fr _ hv'=>r v' aO s'' ⟨fun z=>(by have:=fr D z;rw [hd] at this;cases this),fun b z=>sm.free (fr b z),fun e' he'=>?_⟩⟩;rw [he] at he'
   cases Option.some.inj he'
   exact hv'
  ·intro D ys H' hD sm hd hly hr
   refine ⟨D,rfl,_,.inl ⟨aG.of hd,fun l gl=>?_⟩⟩;have s2:=Yf.aF gl (.tup ys);exact q (.ref l) _ (sm.trans s2) (fun b e=>by cases e;exact sm.free gl) (fun a us e e2=>by cases e;rw [Yc] at e2;cases e2) (.tup l ys c hc Yc (by omega) fun i u e e1 e2=>((hr i u e1).2.2 e e2).same s2)
 | lst a us c hc ha hl k =>
  have ol:=ok.len (lo:=lo);walk_at "rd";refine ⟨_,rfl,_,.lst ha,true,rfl,YU rfl ?_⟩;refine Q0 (K:=g.K) (b:=a) (xs:=us) (fun D i y Hx=>y ≠ .ref D/\Fs H y/\∀ e,(bJ lo c)[i]?=some e->aM Hx lo y e) (fun D i y Ha Hb h s=>⟨h.1,h.2.1,fun e he=>(h.2.2 e he).same s⟩) (fun D i y Hx zs zs' h hD=>⟨h.1,h.2.1,fun e he=>(h.2.2 e he).own (by have:=(ok.sub (List.mem_of_getElem? he)).2;omega) hD h.1⟩) (fun R r=>by walk_at "rd";exact r) (aG.of ha) (by omega) ?_ ?_
  ·intro D i x H' zs hx sm hd R r
   have hi:=(List.getElem?_eq_some_iff.mp hx).1;have he:(bJ lo c)[i]?=some ((bJ lo c)[i]'(by omega)):=List.getElem?_eq_getElem _;generalize (bJ lo c)[i]'(by omega)=e at he;have sb:=ok.sub (List.mem_of_getElem? he);walk_at "rd";refine ⟨x,lo,e,rfl,(k i x e hx he).same sm,sb.1,by omega,by omega,fun v' aO s'' fr _ hv'=>r v' aO s'' ⟨fun z=>(by have:=fr D z;rw [hd] at this;cases this),fun b z=>sm.free (fr b z),fun e' he'=>?_⟩⟩;rw [he] at he'
   cases Option.some.inj he'
   exact hv'
  ·intro D ys H' hD sm hd hly hr
   refine q (.ref D) _ sm (fun b e=>by cases e;exact hD) (fun a us e e2 u hu=>?_) (.lst D ys c hc hd (by omega) fun i u e e1 e2=>(hr i u e1).2.2 e e2)
   cases e
   rw [hd] at e2
   cases HO.lst.inj (Option.some.inj e2)
   obtain ⟨i,hi⟩:=List.getElem?_of_mem hu;exact (hr i u hi).2.1
theorem Y1.cq {H:Hp} {lo:Int} {v:V} {x:Dd} (h:Y1 H lo v x):aM H lo v (.dd x):=by
 cases x with
 | put o =>
  obtain ⟨a,rfl,ha⟩:=h;refine .tup a _ _ rfl ha rfl fun i u e e1 e2=>?_
  match i,e1,e2 with
  | 0,e1,e2=>cases Option.some.inj e1;cases Option.some.inj e2;exact .st _
  | 1,e1,e2=>cases Option.some.inj e1;cases Option.some.inj e2;exact .bY _
 | take =>
  obtain ⟨a,b,rfl,ha,hb⟩:=h;refine .tup a _ _ rfl ha rfl fun i u e e1 e2=>?_
  match i,e1,e2 with
  | 0,e1,e2=>cases Option.some.inj e1;cases Option.some.inj e2;exact .st _
  | 1,e1,e2=>cases Option.some.inj e1;cases Option.some.inj e2;exact .tup b _ _ rfl hb rfl fun i u e e1=>by cases e1
 | cg =>
  obtain ⟨a,b,rfl,ha,hb⟩:=h;refine .tup a _ _ rfl ha rfl fun i u e e1 e2=>?_
  match i,e1,e2 with
  | 0,e1,e2=>cases Option.some.inj e1;cases Option.some.inj e2;exact .st _
  | 1,e1,e2=>cases Option.some.inj e1;cases Option.some.inj e2;exact .tup b _ _ rfl hb rfl fun i u e e1=>by cases e1
theorem Bc {H:Hp} {lo:Int} {v:V} {s:Str} (h:aM H lo v (.st s)):v = .str s:=by
 generalize hc:Cq.st s=c at h
 cases h with
 | bY i=>cases hc
 | st z=>cases hc;rfl
 | tup a us c h1=>subst hc;cases h1
 | lst a us c h1=>subst hc;cases h1
theorem Fl {H:Hp} {lo:Int} {v:V} {s:Int} (h:aM H lo v (.bY s)):v = .int s:=by
 generalize hc:Cq.bY s=c at h
 cases h with
 | bY i=>cases hc;rfl
 | st z=>cases hc
 | tup a us c h1=>subst hc;cases h1
 | lst a us c h1=>subst hc;cases h1
theorem Bd {H:Hp} {lo:Int} {v:V} {c:Cq} (h:aM H lo v c) (hc:cty c=1):∃ a us,v = .ref a/\H a=some (.tup us)/\us.length=(bJ lo c).length/\∀ (i:Nat) u e,us[i]?=some u->(bJ lo c)[i]?=some e->aM H lo u e:=by
 cases h with
 | bY i=>cases hc
 | st z=>cases hc
 | tup a us c h1 ha hl k=>exact ⟨a,us,rfl,ha,hl,k⟩
 | lst a us c h1=>rw [hc] at h1;cases h1
theorem J8 {H:Hp} {lo:Int} {v:V} {c:Cq} (h:aM H lo v c) (hc:cty c=2):∃ a us,v = .ref a/\H a=some (.lst us)/\us.length=(bJ lo c).length/\∀ (i:Nat) u e,us[i]?=some u->(bJ lo c)[i]?=some e->aM H lo u e:=by
 cases h with
 | bY i=>cases hc
 | st z=>cases hc
 | tup a us c h1=>rw [hc] at h1;cases h1
 | lst a us c h1 ha hl k=>exact ⟨a,us,rfl,ha,hl,k⟩
theorem Bf {H:Hp} {lo:Int} {v:V} {x:Dd} (h:aM H lo v (.dd x)):Y1 H lo v x:=by
 obtain ⟨a,us,rfl,ha,hl,k⟩:=Bd h rfl
 cases x with
 | put o =>
  match us,hl with
  | [u0,u1],_ =>
   cases Bc (k 0 _ _ rfl rfl)
   cases Fl (k 1 _ _ rfl rfl)
   exact ⟨a,rfl,ha⟩
 | take =>
  match us,hl with
  | [u0,u1],_ =>
   cases Bc (k 0 _ _ rfl rfl)
   obtain ⟨b,vs,rfl,hb,hl,_⟩:=Bd (k 1 _ _ rfl rfl) rfl
   cases List.length_eq_zero_iff.mp hl
   exact ⟨a,b,rfl,ha,hb⟩
 | cg =>
  match us,hl with
  | [u0,u1],_ =>
   cases Bc (k 0 _ _ rfl rfl)
   obtain ⟨b,vs,rfl,hb,hl,_⟩:=Bd (k 1 _ _ rfl rfl) rfl
   cases List.length_eq_zero_iff.mp hl
   exact ⟨a,b,rfl,ha,hb⟩
theorem YV.cq {H:Hp} {lo:Int} {D:Addr} {us:List V} {xs:List Dd} (hD:H D=some (.lst us)) (h:YV H lo us xs):aM H lo (.ref D) (.ds xs):=by
 refine .lst D us _ rfl hD (by rw [bJ,List.length_map];exact h.1) fun i u e e1 e2=>?_
 rw [bJ,List.getElem?_map] at e2
 obtain ⟨x,hx,rfl⟩:=Option.map_eq_some_iff.mp e2;exact (h.2 i u x e1 hx).cq
theorem X7 {H:Hp} {lo:Int} {v:V} {xs:List Dd} (h:aM H lo v (.ds xs)):∃ D us,v = .ref D/\H D=some (.lst us)/\YV H lo us xs:=by
 obtain ⟨a,us,rfl,ha,hl,k⟩:=J8 h rfl;rw [bJ,List.length_map] at hl
 exact ⟨a,us,rfl,ha,hl,fun i u x e1 e2=>Bf (k i u (.dd x) e1 (by rw [bJ,List.getElem?_map,e2];rfl))⟩
theorem vf.cq {H:Hp} {lo:Int} {D:Addr} {as:List Addr} {L:List (List Dd)} (hD:H D=some (.lst (as.map V.ref))) (h:vf H lo as L):aM H lo (.ref D) (.dl L):=by
 refine .lst D _ _ rfl hD (by rw [bJ,List.length_map,List.length_map];exact h.len) fun i u e e1 e2=>?_
 rw [bJ,List.getElem?_map] at e2
 obtain ⟨x,hx,rfl⟩:=Option.map_eq_some_iff.mp e2;rw [List.getElem?_map] at e1
 obtain ⟨a,ha,rfl⟩:=Option.map_eq_some_iff.mp e1;obtain ⟨us,h1,h2⟩:=h.get i a x ha hx;exact h2.cq h1
theorem F2.inj {α β:Type} {R:α->β->Prop}:∀ {as:List α} {bs cs:List β},F2 R as bs->F2 R as cs->(∀ a b c,R a b->R a c->b=c)->bs=cs
 | _,_,_,.nil,.nil,_=>rfl
 | _,_,_,.cons h t,.cons h' t',k=>by rw [k _ _ _ h h',t.inj t' k]
theorem Bg (tn:Nat) (xs:List Dd) (h:xs.length<=100):j5 (.dl (stL tn xs)):=by
 constructor
 ·rw [stL,List.length_append,Az]
  have:=UE (us:=xs) (ss:=xs.map (dst tn)) (fun s hs=>by obtain ⟨x,_,rfl⟩:=List.mem_map.mp hs;exact Ay tn x) (xs.map (dst tn)).length (Nat.le_refl _);have e:(wi xs (xs.map (dst tn))).length<=100*(xs.map (dst tn)).length:=this;rw [List.length_map] at e
  omega
 ·intro z hz
  rcases List.mem_append.mp hz with hz | hz
  ·obtain ⟨i,_,rfl⟩:=List.mem_map.mp hz
   rw [List.length_append,List.length_take,List.length_drop];omega
  ·obtain ⟨l,hl,hz⟩:=List.mem_flatten.mp hz
   obtain ⟨i,hi,rfl⟩:=List.mem_map.mp hl;obtain ⟨s,_,rfl⟩:=List.mem_map.mp hz;rw [List.mem_range,List.length_map] at hi
   rw [List.length_append,List.length_append,List.length_take,List.length_drop,List.length_singleton];omega
inductive iD (K:W.Frag) (vs:List V) (H:Hp) (Q:VK) (E_:XK):Prop
 | mk (b:V) (lo:Int) (tn:Nat) (a T:Addr) (us:List V) (xs:List Dd) (h0:vs=[b,.ref a,.ref T]) (h1:Y9 H lo tn a .aR) (h2:H T=some (.lst us)) (h3:YV H lo us xs) (h4:(∀ x∈xs,bN x)) (h5:xs.length<=100) (h6:∀ v' H',Yf H H'->(∀ a,v' = .ref a->H a=none)->J7 H H' v'->aM H' lo v' (.dl (stL tn xs))->Q v' H')
theorem YaK {k:Nat} {Z4 Z5 Z1 Z2 Z3 Z0:Addr} {aq ao:Addr} {ak aj:Addr} {aA au:Addr} (R:g.Raw "steps_of" "steps_of" yU ["book","shape","value"]) (ZA:g.Fn k "copied" ["thing"] (dW 4)) (Bh:g.Fn k "refuse_no_value" ["book","shape","value"] (jX g.K)) {dw:Nat} (Z3p:g.Ma dw "Stepper" Z3 ["self","book"] (JK g.P g.w g.K (Cs.mk Z0 Z1 Z2) Z5 Z3)) (pQ:dw+1<=k) (Bb:g.Me k Z3 "steps_from" ["self","shape","value"] (jJ g.P g.w g.K (Cs.mk Z0 Z1 Z2) Z5 Z3 3)) (Zi:Cls g.K Z3) (Zg:Yp g.K Z3 "book") (Zf:Yp g.K Z3 "lister"):g.Fn (k+1) "steps_of" ["book","shape","value"] (iD g.K):=by
 refine R.fn YaE (fun vs H Q E h=>by obtain ⟨b,lo,tn,a,T,us,xs,rfl,hS,hT,al,hk,hl,q⟩:=h;rfl) fun f_ cdv A outer s H vs Q E hr h=>?_
 obtain ⟨b,lo,tn,a,T,us,xs,rfl,hS,hT,al,hk,hl,q⟩:=h;refine ⟨_,(@Yd _ _ _ _ _ (@Y4 _ _ _ _ (@Yv _ _ _ _ _ _ _ _ _ _ _ _ Bh hr (@Ya _ _ _ _ _ (pv 0) (@Ya _ _ _ _ _ (pv 1) (@Ya _ _ _ _ _ (pv 2) Yb (by rfl)) (by rfl)) (by rfl)) (by omega) (by rfl) (by rfl) (by decide) (by rfl) (by rfl)) (by rfl)) (@Ye _ _ _ (@Yn _ _ _ _ (@Yv _ _ _ _ _ _ _ _ _ _ _ _ ZA hr (@Ya _ _ _ _ _ (@Wy _ _ _ _ _ _ _ _ _ _ _ _ _ _ _ _ Bb Zi hr (@Uv _ _ _ _ _ _ _ _ _ _ _ _ _ Z3p hr (@Ya _ _ _ _ _ (pv 0) Yb (by rfl)) (by omega) (by rfl) (by rfl) (by decide) (by rfl) (by rfl)) (@Ya _ _ _ _ _ (pv 1) (@Ya _ _ _ _ _ (pv 2) Yb (by rfl)) (by rfl)) (by omega) (by rfl) (by rfl) (by rfl) (by rfl)) Yb (by rfl)) (by omega) (by rfl) (by rfl) (by decide) (by rfl) (by rfl))))),?_⟩;have hv:∀ {H':Hp},Yf H H'->Vx H' lo .aR (.ref T) (bw xs):=fun s => .aR T us xs (s _ _ hT) al.1 hl fun i u x e1 e2=>⟨(al.2 i u x e1 e2).kt (Yx s),hk x (List.mem_of_getElem? e2)⟩
 refine Ym fun R rr=>?_
 walk_at "rd";refine ⟨b,lo,tn,a,.aR,.ref T,_,rfl,hS,hv (.refl _),fun H1 s1=>rr _ _ ?_⟩;walk_at "rd";intro st ds g1 g2 hne;refine ⟨st,ds,b,lo,rfl,Yc,fun ls dl d H2 sb si gd=>?_⟩;have s2:Yf H H2:=s1.trans (W3 g1 g2 sb);have gd0:H d=none:=s1.free (Xa (Xa gd));have nm:∀ {x:Addr} {o:HO},H x=some o->¬ mu d (fun _=>none) x:=fun e h=>by
  rcases h with h | ⟨k,p,ms,h,_⟩
  ·rw [h,gd0] at e;cases e
  ·cases h
 refine ⟨rfl,_,_,si.fu,QF _ _ (by decide +kernel) (by decide +kernel),st,ds,ls,dl,d,b,lo,fun _=>none,[],tn,a,.aR,.ref T,_,rfl,si,hS.kt (Yx s2),hv s2,by decide,fun T' _ e=>(by cases e;exact nm hT),fun D H3 f3 J5 J6 go gD nD rs=>?_⟩;have s3:Yf H H3:=fun x o e=>go.fr x o (nm e) (s2 _ _ e)
 cases rs with
 | aR _ us' xs' as _ hT' fB hD hl' =>
  rw [s3 _ _ hT] at hT'
  cases HO.lst.inj (Option.some.inj hT')
  cases (al.tp (YR (Yx s3))).f2.inj fB.f2 fun _ _ _ h1 h2=>h1.inj h2
  exact ⟨.ref D,lo,.dl (stL tn xs),rfl,hl'.cq hD,Bg tn xs hl,by simp [dep],by simp [dep],fun v' H4 s4 fr f2 hc=>q v' H4 (s3.trans s4) (fun a e=>s3.free (fr a e)) (fun a us e e2 u hu b z=>s3.free (f2 a us e e2 u hu b z)) hc⟩
section
 variable {src:List (Option Nat)} {te:TE} {σ:St} {H:Hp} {Q:VK}
theorem Yeq {ta:TA} {n c m:Nat} (hu:UX n c m) (hc:0<c) (hc':c<2^29) (hn:n<2^60) (Rl:Addr->Nat->V->Hp->Prop) (st:∀ D i y H H',Rl D i y H->Yf H H'->Rl D i y H') (su:∀ D i y H zs zs',Rl D i y H->H D=some (.lst zs)->Rl D i y (upd H D (.lst zs'))) (ha:∀ R:List V->Hp->Prop,R [.int 0,.int n,.int c] H->ta σ H R) (hlen:m<=10000)
  (step:∀ D (i:Nat) H' zs,i<m->Yf H H'->H' D=some (.lst zs)->∀ R:VK,(∀ y aO,Yf H' aO->Rl D i y aO->R y aO)->te (some (.int ((i*c:Nat):Int))::YN src σ) H' R)
  (fin:∀ D (ys:List V) H',H D=none->Yf H H'->H' D=some (.lst ys)->ys.length=m->(∀ (j:Nat) y,ys[j]?=some y->Rl D j y H')->Q (.ref D) H'):fj (none::src) (xX ta) (YT 0) X9 te σ H Q:=by
 refine ha _ ⟨0,n,c,rfl,⟨by decide,by decide,by omega,by omega,by omega,by omega⟩,fun D hD=>?_⟩;obtain ⟨m',em,hm⟩:=Yd3 (n:=n) (c:=c) hc;have:=hu.uniq hm;subst this;rw [em,Int.toNat_natCast];refine UW (Yd2 (lo:=0) (c:=c) (n:=m) (P:=fun _=>True)) (Rl D) (st D) (su D) (fun _ _=>trivial) hD (by simp;omega) (fun i x H' zs hx sm hd R r=>?_) fun ys H' sm hd hl hr=>fin D ys H' hD sm hd (by simpa using hl) hr
 have hi:i<m:=by have:=(List.getElem?_eq_some_iff.mp hx).1;simpa using this
 rw [List.getElem?_map,List.getElem?_range hi] at hx
 have e:V.int (0+(i:Int)*c)=x:=Option.some.inj hx;rw [Int.zero_add,<- Int.natCast_mul] at e
 subst e;exact step D i H' zs hi sm hd R r
end
def dX (n c:Nat):Nat:=if n=0 then 0 else (n - 1) / c+1
theorem Bj {n c:Nat} (hc:0<c):UX n c (dX n c):=by
 unfold dX
 split
 ·rename_i h;exact ⟨fun i hi=>absurd hi (by omega),by omega⟩
 ·refine ⟨fun i hi=>?_,?_⟩
  ·have h1:i*c<=(n - 1) / c*c:=Nat.mul_le_mul_right c (by omega)
   have h2:=Nat.div_mul_le_self (n - 1) c;omega
  ·have h1:=Nat.div_add_mod (n - 1) c
   have h2:=Nat.mod_lt (n - 1) hc;rw [Nat.add_mul,Nat.mul_comm];omega
theorem J9 {n c:Nat}:dX n c<=n:=by
 unfold dX
 split
 ·exact Nat.zero_le _
 ·have:=Nat.div_le_self (n - 1) c;omega
def blk {α:Type} (xs:List α) (c:Nat):List (List α):=(List.range (dX xs.length c)).map fun i=>xs.take (i*c)++xs.drop (i*c+c)
def WW {α:Type}:Nat->List α->Nat->List (List α)
 | 0,_,_=>[]
 | f+1,xs,c=>if c=0 then [] else blk xs c++WW f xs (c / 2)
def mW {α:Type} (xs:List α):List (List α):=WW 20 xs xs.length
theorem VI {α:Type} {f c:Nat} {xs:List α} (h:0<c):WW (f+1) xs c=blk xs c++WW f xs (c / 2):=by rw [WW,if_neg (by omega)]
theorem VJ {α:Type} {f:Nat} {xs:List α}:WW f xs 0=[]:=by cases f<;>rfl
inductive fY (K:W.Frag) (vs:List V) (H:Hp) (Q:VK) (E_:XK):Prop
 | mk (lo:Int) (T:Addr) (us:List V) (xs:List Dd) (h0:vs=[.ref T]) (h1:H T=some (.lst us)) (h2:YV H lo us xs) (h3:xs.length<=100) (h4:∀ D ys H',Yf H H'->H D=none->H' D=some (.lst ys)->ys.length<=2000->(∀ y∈ys,Fs H y)->F2 (aM H' lo) ys ((mW xs).map .ds)->Q (.ref D) H')
inductive CuV (H:Hp) (lo:Int) (xs:List Dd) (T X:Addr) (a:Nat×Nat×List (List Dd)) (σ:St) (H':Hp):Prop
 | mk (ys:List V) (e:σ=[some (.ref T),some (.ref X),some (.int (a.1:Nat))]) (h1:a.1<2^a.2.1) (h2:a.2.1<=20) (h3:a.1<=xs.length) (h4:mW xs=a.2.2++WW a.2.1 xs a.1) (sm:Yf H H') (hX:H' X=some (.lst ys)) (hl:ys.length+100*a.2.1<=2000) (f2:F2 (aM H' lo) ys (a.2.2.map .ds)) (ny:∀ y∈ys,y ≠ .ref X/\Fs H y)
theorem F2.mono {α β:Type} {R R':α->β->Prop} {as:List α} {bs:List β} (h:F2 R as bs) (k:∀ a∈as,∀ b∈bs,R a b->R' a b):F2 R' as bs:=F2.of h.len fun i a b e1 e2=>k a (List.mem_of_getElem? e1) b (List.mem_of_getElem? e2) (h.get i a b e1 e2)
theorem YfB {k:Nat} {Z4 Z5 Z1 Z2 Z3 Z0:Addr} {aq ao:Addr} {ak aj:Addr} {aA au:Addr} (R:g.Raw "cuts" "cuts" yX ["deeds"]) (ZA:g.Fn k "copied" ["thing"] (dW 4)) (aK:g.mg "len"=none) (Zl:g.mg "range"=none):g.Fn (k+1) "cuts" ["deeds"] (fY g.K):=by
 refine R.fn VW (fun vs H Q E h=>by obtain ⟨lo,T,us,xs,rfl,hT,al,hl,q⟩:=h;rfl) fun f_ cdv A outer s H vs Q E hr h=>?_
 obtain ⟨lo,T,us,xs,rfl,hT,al,hl,q⟩:=h;refine ⟨_,(@Yd _ _ _ _ _ (@Yr _ _ (1) _ _ _ _ VW.nd rfl (.inl rfl) (@Y3 _ _ _ _ Yb) (by rfl) (by first | exact .inl rfl | exact .inr rfl | assumption)) (@Yd _ _ _ _ _ (@Yr _ _ (2) _ _ _ _ VW.nd rfl (.inr rfl) (@YH _ _ _ _ _ _ _ _ _ _ aK Yy (@Ya _ _ _ _ _ (pv 0) Yb (by rfl)) (by decide +kernel) (by rfl) (by rfl) (by decide) (by decide) (by rfl) (by rfl)) (by rfl) (by first | exact .inl rfl | exact .inr rfl | assumption)) (@Yd _ _ _ _ _ (@X8 _ _ _ _ _ _ PassesOwn.never (@Yo _ _ _ _ _ _ _ _ WX (pv 2) Yh (Yl _)) (@Yd _ _ _ _ _ (@Y4 _ _ _ _ (@Xp _ _ _ _ _ _ _ _ _ _ _ _ F.plainAttrs_list F.slot_list_extend F.type_list_extend Qe (pv 1) (@Ya _ _ _ _ _ (@X5 _ _ _ _ _ _ _ ([none,some 0,some 2]) ((["begin","deeds","length"]:List Str)) _ (YT 0) _ _ (.own (.cap (i:=0) rfl rfl (by first | exact .inl rfl | exact .inr rfl) (.cap (i:=2) rfl rfl (by first | exact .inl rfl | exact .inr rfl) .nil))) rfl (@Qh _ _ _ _ _ _ _ _ rfl Zl (@Ya _ _ _ _ _ Yh (@Ya _ _ _ _ _ (@YH _ _ _ _ _ _ _ _ _ _ aK Yy (@Ya _ _ _ _ _ (pv 0) Yb (by rfl)) (by decide +kernel) (by rfl) (by rfl) (by decide) (by decide) (by rfl) (by rfl)) (@Ya _ _ _ _ _ (pv 2) Yb (by rfl)) (by rfl)) (by rfl)) (by rfl) (by rfl)) (fun cl C s₀ H₀ fp pn=>(@Yz _ _ (0) _ (show List.Nodup (["begin","deeds","length"]:List Str) by decide +kernel) rfl (.inl rfl) (.inr rfl))) (fun cl C s₀ H₀ fp pn=>Xs) (fun cl C s₀ H₀ fp pn=>(@Yv _ _ _ _ _ _ _ _ _ _ _ _ ZA hr (@Ya _ _ _ _ _ (@Yt _ _ _ _ _ _ _ _ XC (@Xr _ _ _ _ _ _ _ _ _ _ (Wt (K:=g.K)) (pv 1) Xw (@Xx _ _ _ (pv 0))) (@Xr _ _ _ _ _ _ _ _ _ _ (Wt (K:=g.K)) (pv 1) (@Xx _ _ _ (@Yt _ _ _ _ _ _ _ _ Xi (pv 0) (pv 2))) Xw)) Yb (by rfl)) (by omega) (by rfl) (by rfl) (by decide) (by rfl) (by rfl))) (by intro x hx;simp at hx;first | (subst hx;exact .inl rfl) | (rcases hx with rfl | rfl<;>exact .inl rfl) | (rcases hx with rfl | rfl | rfl<;>exact .inl rfl) | (rcases hx with rfl | rfl | rfl | rfl<;>exact .inl rfl) | (rcases hx with rfl | rfl | rfl | rfl | rfl<;>exact .inl rfl)) (by rfl) (by decide) (by decide +kernel) (by intro _;rfl)) Yb (by rfl)) (by rfl) (by rfl) (by rfl) (by rfl) (by rfl)) (by rfl)) (@Ye _ _ _ (@Yr _ _ (2) _ _ _ _ VW.nd rfl (.inr rfl) (@Yt _ _ _ _ _ _ _ _ Wa (pv 2) Yh) (by rfl) (by first | exact .inl rfl | exact .inr rfl | assumption))))) (@Ye _ _ _ (@Yn _ _ _ _ (pv 1)))))),?_⟩;have ul:=al.1;refine Ym fun R rr=>?_
 walk_at "rd";refine ⟨few (by decide),fun X gX=>rr _ _ (Ym fun R rr=>?_)⟩;have sX:=Yf.aF gX (.lst []);walk_at "rd";refine ⟨_,.inl (aG.of (sX _ _ hT)),rr _ _ (Ym fun R rr=>?_)⟩;refine Wb (α:=Nat×Nat×List (List Dd)) (CuV H lo xs T X) (fun a=>decide (0<a.1)) (fun a=>a.1) (xs.length,20,[]) ⟨[],by rw [ul],(by show xs.length<2^20;omega),Nat.le_refl 20,Nat.le_refl _,rfl,sX,Yc,by simp,.nil,fun y h=>by cases h⟩ ?_ ?_ ?_
 ·rintro ⟨x,f,l⟩ σ H' ⟨ys,rfl,h1,h2,h3,h4,sm,hX,hyl,f2,ny⟩ R r
  walk_at "rd";have:=r H' ⟨ys,rfl,h1,h2,h3,h4,sm,hX,hyl,f2,ny⟩;rw [show decide (0<x)=decide ((0:Int)<(x:Int)) from decide_eq_decide.mpr (by omega)] at this
  exact this
 ·rintro ⟨x,f,l⟩ σ H' ⟨ys,rfl,h1,h2,h3,h4,sm,hX,hyl,f2,ny⟩ hx
  have hx0:0<x:=of_decide_eq_true hx;clear hx;have hf:f≠0:=fun z=>by subst z;simp at h1;omega
  obtain ⟨f,rfl⟩:∃ f',f=f'+1:=⟨f - 1,by omega⟩;dsimp only at h1 h2 h3 h4 hX hyl f2 ⊢;rw [VI hx0] at h4
  rw [Nat.pow_succ] at h1
  have hu:=Bj (n:=xs.length) hx0;have pN:=J9 (n:=xs.length) (c:=x);refine Ym fun R rr=>?_
  walk_at "rd";refine ⟨.inl ⟨rfl,_,aG.of hX⟩,?_⟩;refine Yeq (n:=xs.length) (c:=x) (m:=dX xs.length x) hu hx0 (by omega) (by omega) (fun D i y Hx=>y ≠ .ref D/\(y ≠ .ref X/\Fs H y)/\aM Hx lo y (.ds (xs.take (i*x)++xs.drop (i*x+x)))) (fun D i y Ha Hb h s=>⟨h.1,h.2.1,h.2.2.same s⟩) (fun D i y Hx zs zs' h hD=>⟨h.1,h.2.1,h.2.2.own (by simp [dep]) hD h.1⟩) (fun R r=>?_) (by omega) ?_ ?_
  ·walk_at "rd"
   refine ⟨_,.inl (aG.of (sm _ _ hT)),?_⟩;rw [ul];exact r
  ·intro D i H2 zs hi s2 hd R r
   walk_at "rd";have hT2:=s2 _ _ (sm _ _ hT);refine ⟨_,aG.of hT2,fun P1 g1=>?_⟩;rw [WM];have t1:=Yf.aF g1 (.lst (us.take (i*x)));refine ⟨_,aG.of (t1 _ _ hT2),fun P2 g2=>?_⟩;rw [show ((i*x:Nat):Int)+(x:Int)=((i*x+x:Nat):Int) by omega,WN];have t2:=Yf.aF g2 (.lst (us.drop (i*x+x)));refine ⟨_,t2 _ _ Yc,_,Yc,few (by simp;omega),fun P3 g3=>?_⟩;have t3:=Yf.aF g3 (.lst (us.take (i*x)++us.drop (i*x+x)));have t:=(t1.trans t2).trans t3;have fB:=(al.tp (YR (Yx ((sm.trans s2).trans t)))).f2;refine ⟨.ref P3,lo,.ds (xs.take (i*x)++xs.drop (i*x+x)),rfl,YV.cq Yc ((fB.take _).app (fB.drop _)).al,?_,by simp [dep],by simp [dep],fun v' H3 s3 fr _ hv=>r v' H3 (t.trans s3) ⟨fun z=>?_,⟨fun z=>?_,fun b z=>((sm.trans s2).trans t).free (fr b z)⟩,hv⟩⟩
   ·show (xs.take (i*x)++xs.drop (i*x+x)).length<=100
    rw [List.length_append,List.length_take,List.length_drop];omega
   ·have:=fr D z;rw [t _ _ hd] at this;cases this
   ·have:=fr X z;rw [t _ _ (s2 _ _ hX)] at this;cases this
  ·intro D zs H2 gD s2 hd jk hr
   have uz:X≠D:=Yj hX gD;refine ⟨X,D,_,_,rfl,rfl,s2 _ _ hX,hd,few (by omega),rr _ _ ?_⟩;walk_at "rd";have hX2:=s2 _ _ hX;have e:((x:Nat):Int) / 2=((x / 2:Nat):Int):=by omega
   rw [e];refine ⟨XV (by decide) (by decide),(x / 2,f,l++blk xs x),⟨ys++zs,rfl,(by omega:x / 2<2^f),(by omega:f<=20),(by omega:x / 2<=xs.length),?_,.bT gX (sm.trans s2) _,Yc,?_,?_,fun y hy=>?_⟩,(by omega:x / 2<x)⟩
   ·show mW xs=(l++blk xs x)++WW f xs (x / 2)
    rw [h4,List.append_assoc]
   ·show (ys++zs).length+100*f<=2000
    rw [List.length_append];omega
   ·show F2 (aM (upd H2 X (.lst (ys++zs))) lo) (ys++zs) ((l++blk xs x).map .ds)
    rw [List.map_append];refine F2.app (f2.mono fun y hy c hc h=>?_) (F2.of (by rw [List.length_map,blk,List.length_map,List.length_range,jk]) fun j y c e1 e2=>?_)
    ·obtain ⟨z,_,rfl⟩:=List.mem_map.mp hc
     exact (h.same s2).own (by simp [dep]) hX2 (ny y hy).1
    ·rw [List.getElem?_map,blk,List.getElem?_map] at e2
     have hj:j<dX xs.length x:=by rw [<- jk];exact (List.getElem?_eq_some_iff.mp e1).1
     rw [List.getElem?_range hj] at e2
     cases Option.some.inj e2
     have:=hr j y e1;exact this.2.2.own (by simp [dep]) hX2 this.2.1.1
   ·rcases List.mem_append.mp hy with hy | hy
    ·exact ny y hy
    ·obtain ⟨j,hj⟩:=List.getElem?_of_mem hy
     exact (hr j y hj).2.1
 ·rintro ⟨x,f,l⟩ σ H' ⟨ys,rfl,h1,h2,h3,h4,sm,hX,hyl,f2,ny⟩ hx
  have hx:x=0:=by have:=of_decide_eq_false hx;omega
  subst hx;refine rr _ _ ?_;walk_at "rd";rw [VJ,List.append_nil] at h4
  exact q X ys H' sm gX hX (by dsimp only at hyl;omega) (fun y hy=>(ny y hy).2) (by rw [h4];exact f2)
theorem YaL {Z4 Z5 Z1 Z2 Z3 Z0:Addr} {aq ao:Addr} {ak aj:Addr} {aA au:Addr} (R:g.Raw "is_truth" "is_truth" yI ["thing"]) (bW:g.mg "bool"=none) (Z6:g.mg "isinstance"=none):g.Fn (1) "is_truth" ["thing"] (dN (fun _=>false)):=by
 refine R.fn YaD (fun vs H Q E h=>by obtain ⟨a,rfl,q⟩:=h;rfl) fun f_ cdv A outer s H vs Q E hr h=>?_
 obtain ⟨a,rfl,q⟩:=h;refine ⟨_,(@Ye _ _ _ (@Yn _ _ _ _ (@YH _ _ _ _ _ _ _ _ _ _ Z6 YK (@Ya _ _ _ _ _ (pv 0) (@Ya _ _ _ _ _ (@Xq _ _ _ _ ("bool") bW (by decide +kernel) (by rfl) (by rfl) (by decide) (by decide)) Yb (by rfl)) (by rfl)) (by decide +kernel) (by rfl) (by rfl) (by decide) (by decide) (by rfl) (by rfl)))),?_⟩;walk_at "rd"
 cases a with
 | non=>exact ⟨_,rfl,_,.non,false,rfl,q⟩
 | int i=>exact ⟨_,rfl,_,.int i,false,rfl,q⟩
 | str z=>exact ⟨_,rfl,_,.str z,false,rfl,q⟩
theorem Ych {Z4 Z5 Z1 Z2 Z3 Z0:Addr} {aq ao:Addr} {ak aj:Addr} {aA au:Addr} (R:g.Raw "is_text" "is_text" yJ ["thing"]) (Z6:g.mg "isinstance"=none) (bO:g.mg "str"=none):g.Fn (1) "is_text" ["thing"] (dN An.oZ):=by
 refine R.fn Yb5 (fun vs H Q E h=>by obtain ⟨a,rfl,q⟩:=h;rfl) fun f_ cdv A outer s H vs Q E hr h=>?_
 obtain ⟨a,rfl,q⟩:=h;refine ⟨_,(@Ye _ _ _ (@Yn _ _ _ _ (@YH _ _ _ _ _ _ _ _ _ _ Z6 YK (@Ya _ _ _ _ _ (pv 0) (@Ya _ _ _ _ _ (@Xq _ _ _ _ ("str") bO (by decide +kernel) (by rfl) (by rfl) (by decide) (by decide)) Yb (by rfl)) (by rfl)) (by decide +kernel) (by rfl) (by rfl) (by decide) (by decide) (by rfl) (by rfl)))),?_⟩;walk_at "rd"
 cases a with
 | non=>exact ⟨_,rfl,_,.non,false,rfl,q⟩
 | int i=>exact ⟨_,rfl,_,.int i,false,rfl,q⟩
 | str z=>exact ⟨_,rfl,_,.str z,true,rfl,q⟩
theorem Yci {Z4 Z5 Z1 Z2 Z3 Z0:Addr} {aq ao:Addr} {ak aj:Addr} {aA au:Addr} (R:g.Raw "is_list" "is_list" yK ["thing"]) (Z6:g.mg "isinstance"=none) (aN:g.mg "list"=none):g.Fn (1) "is_list" ["thing"] (dN (fun _=>false)):=by
 refine R.fn Yb6 (fun vs H Q E h=>by obtain ⟨a,rfl,q⟩:=h;rfl) fun f_ cdv A outer s H vs Q E hr h=>?_
 obtain ⟨a,rfl,q⟩:=h;refine ⟨_,(@Ye _ _ _ (@Yn _ _ _ _ (@YH _ _ _ _ _ _ _ _ _ _ Z6 YK (@Ya _ _ _ _ _ (pv 0) (@Ya _ _ _ _ _ (@Xq _ _ _ _ ("list") aN (by decide +kernel) (by rfl) (by rfl) (by decide) (by decide)) Yb (by rfl)) (by rfl)) (by decide +kernel) (by rfl) (by rfl) (by decide) (by decide) (by rfl) (by rfl)))),?_⟩;walk_at "rd"
 cases a with
 | non=>exact ⟨_,rfl,_,.non,false,rfl,q⟩
 | int i=>exact ⟨_,rfl,_,.int i,false,rfl,q⟩
 | str z=>exact ⟨_,rfl,_,.str z,false,rfl,q⟩
def An.eq (a b:An):Bool:=decide (a.v=b.v)
inductive mX (vs:List V) (H:Hp) (Q:VK) (E_:XK):Prop
 | mk (a b:An) (h0:vs=[a.v,b.v]) (h1:Q (.bl (a.eq b)) H)
theorem YfC {k:Nat} {Z4 Z5 Z1 Z2 Z3 Z0:Addr} {aq ao:Addr} {ak aj:Addr} {aA au:Addr} (R:g.Raw "same" "same" Q8 ["one","other"]) (ZM:g.Fn k "is_whole_number" ["thing"] (zU)) (nW:g.Fn k "is_truth" ["thing"] (dN (fun _=>false))) (jl:g.Fn k "is_text" ["thing"] (dN An.oZ)) (pR:g.Fn k "is_list" ["thing"] (dN (fun _=>false))) (Z6:g.mg "isinstance"=none) (Zj:g.mg "tuple"=none):g.Fn (k+1) "same" ["one","other"] (mX):=by
 refine R.fn Yfy (fun vs H Q E h=>by obtain ⟨a,b,rfl,q⟩:=h;rfl) fun f_ cdv A outer s H vs Q E hr h=>?_
 obtain ⟨a,b,rfl,q⟩:=h;refine ⟨_,(@Yd _ _ _ _ _ (@Yu _ _ _ _ _ _ _ _ (@Xh _ _ _ (@Yv _ _ _ _ _ _ _ _ _ _ _ _ nW hr (@Ya _ _ _ _ _ (pv 0) Yb (by rfl)) (by omega) (by rfl) (by rfl) (by decide) (by rfl) (by rfl)) (by intro _;rfl)) (@Ye _ _ _ YB) Yq) (@Yd _ _ _ _ _ (@Yu _ _ _ _ _ _ _ _ (@Xh _ _ _ (@Yv _ _ _ _ _ _ _ _ _ _ _ _ ZM hr (@Ya _ _ _ _ _ (pv 0) Yb (by rfl)) (by omega) (by rfl) (by rfl) (by decide) (by rfl) (by rfl)) (by intro _;rfl)) (@Ye _ _ _ (@Yn _ _ _ _ (@XS _ _ _ _ _ _ _ (@Yv _ _ _ _ _ _ _ _ _ _ _ _ ZM hr (@Ya _ _ _ _ _ (pv 1) Yb (by rfl)) (by omega) (by rfl) (by rfl) (by decide) (by rfl) (by rfl)) (@XB _ _ _ _ _ (@Y2 _ _ _ _ _ _ _ _ YJ (pv 0) (pv 1) (Yl _)))))) Yq) (@Yd _ _ _ _ _ (@Yu _ _ _ _ _ _ _ _ (@Xh _ _ _ (@Yv _ _ _ _ _ _ _ _ _ _ _ _ jl hr (@Ya _ _ _ _ _ (pv 0) Yb (by rfl)) (by omega) (by rfl) (by rfl) (by decide) (by rfl) (by rfl)) (by intro _;rfl)) (@Ye _ _ _ (@Yn _ _ _ _ (@XS _ _ _ _ _ _ _ (@Yv _ _ _ _ _ _ _ _ _ _ _ _ jl hr (@Ya _ _ _ _ _ (pv 1) Yb (by rfl)) (by omega) (by rfl) (by rfl) (by decide) (by rfl) (by rfl)) (@XB _ _ _ _ _ (@Y2 _ _ _ _ _ _ _ _ YJ (pv 0) (pv 1) (Yl _)))))) Yq) (@Yd _ _ _ _ _ (@Yu _ _ _ _ _ _ _ _ (@Xh _ _ _ (@Yv _ _ _ _ _ _ _ _ _ _ _ _ pR hr (@Ya _ _ _ _ _ (pv 0) Yb (by rfl)) (by omega) (by rfl) (by rfl) (by decide) (by rfl) (by rfl)) (by intro _;rfl)) (@Ye _ _ _ YB) Yq) (@Yd _ _ _ _ _ (@Yu _ _ _ _ _ _ _ _ (@Xh _ _ _ (@YH _ _ _ _ _ _ _ _ _ _ Z6 YK (@Ya _ _ _ _ _ (pv 0) (@Ya _ _ _ _ _ (@Xq _ _ _ _ ("tuple") Zj (by decide +kernel) (by rfl) (by rfl) (by decide) (by decide)) Yb (by rfl)) (by rfl)) (by decide +kernel) (by rfl) (by rfl) (by decide) (by decide) (by rfl) (by rfl)) (by intro _;rfl)) (@Ye _ _ _ YB) Yq) (@Ye _ _ _ (@Yn _ _ _ _ (@XS _ _ _ _ _ _ _ (@Y2 _ _ _ _ _ _ _ _ XM (pv 0) YW (Yl _)) (@XB _ _ _ _ _ (@Y2 _ _ _ _ _ _ _ _ XM (pv 1) YW (Yl _))))))))))),?_⟩;walk_at "rd"
 cases a with
 | non =>
  refine ⟨.non,rfl,false,rfl,YA (by decide) ⟨.non,rfl,false,rfl,YA (by decide) ⟨.non,rfl,false,rfl,YA (by decide) ⟨.non,rfl,false,rfl,YA (by decide) ⟨_,rfl,_,.non,false,rfl,YA (by decide) (YU rfl ?_)⟩⟩⟩⟩⟩;rw [show decide (b.v=V.non)=An.eq .non b from decide_eq_decide.mpr eq_comm];exact q
 | int i =>
  refine ⟨.int i,rfl,false,rfl,YA (by decide) ⟨.int i,rfl,true,rfl,YU rfl ⟨b,rfl,b.isI,rfl,?_⟩⟩⟩
  cases b with
  | non =>
   rw [show An.eq (.int i) .non=false from decide_eq_false (by intro z;cases z)] at q
   exact YA (by intro z;cases z) q
  | int j=>exact YU rfl ⟨rfl,q⟩
  | str t =>
   rw [show An.eq (.int i) (.str t)=false from decide_eq_false (by intro z;cases z)] at q
   exact YA (by intro z;cases z) q
 | str z =>
  refine ⟨.str z,rfl,false,rfl,YA (by decide) ⟨.str z,rfl,false,rfl,YA (by decide) ⟨.str z,rfl,true,rfl,YU rfl ⟨b,rfl,b.oZ,rfl,?_⟩⟩⟩⟩
  cases b with
  | non =>
   rw [show An.eq (.str z) .non=false from decide_eq_false (by intro z;cases z)] at q
   exact YA (by intro z;cases z) q
  | int j =>
   rw [show An.eq (.str z) (.int j)=false from decide_eq_false (by intro z;cases z)] at q
   exact YA (by intro z;cases z) q
  | str t=>exact YU rfl ⟨rfl,q⟩
structure bK (H:Hp) (lo:Int) (a c:Addr) (q:List Nat) (n:Nat):Prop where
 ha:H a=some (.lst [.ref c,.int (n:Nat)])
 hc:H c=some (.lst (q.map fun (o:Nat)=>V.int (lo+(o:Nat))))
def XX:Sp:=fun vs H Q _=>vs=[]/\∀ (lo:Int) a c H',Yf H H'->H a=none->H c=none->bK H' lo a c [] 0->Q (.ref a) H'
theorem Yak {Z4 Z5 Z1 Z2 Z3 Z0:Addr} {aq ao:Addr} {ak aj:Addr} {aA au:Addr} (R:g.Raw "_law_begin" "_law_begin" zf []):g.Fn (1) "_law_begin" [] (XX):=by
 refine R.fn Yab (fun vs H Q E h=>by obtain ⟨rfl,q⟩:=h;rfl) fun f_ cdv A outer s H vs Q E hr h=>?_
 obtain ⟨rfl,q⟩:=h;refine ⟨_,(@Ye _ _ _ (@Yn _ _ _ _ (@Y3 _ _ _ _ (@Ya _ _ _ _ _ (@Y3 _ _ _ _ Yb) (@Ya _ _ _ _ _ Yh Yb (by rfl)) (QZ _ _ _ _))))),?_⟩;walk_at "rd";refine ⟨few (by decide),fun c gc=>⟨few (by decide),fun a ga=>?_⟩⟩;have s1:=Yf.aF gc (.lst []);have s2:=Yf.aF ga (.lst [.ref c,.int 0]);exact q 0 a c _ (s1.trans s2) (s1.free ga) gc ⟨Yc,s2 _ _ Yc⟩
def dY (lo:Int) (x:Dd) (q:List Nat):List Nat×An :=
 match x,q with
 | .put o,q=>(q++[o],.non)
 | .cg,q=>(q,.int (q.length:Nat))
 | .take,[]=>([],.non)
 | .take,o::r=>(r,.int (lo+(o:Nat)))
inductive dZ (K:W.Frag) (vs:List V) (H:Hp) (Q:VK) (E_:XK):Prop
 | mk (lo:Int) (a c:Addr) (qu:List Nat) (n:Nat) (v:V) (x:Dd) (h0:vs=[.ref a,v]) (h1:bK H lo a c qu n) (h2:Y1 H lo v x) (h3:qu.length<=1000) (h4:∀ T H',SameBut c H H'->H T=none->H' T=some (.tup [.ref a,(dY lo x qu).2.v])->bK H' lo a c (dY lo x qu).1 n->Q (.ref T) H')
theorem YfD {K:W.Frag} {b:Addr} {H:Hp} {lo:Int} {qu:List Nat} (e:H b=some (.lst (qu.map fun (o:Nat)=>V.int (lo+(o:Nat))))):Den K H (.ref b) (.list ((qu.map fun (o:Nat)=>lo+(o:Nat)).map PyData.int)) := .lst (aG.of (by rw [e,List.map_map];rfl)) (.ints _)
theorem Yal {Z4 Z5 Z1 Z2 Z3 Z0:Addr} {aq ao:Addr} {ak aj:Addr} {aA au:Addr} (R:g.Raw "_law_model" "_law_model" zj ["_law_state","_law_deed"]) (aK:g.mg "len"=none):g.Fn (1) "_law_model" ["_law_state","_law_deed"] (dZ g.K):=by
 refine R.fn Yac (fun vs H Q E h=>by obtain ⟨lo,a,c,qu,n,v,x,rfl,st,hd,hq,q⟩:=h;rfl) fun f_ cdv A outer s H vs Q E hr h=>?_
 obtain ⟨lo,a,c,qu,n,v,x,rfl,st,hd,hq,q⟩:=h;refine ⟨_,(@Yd _ _ _ _ _ (@Yu _ _ _ _ _ _ _ _ (@Yo _ _ _ _ _ _ _ _ YJ (@Ys _ _ _ _ _ _ _ YD (pv 1) Yh (fun _ _=>rfl)) YC (Yl _)) (@Yd _ _ _ _ _ (@Y4 _ _ _ _ (@Xp _ _ _ _ _ _ _ _ _ _ _ _ F.plainAttrs_list F.slot_list_append F.type_list_append Y7 (@Ys _ _ _ _ _ _ _ YL (pv 0) Yh (fun _ _=>rfl)) (@Ya _ _ _ _ _ (@Ys _ _ _ _ _ _ _ YD (pv 1) Yh (fun _ _=>rfl)) Yb (by rfl)) (by rfl) (by rfl) (by rfl) (by rfl) (by rfl)) (by rfl)) (@Ye _ _ _ (@Yn _ _ _ _ (@YO _ _ _ _ _ (@Ya _ _ _ _ _ (pv 0) (@Ya _ _ _ _ _ YW Yb (by rfl)) (by rfl)))))) Yq) (@Yd _ _ _ _ _ (@Yu _ _ _ _ _ _ _ _ (@Yo _ _ _ _ _ _ _ _ YJ (@Ys _ _ _ _ _ _ _ YD (pv 1) Yh (fun _ _=>rfl)) YC (Yl _)) (@Ye _ _ _ (@Yn _ _ _ _ (@YO _ _ _ _ _ (@Ya _ _ _ _ _ (pv 0) (@Ya _ _ _ _ _ (@YH _ _ _ _ _ _ _ _ _ _ aK Yy (@Ya _ _ _ _ _ (@Ys _ _ _ _ _ _ _ YL (pv 0) Yh (fun _ _=>rfl)) Yb (by rfl)) (by decide +kernel) (by rfl) (by rfl) (by decide) (by decide) (by rfl) (by rfl)) Yb (by rfl)) (by rfl))))) Yq) (@Yd _ _ _ _ _ (@Yu _ _ _ _ _ _ _ _ (@Yo _ _ _ _ _ _ _ _ (Vy hr.units) (@Ys _ _ _ _ _ _ _ YL (pv 0) Yh (fun _ _=>rfl)) (@Y3 _ _ _ _ Yb) (Yl _)) (@Ye _ _ _ (@Yn _ _ _ _ (@YO _ _ _ _ _ (@Ya _ _ _ _ _ (pv 0) (@Ya _ _ _ _ _ YW Yb (by rfl)) (by rfl))))) Yq) (@Ye _ _ _ (@Yn _ _ _ _ (@YO _ _ _ _ _ (@Ya _ _ _ _ _ (pv 0) (@Ya _ _ _ _ _ (@Xp _ _ _ _ _ _ _ _ _ _ _ _ F.plainAttrs_list F.slot_list_pop F.type_list_pop Vk (@Ys _ _ _ _ _ _ _ YL (pv 0) Yh (fun _ _=>rfl)) (@Ya _ _ _ _ _ Yh Yb (by rfl)) (by rfl) (by rfl) (by rfl) (by rfl) (by rfl)) Yb (by rfl)) (by rfl)))))))),?_⟩;have hac:a≠c:=fun z=>by
  have h:=st.ha;rw [z,st.hc] at h
  have:=congrArg List.length (HO.lst.inj (Option.some.inj h));have h2:=HO.lst.inj (Option.some.inj h)
  match qu,h2 with
  | o::r,h2=>exact absurd (List.cons.inj h2).1 (by intro z;cases z)
 walk_at "rd"
 cases x with
 | put o =>
  obtain ⟨d,rfl,hd⟩:=hd;refine ⟨d,rfl,_,aJ.of hd,_,Yk (j:=0) rfl,rfl,YU rfl ⟨_,aG.of st.ha,_,Yk (j:=0) rfl,.inl ⟨rfl,_,aG.of st.hc⟩,d,rfl,_,aJ.of hd,_,Yk (j:=1) rfl,c,rfl,_,st.hc,few (by simp;omega),few (by decide),fun p gp=>?_⟩⟩;have gp':=Xa gp;have jg:p≠c:=fun z=>by rw [z,Yc] at gp;cases gp
  have sp:=Yf.aF gp (.tup [.ref a,.non]);refine q p _ (fun b u nb e=>sp _ _ (by rw [Yg nb];exact e)) gp' Yc ⟨sp _ _ (by rw [Yg hac];exact st.ha),sp _ _ ?_⟩;rw [Yc]
  show some (HO.lst _)=some (HO.lst ((qu++[o]).map _))
  rw [List.map_append];rfl
 | cg =>
  obtain ⟨d,b,rfl,hd,hb⟩:=hd;refine ⟨d,rfl,_,aJ.of hd,_,Yk (j:=0) rfl,rfl,YA (by decide +kernel) ⟨d,rfl,_,aJ.of hd,_,Yk (j:=0) rfl,rfl,YU rfl ⟨_,aG.of st.ha,_,Yk (j:=0) rfl,c,rfl,_,.inl (aG.of st.hc),few (by decide),fun p gp=>?_⟩⟩⟩;have sp:=Yf.aF gp (.tup [.ref a,.int ((qu.map fun (o:Nat)=>V.int (lo+(o:Nat))).length:Nat)]);exact q p _ (fun b u _ e=>sp _ _ e) gp (by rw [Yc,List.length_map];rfl) ⟨sp _ _ st.ha,sp _ _ st.hc⟩
 | take =>
  obtain ⟨d,b,rfl,hd,hb⟩:=hd;refine ⟨d,rfl,_,aJ.of hd,_,Yk (j:=0) rfl,rfl,YA (by decide +kernel) ⟨d,rfl,_,aJ.of hd,_,Yk (j:=0) rfl,rfl,YA (by decide +kernel) ⟨_,aG.of st.ha,_,Yk (j:=0) rfl,few (by decide),fun p gp=>?_⟩⟩⟩;have sp:=Yf.aF gp (.lst []);refine ⟨_,YfD (sp _ _ st.hc),.list [],.lst (aG.of Yc) .nil,?_,?_⟩
  ·rw [PyData.depth]
   have:=Uw (qu.map fun (o:Nat)=>lo+(o:Nat));omega
  match qu,st,q,hq with
  | [],st,q,hq =>
   refine YU (by simp [PyData.eqv,PyData.eqvAll]) ⟨few (by decide),fun p1 g1=>?_⟩;have s1:=sp.trans (Yf.aF g1 (.tup [.ref a,.non]));exact q p1 _ (fun b u _ e=>s1 _ _ e) (sp.free g1) Yc ⟨s1 _ _ st.ha,s1 _ _ st.hc⟩
  | o::r,st,q,hq =>
   refine YA (by simp [PyData.eqv,PyData.eqvAll]) ⟨_,aG.of (sp _ _ st.ha),_,Yk (j:=0) rfl,.inl ⟨rfl,_,aG.of (sp _ _ st.hc)⟩,c,_,0,0,.int (lo+(o:Nat)),rfl,rfl,sp _ _ st.hc,by decide,by decide,by simp [seqIndex?],rfl,few (by decide),fun p1 g1=>?_⟩;have s1:=Yf.aF g1 (.tup [.ref a,.int (lo+(o:Nat))]);exact q p1 _ (fun b u nb e=>s1 _ _ (by rw [Yg nb];exact sp _ _ e)) (sp.free (Xa g1)) Yc ⟨s1 _ _ (by rw [Yg hac];exact sp _ _ st.ha),s1 _ _ Yc⟩
inductive pU (vs:List V) (H:Hp) (Q:VK) (E_:XK):Prop
 | mk (a b:An) (h0:vs=[a.v,b.v]) (h1:b.oZ=false) (h2:Q (.bl (!(a.eq b))) H)
theorem An.ne {a b:An} (h:a.v≠b.v):a.eq b=false:=decide_eq_false h
theorem Qx {Z4 Z5 Z1 Z2 Z3 Z0:Addr} {aq ao:Addr} {ak aj:Addr} {aA au:Addr} (R:g.Raw "_law_differ" "_law_differ" zm ["_law_one","_law_other"]) (Z6:g.mg "isinstance"=none) (bO:g.mg "str"=none):g.Fn (1) "_law_differ" ["_law_one","_law_other"] (pU):=by
 refine R.fn Qw (fun vs H Q E h=>by obtain ⟨a,b,rfl,hb,q⟩:=h;rfl) fun f_ cdv A outer s H vs Q E hr h=>?_
 obtain ⟨a,b,rfl,hb,q⟩:=h;refine ⟨_,(@Yd _ _ _ _ _ (@Yu _ _ _ _ _ _ _ _ (@X4 _ _ _ _ _ _ _ (@Yo _ _ _ _ _ _ _ _ XM (pv 0) YW (Yl _)) (@Wk _ _ _ _ (@Yo _ _ _ _ _ _ _ _ XM (pv 1) YW (Yl _)))).pt (@Ye _ _ _ (@Yn _ _ _ _ (@FN _ _ _ _ _ _ _ (@Y2 _ _ _ _ _ _ _ _ Wg (pv 0) YW (Yl _)) (@XB _ _ _ _ _ (@Y2 _ _ _ _ _ _ _ _ Wg (pv 1) YW (Yl _)))))) Yq) (@Ye _ _ _ (@Yn _ _ _ _ (@FN _ _ _ _ _ _ _ (@Y2 _ _ _ _ _ _ _ _ VQ (@YH _ _ _ _ _ _ _ _ _ _ Z6 YK (@Ya _ _ _ _ _ (pv 0) (@Ya _ _ _ _ _ (@Xq _ _ _ _ ("str") bO (by decide +kernel) (by rfl) (by rfl) (by decide) (by decide)) Yb (by rfl)) (by rfl)) (by decide +kernel) (by rfl) (by rfl) (by decide) (by decide) (by rfl) (by rfl)) (@YH _ _ _ _ _ _ _ _ _ _ Z6 YK (@Ya _ _ _ _ _ (pv 1) (@Ya _ _ _ _ _ (@Xq _ _ _ _ ("str") bO (by decide +kernel) (by rfl) (by rfl) (by decide) (by decide)) Yb (by rfl)) (by rfl)) (by decide +kernel) (by rfl) (by rfl) (by decide) (by decide) (by rfl) (by rfl)) (Yl _)) (@XB _ _ _ _ _ (@Y2 _ _ _ _ _ _ _ _ VQ (pv 0) (pv 1) (Yl _))))))),?_⟩;walk_at "rd"
 cases a with
 | non =>
  refine YU rfl (YA (fun h=>h rfl) ?_);rw [show decide (b.v=V.non)=An.eq .non b from decide_eq_decide.mpr eq_comm];exact q
 | int i =>
  cases b with
  | non =>
   rw [An.ne (by intro z;cases z)] at q
   exact YA (by intro z;cases z) (YU rfl (YU (by intro z;cases z) q))
  | int j=>exact YA (by intro z;cases z) (YA (by intro z;cases z) ⟨_,rfl,_,.int i,false,rfl,_,rfl,_,.int j,false,rfl,rfl,YA (fun h=>h rfl) ⟨rfl,q⟩⟩)
  | str t=>cases hb
 | str z =>
  cases b with
  | non =>
   rw [An.ne (by intro z;cases z)] at q
   exact YA (by intro z;cases z) (YU rfl (YU (by intro z;cases z) q))
  | int j =>
   rw [An.ne (by intro z;cases z)] at q
   exact YA (by intro z;cases z) (YA (by intro z;cases z) ⟨_,rfl,_,.str z,true,rfl,_,rfl,_,.int j,false,rfl,rfl,YU (by decide) q⟩)
  | str t=>cases hb
theorem Wh (a b:List Dd):bw (a++b)=bw a+bw b:=by
 simp only [bw,List.length_append,List.map_append,List.sum_append];omega
theorem YfE {a:List Dd} (h:a≠[]):0<bw a:=by
 cases a with
 | nil=>exact absurd rfl h
 | cons x a=>simp only [bw,List.length_cons];omega
theorem YfF (xs:List Dd) (i c:Nat) (hi:i<xs.length) (hc:0<c):bw (xs.take i++xs.drop (i+c))<bw xs:=by
 have e:xs=xs.take i++((xs.drop i).take c++xs.drop (i+c)):=by
  rw [show xs.drop (i+c)=(xs.drop i).drop c by rw [List.drop_drop],List.take_append_drop,List.take_append_drop]
 have h2:0<bw ((xs.drop i).take c):=YfE fun z=>by
  have:=congrArg List.length z;rw [List.length_take,List.length_drop,List.length_nil] at this
  omega
 have h3:=congrArg bw e;rw [Wh,Wh] at h3
 rw [Wh];omega
theorem Yer:∀ o≤200,∀ s∈ji o,mG s<mG o/\s<=200:=by decide +kernel
theorem Yes {tn:Nat} {x s:Dd} (k:bN x) (h:s∈dst tn x):bC s<bC x/\bN s:=by
 rcases List.mem_append.mp h with h | h
 ·split at h
  ·cases h
  ·rename_i c
   obtain ⟨i,_,rfl⟩:=List.mem_map.mp h;have:∀ j,bC (mR j)=0/\bN (mR j):=fun j=>by
    match j with
    | 0=>exact ⟨by decide,Nat.zero_le _⟩
    | 1=>exact ⟨rfl,trivial⟩
    | _+2=>exact ⟨rfl,trivial⟩
   have:=this ((tn+i)%3);exact ⟨by omega,this.2⟩
 ·cases x with
  | put o =>
   obtain ⟨s,hs,rfl⟩:=List.mem_map.mp h;exact Yer o k s hs
  | take=>cases h
  | cg=>cases h
def nxs (tn:Nat) (xs:List Dd):List (List Dd):=mW xs++stL tn xs
structure vq (xs l:List Dd):Prop where
 sz:bw l<bw xs
 ok:(∀ x∈xs,bN x)->∀ x∈l,bN x
 len:l.length<=xs.length
theorem Ka (xs:List Dd) (i c:Nat) (hi:i<xs.length) (hc:0<c):vq xs (xs.take i++xs.drop (i+c)):=⟨YfF xs i c hi hc,fun k x hx=>(by
 rcases List.mem_append.mp hx with hx | hx
 ·exact k x (List.mem_of_mem_take hx)
 ·exact k x (List.mem_of_mem_drop hx)),by rw [List.length_append,List.length_take,List.length_drop];omega⟩
theorem Kc (xs:List Dd):∀ (f c:Nat),∀ l∈WW f xs c,vq xs l
 | 0,c,l,h=>by cases h
 | f+1,c,l,h=>by
  by_cases h0:c=0
  ·subst h0;rw [VJ] at h;cases h
  ·rw [VI (by omega)] at h
   rcases List.mem_append.mp h with h | h
   ·obtain ⟨i,hi,rfl⟩:=List.mem_map.mp h
    rw [List.mem_range] at hi
    exact Ka xs (i*c) c ((Bj (by omega)).1 i hi) (by omega)
   ·exact Kc xs f _ l h
theorem VY {tn:Nat} {xs l:List Dd} (k:∀ x∈xs,bN x) (h:l∈nxs tn xs):vq xs l:=by
 rcases List.mem_append.mp h with h | h
 ·exact Kc xs _ _ l h
 rcases List.mem_append.mp h with h | h
 ·obtain ⟨i,hi,rfl⟩:=List.mem_map.mp h
  exact Ka xs i 1 (List.mem_range.mp hi) (by decide)
 ·obtain ⟨m,hm,h⟩:=List.mem_flatten.mp h
  obtain ⟨i,hi,rfl⟩:=List.mem_map.mp hm;obtain ⟨s,hs,rfl⟩:=List.mem_map.mp h;rw [List.mem_range,List.length_map] at hi
  have hx:xs[i]?=some xs[i]:=List.getElem?_eq_getElem hi;rw [List.getD_eq_getElem?_getD,List.getElem?_map,hx] at hs
  have d:=Yes (k _ (List.mem_of_getElem? hx)) hs;have e:xs=xs.take i++([xs[i]]++xs.drop (i+1)):=by
   rw [List.singleton_append,List.getElem_cons_drop,List.take_append_drop]
  refine ⟨?_,fun k x hx=>?_,?_⟩
  ·have h3:=congrArg bw e
   rw [Wh,Wh] at h3
   rw [Wh,Wh];have h4:bw [s]=1+bC s:=by simp [bw]
   have h5:bw [xs[i]]=1+bC xs[i]:=by simp [bw]
   omega
  ·rcases List.mem_append.mp hx with hx | hx
   ·rcases List.mem_append.mp hx with hx | hx
    ·exact k x (List.mem_of_mem_take hx)
    ·rw [List.mem_singleton.mp hx];exact d.2
   ·exact k x (List.mem_of_mem_drop hx)
  ·rw [List.length_append,List.length_append,List.length_take,List.length_drop,List.length_singleton];omega
def nx (ap:List Dd->Option Nat) (L:List (List Dd)):Option (List Dd):=L.find? fun l=>(ap l).isSome
inductive Way (ap:List Dd->Option Nat) (tn:Nat):List Dd->List (List Dd)->Prop
 | rest (xs:List Dd) (h:nx ap (nxs tn xs)=none):Way ap tn xs [xs]
 | step (xs l:List Dd) (w:List (List Dd)) (h:nx ap (nxs tn xs)=some l) (t:Way ap tn l w):Way ap tn xs (xs::w)
section
 variable {ap:List Dd->Option Nat} {tn:Nat} {xs:List Dd} {w w':List (List Dd)}
theorem Way.uniq (h:Way ap tn xs w):∀ {w'},Way ap tn xs w'->w=w':=by
 induction h with
 | rest xs h =>
  intro w' h'
  cases h' with
  | rest _ _=>rfl
  | step _ l w h2 t=>rw [h] at h2;cases h2
 | step xs l w h t ih =>
  intro w' h'
  cases h' with
  | rest _ h2=>rw [h] at h2;cases h2
  | step _ l' w' h2 t'=>rw [h] at h2;cases h2;rw [ih t']
theorem Way.head (h:Way ap tn xs w):∃ r,w=xs::r:=by cases h<;>exact ⟨_,rfl⟩
theorem Way.at_ (h:Way ap tn xs w):∀ (k:Nat) l,w[k]?=some l->nx ap (nxs tn l)=w[k+1]?:=by
 induction h with
 | rest xs h=>intro k l e;match k,e with | 0,e=>cases Option.some.inj e;exact h
 | step xs l w h t ih =>
  intro k l' e
  match k,e with
  | 0,e=>cases Option.some.inj e;obtain ⟨r,rfl⟩:=t.head;exact h
  | k+1,e=>exact ih k l' e
theorem VZ {L:List (List Dd)} {l:List Dd} (h:nx ap L=some l):l∈L/\(ap l).isSome=true:=⟨List.mem_of_find?_eq_some h,by have:=List.find?_some h;exact this⟩
theorem Way.ok (h:Way ap tn xs w):(ap xs).isSome=true->(∀ x∈xs,bN x)->∀ l∈w,(ap l).isSome=true/\(∀ x∈l,bN x)/\l.length<=xs.length:=by
 induction h with
 | rest xs h =>
  intro h1 h2 l hl;rw [List.mem_singleton.mp hl];exact ⟨h1,h2,Nat.le_refl _⟩
 | step xs l w h t ih =>
  intro h1 h2 l' hl;rcases List.mem_cons.mp hl with rfl | hl
  ·exact ⟨h1,h2,Nat.le_refl _⟩
  ·have n:=VZ h
   have e:=VY h2 n.1;obtain ⟨a,b,c⟩:=ih n.2 (e.ok h2) l' hl;exact ⟨a,b,Nat.le_trans c e.len⟩
theorem Way.length (h:Way ap tn xs w):(∀ x∈xs,bN x)->w.length<=bw xs+1:=by
 induction h with
 | rest xs h =>
  intro _;simp
 | step xs l w h t ih =>
  intro k;have e:=VY k (VZ h).1;have:=ih (e.ok k);have:=e.sz;rw [List.length_cons];omega
end
def dn (sl bd:Nat) (lo:Int) (x:Dd) (q:List Nat) (n:Nat):List Nat×Nat×An :=
 match x with
 | .put o=>(if (sl=0/\bd<=q.length)\/(sl=2/\o=bd) then q else q++[o],n,.non)
 | .cg=>(q,n,.int ((q.length:Nat)+(if sl=3/\bd<q.length then 1 else 0)))
 | .take=>match q with
  | []=>([],n,.non)
  | o::r=>if sl=1/\bd<(o::r).length then ((o::r).dropLast,n+1,.int (lo+(((o::r).getLastD 0:Nat):Int))) else if sl=4/\bd<n+1 then (r,n+1,.str (toString (lo+(o:Nat)))) else (r,n+1,.int (lo+(o:Nat)))
def Wc (sl bd:Nat) (lo:Int):List Dd->List Nat->Nat->List Nat->Nat->Option Nat
 | [],_,_,_,_=>none
 | x::xs,q,n,p,i=>if (dn sl bd lo x q n).2.2.eq (dY lo x p).2 then Wc sl bd lo xs (dn sl bd lo x q n).1 (dn sl bd lo x q n).2.1 (dY lo x p).1 (i+1) else some i
def bU (sl bd:Nat) (lo:Int) (xs:List Dd):Option Nat:=Wc sl bd lo xs [] 0 [] 0
theorem Kd {sl bd:Nat} {lo:Int}:∀ {xs:List Dd} {q:List Nat} {n:Nat} {p:List Nat} {i j:Nat},Wc sl bd lo xs q n p i=some j->j<i+xs.length
 | [],q,n,p,i,j,h=>by cases h
 | x::xs,q,n,p,i,j,h=>by
  rw [Wc] at h
  split at h
  ·have:=Kd h;rw [List.length_cons];omega
  ·cases Option.some.inj h;rw [List.length_cons];omega
theorem Ql {sl bd:Nat} {lo:Int}:∀ {xs:List Dd} {q:List Nat} {n:Nat} {p:List Nat} {i j:Nat} (m:Nat),Wc sl bd lo xs q n p i=some j->j<i+m->Wc sl bd lo (xs.take m) q n p i=some j
 | [],q,n,p,i,j,m,h,_=>by cases h
 | x::xs,q,n,p,i,j,0,h,hm=>by
  rw [Wc] at h
  split at h
  ·have:∀ {xs:List Dd} {q:List Nat} {n:Nat} {p:List Nat} {i j:Nat},Wc sl bd lo xs q n p i=some j->i<=j:=fun {xs}=>by
    induction xs with
    | nil =>
     intro q n p i j h
     cases h
    | cons x xs ih =>
     intro q n p i j h;rw [Wc] at h
     split at h
     ·have:=ih h
      omega
     ·cases Option.some.inj h
      exact Nat.le_refl _
   have:=this h;omega
  ·cases Option.some.inj h;omega
 | x::xs,q,n,p,i,j,m+1,h,hm=>by
  rw [List.take_succ_cons,Wc];rw [Wc] at h
  split at h
  ·rename_i c;rw [if_pos c];exact Ql m h (by omega)
  ·rename_i c;rw [if_neg c];exact h
theorem Yet {sl bd tn:Nat} {lo:Int} {l:List Dd} {j:Nat} (h:bU sl bd lo l=some j) (hn:nx (bU sl bd lo) (nxs tn l)=none):j=l.length - 1/\0<l.length:=by
 have hj:=Kd h;by_cases c:j<l.length - 1
 ·exfalso
  have e:bU sl bd lo (l.take (l.length - 1))=some j:=Ql _ h (by omega);have hm:l.take (l.length - 1)++l.drop (l.length - 1+1)∈nxs tn l:=List.mem_append_right _ (List.mem_append_left _ (List.mem_map.mpr ⟨l.length - 1,List.mem_range.mpr (by omega),rfl⟩));rw [List.drop_eq_nil_of_le (by omega),List.append_nil] at hm
  have:=List.find?_eq_none.mp hn _ hm;rw [e] at this
  exact this rfl
 ·omega
def dv:Option Nat->V
 | none => .non
 | some i => .int (i:Nat)
theorem Ke {sl bd:Nat} {lo:Int} {xs:List Dd} {i:Nat} {x:Dd} {qu p:List Nat} {n:Nat} (h:xs[i]?=some x):Wc sl bd lo (xs.drop i) qu n p i=if (dn sl bd lo x qu n).2.2.eq (dY lo x p).2 then Wc sl bd lo (xs.drop (i+1)) (dn sl bd lo x qu n).1 (dn sl bd lo x qu n).2.1 (dY lo x p).1 (i+1) else some i:=by
 obtain ⟨hi,rfl⟩:=List.getElem?_eq_some_iff.mp h;rw [List.drop_eq_getElem_cons hi,Wc]
theorem Kf (sl bd:Nat) (lo:Int) (x:Dd) (q:List Nat) (n:Nat):(dn sl bd lo x q n).1.length<=q.length+1:=by
 cases x with
 | put o=>simp only [dn];split<;>simp
 | cg=>exact Nat.le_succ _
 | take =>
  cases q with
  | nil=>exact Nat.zero_le _
  | cons o r =>
   simp only [dn]
   split
   ·simp only [List.length_dropLast,List.length_cons];omega
   ·split<;>simp only [List.length_cons]<;>omega
theorem Kg {sl bd:Nat} {lo:Int} {x:Dd} {q:List Nat} {n:Nat} (h:∀ o∈q,o<=200) (k:bN x):∀ o∈(dn sl bd lo x q n).1,o<=200:=by
 cases x with
 | put o =>
  simp only [dn]
  split
  ·exact h
  ·intro z hz
   rcases List.mem_append.mp hz with hz | hz
   ·exact h z hz
   ·rw [List.mem_singleton.mp hz];exact k
 | cg=>exact h
 | take =>
  cases q with
  | nil=>exact h
  | cons o r =>
   simp only [dn]
   split
   ·exact fun z hz=>h z ((List.dropLast_sublist (o::r)).subset hz)
   ·split
    ·exact fun z hz=>h z (List.mem_cons_of_mem _ hz)
    ·exact fun z hz=>h z (List.mem_cons_of_mem _ hz)
theorem Kh (lo:Int) (x:Dd) (q:List Nat):(dY lo x q).1.length<=q.length+1:=by
 cases x with
 | put o=>simp [dY]
 | cg=>exact Nat.le_succ _
 | take =>
  cases q with
  | nil=>exact Nat.zero_le _
  | cons o r=>simp only [dY,List.length_cons];omega
theorem YfG (lo:Int) (x:Dd) (q:List Nat):(dY lo x q).2.oZ=false:=by
 cases x with
 | put o=>rfl
 | cg=>rfl
 | take=>cases q<;>rfl
theorem Ygh (ap:List Dd->Option Nat):nx ap []=none:=rfl
theorem Kl (ap:List Dd->Option Nat) (l:List Dd) (r:List (List Dd)):nx ap (l::r)=if (ap l).isSome then some l else nx ap r:=by
 unfold nx;rw [List.find?_cons]
 cases (ap l).isSome<;>rfl
theorem Km {ap:List Dd->Option Nat} {Ls:List (List Dd)} {i:Nat} {l:List Dd} (h:Ls[i]?=some l):nx ap (Ls.drop i)=if (ap l).isSome then some l else nx ap (Ls.drop (i+1)):=by
 obtain ⟨hi,rfl⟩:=List.getElem?_eq_some_iff.mp h;rw [List.drop_eq_getElem_cons hi,Kl]
theorem six {n:Nat}:seqIndex? ((n:Nat):Int) (n+1)=some n:=by
 have h:¬ ((n:Nat):Int)<0:=by omega
 have h2:((n:Nat):Int)<((n+1:Nat):Int):=by omega
 simp only [seqIndex?,if_neg h];rw [if_pos (by simp;omega),Int.toNat_natCast]
theorem erl (f:Nat->V) (o:Nat) (r:List Nat):((o::r).map f).eraseIdx r.length=((o::r).dropLast).map f:=by
 rw [List.eraseIdx_eq_take_drop_succ,List.dropLast_eq_take,List.map_take,List.drop_eq_nil_of_le (by simp),List.append_nil];rfl
def rP (a c:Addr) (H H':Hp):Prop:=∀ b o,b≠a->b≠c->H b=some o->H' b=some o
theorem bK.ne {H:Hp} {lo:Int} {a c:Addr} {qu:List Nat} {n:Nat} (st:bK H lo a c qu n):a≠c:=fun z=>by
 have h:=st.ha;rw [z,st.hc] at h
 have h2:=HO.lst.inj (Option.some.inj h)
 match qu,h2 with
 | o::r,h2=>exact absurd (List.cons.inj h2).1 (by intro z;cases z)
structure pW (lo:Int):Prop where
 h:∀ o:Nat,o<=200->(lo+(o:Int)).natAbs.log2<1920
def YfH (fv vs:List V) (H:Hp) (Q:VK):Prop:=∃ (sl bd:Nat) (lo:Int) (a c:Addr) (qu:List Nat) (n:Nat) (v:V) (x:Dd),fv=[.int (sl:Nat),.int lo,.int (bd:Nat)]/\vs=[.ref a,v]/\bK H lo a c qu n/\Y1 H lo v x/\qu.length<=1000/\(∀ o∈qu,o<=200)/\pW lo /\
 ∀ T H',rP a c H H'->H T=none->H' T=some (.tup [.ref a,(dn sl bd lo x qu n).2.2.v])->bK H' lo a c (dn sl bd lo x qu n).1 (dn sl bd lo x qu n).2.1->Q (.ref T) H'
theorem Z1Z {k:Nat} {Z4 Z5 Z1 Z2 Z3 Z0:Addr} {f_ c_:Addr} {doc pm ctv:Value} {l:YE} (cG:g.mg "int"=none) (aK:g.mg "len"=none) (bO:g.mg "str"=none) (hl:l.map (·.1)=(["_law_slip","_law_low","_law_bound"]:List Str)) (hnd:l.as.Nodup):aY g.P g.w g.K g.mg g.base cB (k+1) f_ (ZB l.cl c_ doc pm ctv) ["_law_state","_law_deed"] (fun vs H Q _=>VF H f_ c_ (ZB l.cl c_ doc pm ctv) Zw l/\(YfH) l.vs vs (off H l.as) fun v H'=>(∀ c∈l.as,H' c=none)->Q v (on H' H l.as)):=by
 refine Yft (N:=["_law_state","_law_deed","_law_many","_law_slip","_law_low","_law_bound"]) (by rw [hl];exact Ji) hnd (fun vs H Q h=>by obtain ⟨sl,bd,lo,a,c,qu,n,v,x,jm,rfl,st,hd,hq,gH,hlo,q⟩:=h;rfl) fun A outer s H vs Q hr h=>?_
 obtain ⟨sl,bd,lo,a,c,qu,n,v,x,jm,rfl,st,hd,hq,gH,hlo,q⟩:=h;refine ⟨_,(@Yd _ _ _ _ _ (@Yr _ _ (2) _ _ _ _ Ji.nd rfl (.inl rfl) (@YH _ _ _ _ _ _ _ _ _ _ aK Yy (@Ya _ _ _ _ _ (@Ys _ _ _ _ _ _ _ YL (pv 0) Yh (fun _ _=>rfl)) Yb (by rfl)) (by decide +kernel) (by rfl) (by rfl) (by decide) (by decide) (by rfl) (by rfl)) (by rfl) (by first | exact .inl rfl | exact .inr rfl | assumption)) (@Yd _ _ _ _ _ (@Yu _ _ _ _ _ _ _ _ (@Yo _ _ _ _ _ _ _ _ YJ (@Ys _ _ _ _ _ _ _ YD (pv 1) Yh (fun _ _=>rfl)) YC (Yl _)) (@Yd _ _ _ _ _ (@Yu _ _ _ _ _ _ _ _ (@WB _ _ _ _ _ _ _ (@XR _ _ _ _ (@WB _ _ _ _ _ _ _ (@Yo _ _ _ _ _ _ _ _ YJ (pv 3) Yh (Yl _)) (@We _ _ _ _ (@Yo _ _ _ _ _ _ _ _ wJ (pv 2) (pv 5) (Yl _)))).pt) (@We _ _ _ _ (@XR _ _ _ _ (@WB _ _ _ _ _ _ _ (@Yo _ _ _ _ _ _ _ _ YJ (pv 3) Yh (Yl _)) (@We _ _ _ _ (@Yo _ _ _ _ _ _ _ _ YJ (@Ys _ _ _ _ _ _ _ YD (pv 1) Yh (fun _ _=>rfl)) (@Yt _ _ _ _ _ _ _ _ Xi (pv 4) (pv 5)) (Yl _)))).pt))).pt (@Ye _ _ _ (@Y4 _ _ _ _ (@Xp _ _ _ _ _ _ _ _ _ _ _ _ F.plainAttrs_list F.slot_list_append F.type_list_append Y7 (@Ys _ _ _ _ _ _ _ YL (pv 0) Yh (fun _ _=>rfl)) (@Ya _ _ _ _ _ (@Ys _ _ _ _ _ _ _ YD (pv 1) Yh (fun _ _=>rfl)) Yb (by rfl)) (by rfl) (by rfl) (by rfl) (by rfl) (by rfl)) (by rfl))) Yq) (@Ye _ _ _ (@Yn _ _ _ _ (@YO _ _ _ _ _ (@Ya _ _ _ _ _ (pv 0) (@Ya _ _ _ _ _ YW Yb (by rfl)) (by rfl)))))) Yq) (@Yd _ _ _ _ _ (@Yu _ _ _ _ _ _ _ _ (@Yo _ _ _ _ _ _ _ _ YJ (@Ys _ _ _ _ _ _ _ YD (pv 1) Yh (fun _ _=>rfl)) YC (Yl _)) (@Ye _ _ _ (@Yn _ _ _ _ (@YO _ _ _ _ _ (@Ya _ _ _ _ _ (pv 0) (@Ya _ _ _ _ _ (@Yt _ _ _ _ _ _ _ _ Xi (pv 2) (@XI _ _ _ _ _ _ _ _ _ _ cG Oz (@Ya _ _ _ _ _ (@XS _ _ _ _ _ _ _ (@Y2 _ _ _ _ _ _ _ _ YJ (pv 3) Yh (Yl _)) (@XB _ _ _ _ _ (@Y2 _ _ _ _ _ _ _ _ WX (pv 2) (pv 5) (Yl _)))) Yb (by rfl)) (by decide +kernel) (by rfl) (by rfl) (by decide) (by decide) (by rfl) (by rfl))) Yb (by rfl)) (by rfl))))) Yq) (@Yd _ _ _ _ _ (@Yu _ _ _ _ _ _ _ _ (@Yo _ _ _ _ _ _ _ _ YJ (pv 2) Yh (Yl _)) (@Ye _ _ _ (@Yn _ _ _ _ (@YO _ _ _ _ _ (@Ya _ _ _ _ _ (pv 0) (@Ya _ _ _ _ _ YW Yb (by rfl)) (by rfl))))) Yq) (@Yd _ _ _ _ _ (@QK _ _ _ _ _ _ (@Yt _ _ _ _ _ _ _ _ Xi (@Ys _ _ _ _ _ _ _ YL (pv 0) Yh (fun _ _=>rfl)) Yh) (@Od _ _ _ _ _ _ _ (pv 0) Yh PX (by intro _;rfl)) (by rfl) (by rfl) (by rfl)) (@Yd _ _ _ _ _ (@Yu _ _ _ _ _ _ _ _ (@WB _ _ _ _ _ _ _ (@Yo _ _ _ _ _ _ _ _ YJ (pv 3) Yh (Yl _)) (@We _ _ _ _ (@Yo _ _ _ _ _ _ _ _ WX (pv 2) (pv 5) (Yl _)))).pt (@Ye _ _ _ (@Yn _ _ _ _ (@YO _ _ _ _ _ (@Ya _ _ _ _ _ (pv 0) (@Ya _ _ _ _ _ (@Xp _ _ _ _ _ _ _ _ _ _ _ _ F.plainAttrs_list F.slot_list_pop F.type_list_pop Vk (@Ys _ _ _ _ _ _ _ YL (pv 0) Yh (fun _ _=>rfl)) (@Ya _ _ _ _ _ (@Yt _ _ _ _ _ _ _ _ Xz (pv 2) Yh) Yb (by rfl)) (by rfl) (by rfl) (by rfl) (by rfl) (by rfl)) Yb (by rfl)) (by rfl))))) Yq) (@Yd _ _ _ _ _ (@Yu _ _ _ _ _ _ _ _ (@WB _ _ _ _ _ _ _ (@Yo _ _ _ _ _ _ _ _ YJ (pv 3) Yh (Yl _)) (@We _ _ _ _ (@Yo _ _ _ _ _ _ _ _ WX (@Ys _ _ _ _ _ _ _ YL (pv 0) Yh (fun _ _=>rfl)) (pv 5) (Yl _)))).pt (@Ye _ _ _ (@Yn _ _ _ _ (@YO _ _ _ _ _ (@Ya _ _ _ _ _ (pv 0) (@Ya _ _ _ _ _ (@XI _ _ _ _ _ _ _ _ _ _ bO QN (@Ya _ _ _ _ _ (@Xp _ _ _ _ _ _ _ _ _ _ _ _ F.plainAttrs_list F.slot_list_pop F.type_list_pop Vk (@Ys _ _ _ _ _ _ _ YL (pv 0) Yh (fun _ _=>rfl)) (@Ya _ _ _ _ _ Yh Yb (by rfl)) (by rfl) (by rfl) (by rfl) (by rfl) (by rfl)) Yb (by rfl)) (by decide +kernel) (by rfl) (by rfl) (by decide) (by decide) (by rfl) (by rfl)) Yb (by rfl)) (by rfl))))) Yq) (@Ye _ _ _ (@Yn _ _ _ _ (@YO _ _ _ _ _ (@Ya _ _ _ _ _ (pv 0) (@Ya _ _ _ _ _ (@Xp _ _ _ _ _ _ _ _ _ _ _ _ F.plainAttrs_list F.slot_list_pop F.type_list_pop Vk (@Ys _ _ _ _ _ _ _ YL (pv 0) Yh (fun _ _=>rfl)) (@Ya _ _ _ _ _ Yh Yb (by rfl)) (by rfl) (by rfl) (by rfl) (by rfl) (by rfl)) Yb (by rfl)) (by rfl)))))))))))),?_⟩;rw [jm]
 show (_:TS) _ [some (.ref a),some v,none,some (.int (sl:Nat)),some (.int lo),some (.int (bd:Nat))] H
 have hac:a≠c:=st.ne;refine Ym fun R rr=>?_
 walk_at "rd";refine ⟨_,aG.of st.ha,_,Yk (j:=0) rfl,c,rfl,_,.inl (aG.of st.hc),rr _ _ (Ym fun R rr=>?_)⟩;rw [List.length_map];walk_at "rd"
 cases x with
 | put o =>
  obtain ⟨d,rfl,hd⟩:=hd;have sk:((sl=0/\bd<=qu.length)\/(sl=2/\o=bd))->∀ p,H p=none->Q (.ref p) (upd H p (.tup [.ref a,.non])):=fun h p gp=>by
   have sp:=Yf.aF gp (.tup [.ref a,.non]);refine q p _ (fun b u _ _ e=>sp _ _ e) gp Yc ?_;simp only [dn,if_pos h];exact ⟨sp _ _ st.ha,sp _ _ st.hc⟩
  have ad:¬ ((sl=0/\bd<=qu.length)\/(sl=2/\o=bd))->∀ p,upd H c (.lst ((qu.map fun (o:Nat)=>V.int (lo+(o:Nat)))++[.int (lo+o)])) p=none->Q (.ref p) (upd (upd H c (.lst ((qu.map fun (o:Nat)=>V.int (lo+(o:Nat)))++[.int (lo+o)]))) p (.tup [.ref a,.non])):=fun h p gp=>by
   have sp:=Yf.aF gp (.tup [.ref a,.non]);refine q p _ (fun b u _ nb e=>sp _ _ (by rw [Yg nb];exact e)) (Xa gp) Yc ?_;simp only [dn,if_neg h];refine ⟨sp _ _ (by rw [Yg hac];exact st.ha),sp _ _ ?_⟩;rw [Yc,List.map_append];rfl
  refine ⟨d,rfl,_,aJ.of hd,_,Yk (j:=0) rfl,rfl,YU rfl ?_⟩;by_cases c0:sl=0
  ·refine YU (by omega) ?_
   by_cases c1:bd<=qu.length
   ·exact YA (by omega) ⟨few (by decide),sk (.inl ⟨c0,c1⟩)⟩
   ·refine YU (by omega) (YA (by omega) ?_)
    exact ⟨_,aG.of st.ha,_,Yk (j:=0) rfl,.inl ⟨rfl,_,aG.of st.hc⟩,d,rfl,_,aJ.of hd,_,Yk (j:=1) rfl,c,rfl,_,st.hc,few (by simp;omega),few (by decide),ad (by omega)⟩
  ·refine YA (by omega) ?_
   by_cases c2:sl=2
   ·refine YU (by omega) ⟨d,rfl,_,aJ.of hd,_,Yk (j:=1) rfl,rfl,?_⟩
    by_cases c3:o=bd
    ·exact YA (by rw [c3];exact fun h=>h rfl) ⟨few (by decide),sk (.inr ⟨c2,c3⟩)⟩
    ·exact YU (fun h=>c3 (by have:=V.int.inj h;omega)) ⟨_,aG.of st.ha,_,Yk (j:=0) rfl,.inl ⟨rfl,_,aG.of st.hc⟩,d,rfl,_,aJ.of hd,_,Yk (j:=1) rfl,c,rfl,_,st.hc,few (by simp;omega),few (by decide),ad (by omega)⟩
   ·exact YA (by omega) ⟨_,aG.of st.ha,_,Yk (j:=0) rfl,.inl ⟨rfl,_,aG.of st.hc⟩,d,rfl,_,aJ.of hd,_,Yk (j:=1) rfl,c,rfl,_,st.hc,few (by simp;omega),few (by decide),ad (by omega)⟩
 | cg =>
  obtain ⟨d,b,rfl,hd,hb⟩:=hd;refine ⟨d,rfl,_,aJ.of hd,_,Yk (j:=0) rfl,rfl,YA (by decide +kernel) (rr _ _ ?_)⟩;have fin:∀ i:Int,i=(if sl=3/\bd<qu.length then 1 else 0)->∀ p,H p=none->Q (.ref p) (upd H p (.tup [.ref a,.int ((qu.length:Nat)+i)])):=fun i hi p gp=>by
   have sp:=Yf.aF gp (.tup [.ref a,.int ((qu.length:Nat)+i)]);subst hi;exact q p _ (fun b u _ _ e=>sp _ _ e) gp Yc ⟨sp _ _ st.ha,sp _ _ st.hc⟩
  walk_at "rd";refine ⟨_,aJ.of hd,_,Yk (j:=0) rfl,rfl,YU rfl ?_⟩;by_cases c0:sl=3
  ·refine YU (by omega) (.inr ⟨few (by decide),fin _ ?_⟩)
   by_cases c1:bd<qu.length
   ·rw [if_pos (by omega),if_pos ⟨c0,c1⟩]
   ·rw [if_neg (by omega),if_neg (by omega)]
  ·exact YA (by omega) (.inr ⟨few (by decide),fin _ (by rw [if_neg (by omega)])⟩)
 | take =>
  obtain ⟨d,b,rfl,hd,hb⟩:=hd;refine ⟨d,rfl,_,aJ.of hd,_,Yk (j:=0) rfl,rfl,YA (by decide +kernel) (rr _ _ (Ym fun R rr=>?_))⟩;walk_at "rd";refine ⟨_,aJ.of hd,_,Yk (j:=0) rfl,rfl,YA (by decide +kernel) (rr _ _ (Ym fun R rr=>?_))⟩;walk_at "rd"
  match qu,st,q,hq,gH,rr with
  | [],st,q,hq,gH,rr =>
   refine YU rfl ⟨few (by decide),fun p gp=>?_⟩;have sp:=Yf.aF gp (.tup [.ref a,.non]);exact q p _ (fun b u _ _ e=>sp _ _ e) gp Yc ⟨sp _ _ st.ha,sp _ _ st.hc⟩
  | o::r,st,q,hq,gH,rr =>
   refine YA (by simp;omega) (rr _ _ (Ym fun R rr=>?_));walk_at "rd";refine ⟨_,aG.of st.ha,_,Yk (j:=1) rfl,_,rfl,_,st.ha,1,rfl,rr _ _ ?_⟩;have st1:bK (upd H a (.lst [.ref c,.int ((n+1:Nat):Int)])) lo a c (o::r) (n+1):=⟨Yc,by rw [Yg (Ne.symm hac)];exact st.hc⟩;have e1:upd H a (.lst ([V.ref c,V.int (n:Nat)].set 1 (V.int ((n:Nat)+1))))=upd H a (.lst [.ref c,.int ((n+1:Nat):Int)]):=rfl;rw [e1];generalize hH1:upd H a (.lst [.ref c,.int ((n+1:Nat):Int)])=H1 at st1;have bt:rP a c H H1:=fun b u nb _ e=>by rw [<- hH1,Yg nb];exact e
   have fr:∀ {b:Addr},H1 b=none->H b=none:=fun {b} e=>by rw [<- hH1] at e;exact Xa e
   have fin:∀ (vA:List Nat) (an:An),dn sl bd lo .take (o::r) n=(vA,n+1,an)->∀ p,upd H1 c (.lst (vA.map fun (o:Nat)=>V.int (lo+(o:Nat)))) p=none->Q (.ref p) (upd (upd H1 c (.lst (vA.map fun (o:Nat)=>V.int (lo+(o:Nat))))) p (.tup [.ref a,an.v])):=fun vA an e p gp=>by
    have sp:=Yf.aF gp (.tup [.ref a,an.v]);rw [e] at q
    exact q p _ (fun b u nb nc e=>sp _ _ (by rw [Yg nc];exact bt b u nb nc e)) (fr (Xa gp)) Yc ⟨sp _ _ (by rw [Yg hac];exact st1.ha),sp _ _ Yc⟩
   clear hH1;have hl1:=st1.hc;have Bk:∀ (R:VK),R (.int (lo+(o:Nat))) (upd H1 c (.lst (r.map fun (o:Nat)=>V.int (lo+(o:Nat)))))->Gz (.ref c) [.int 0] H1 R:=fun R hR=>⟨c,_,0,0,.int (lo+(o:Nat)),rfl,rfl,hl1,by decide,by decide,by simp [seqIndex?],rfl,hR⟩
   have lst:r.length+1<=1000:=by simpa using hq
   refine Ym fun R rr=>?_
   walk_at "rd";have go:¬ (sl=1/\bd<r.length+1)->R [some (.ref a),some (.ref d),some (.int ((r.length+1:Nat):Int)),some (.int (sl:Nat)),some (.int lo),some (.int (bd:Nat))] H1:=fun h1=>rr _ _ (by
    refine Ym fun R rr=>?_
    have e0:¬ (sl=4/\bd<n+1)->dn sl bd lo .take (o::r) n=(r,n+1,.int (lo+(o:Nat))):=fun h4=>by
     show (if sl=1/\bd<(o::r).length then _ else _)=_
     rw [if_neg (show ¬ (sl=1/\bd<(o::r).length) from h1),if_neg h4]
    have go2:¬ (sl=4/\bd<n+1)->R [some (.ref a),some (.ref d),some (.int ((r.length+1:Nat):Int)),some (.int (sl:Nat)),some (.int lo),some (.int (bd:Nat))] H1:=fun h4=>rr _ _ (by
     walk_at "rd";exact ⟨_,aG.of st1.ha,_,Yk (j:=0) rfl,.inl ⟨rfl,_,aG.of st1.hc⟩,Bk _ ⟨few (by decide),fin _ _ (e0 h4)⟩⟩)
    walk_at "rd";by_cases c4:sl=4
    ·refine YU (by omega) ⟨_,aG.of st1.ha,_,Yk (j:=1) rfl,_,rfl,?_⟩
     by_cases c5:bd<n+1
     ·refine YU (by omega) ⟨_,aG.of st1.ha,_,Yk (j:=0) rfl,.inl ⟨rfl,_,aG.of st1.hc⟩,Bk _ ⟨_,rfl,hlo.h o (gH o (List.mem_cons_self ..)),few (by decide),fin r (.str (toString (lo+(o:Nat)))) ?_⟩⟩
      show (if sl=1/\bd<(o::r).length then _ else _)=_
      rw [if_neg (show ¬ (sl=1/\bd<(o::r).length) from h1),if_pos ⟨c4,c5⟩]
     ·exact YA (by omega) (go2 (by omega))
    ·exact YA (by omega) (go2 (by omega)))
   by_cases c1:sl=1
   ·refine YU (by omega) ?_
    by_cases c2:bd<r.length+1
    ·refine YU (by omega) ⟨_,aG.of st1.ha,_,Yk (j:=0) rfl,.inl ⟨rfl,_,aG.of st1.hc⟩,c,_,_,r.length,.int (lo+(((o::r).getLastD 0:Nat):Int)),rfl,rfl,hl1,by omega,by omega,?_,?_,few (by decide),?_⟩
     ·rw [show ((r.length+1:Nat):Int) - 1=(r.length:Nat) by omega,List.length_map,List.length_cons]
      exact six
     ·rw [List.getElem?_map]
      have:(o::r)[r.length]?=some ((o::r).getLastD 0):=by
       rw [List.getLastD_eq_getLast?,List.getLast?_eq_getElem?];simp
      rw [this];rfl
     ·have e:=fin (o::r).dropLast (.int (lo+(((o::r).getLastD 0:Nat):Int))) (by
       show (if sl=1/\bd<(o::r).length then _ else _)=_
       rw [if_pos ⟨c1,c2⟩])
      rw [<- erl] at e
      exact e
    ·exact YA (by omega) (go (by omega))
   ·exact YA (by omega) (go (by omega))
def NL (H H':Hp):Prop:=(∀ b xs,H b=some (.tup xs)->H' b=some (.tup xs))/\∀ b φ,H b=some (.ext φ)->H' b=some (.ext φ)
theorem NL.trans {H H1 H2:Hp} (a:NL H H1) (b:NL H1 H2):NL H H2:=⟨fun c o e=>b.1 c o (a.1 c o e),fun c o e=>b.2 c o (a.2 c o e)⟩
theorem XL {H H':Hp} (s:Yf H H'):NL H H':=⟨fun b o e=>s b _ e,fun b o e=>s b _ e⟩
theorem Kt.nl {H H':Hp} (h:Kt H H'):NL H H':=⟨fun b xs e=>h b _ (by intro ps z;cases z) e,fun b φ e=>h b _ (by intro ps z;cases z) e⟩
theorem Vi {H H':Hp} {P:Addr} {ps:Array Value} (hk:∀ a o,a≠P->H a=some o->H' a=some o) (hP:H P=some (.aU ps)):Kt H H':=fun c o n e=>hk c o (YG e hP (n _)) e
theorem V0 {H H':Hp} {f c:Addr} {fd:FuncData} {q:Str} {l:YE} (h:VF H f c fd q l) (n:NL H H'):VF H' f c fd q l :=
 ⟨n.2 _ _ h.1,n.2 _ _ h.2.1,fun p hp=>n.2 _ _ (h.2.2 p hp)⟩
theorem Y1.off {H:Hp} {l:YE} (hin:∀ p∈l,H p.2.1=some (Wz p.2.1 p.2.2)) {lo:Int} {v:V} {x:Dd} (h:Y1 H lo v x):Y1 (off H l.as) lo v x:=h.tp fun a vs e=>VU hin e
abbrev Bl (g:Gx) (j:Nat) (f:Addr) (fd:FuncData) (ps:List Str) (sp:Sp):Prop:=aY g.P g.w g.K g.mg g.base cB j f fd ps sp/\∀ us:List Value,us.length=ps.length->bindArgs fd ⟨us,[]⟩=pure (ps.zip us)
def XD (g:Gx) (H:Hp) (f:Addr) (sl bd:Nat) (lo:Int):Prop:=∃ fd sp,Bl g 10 f fd ["_law_state","_law_deed"] sp/\H f=some (bZ f fd) /\
 ∀ (H1:Hp) (a c:Addr) (qu:List Nat) (n:Nat) (v:V) (x:Dd) (Q:VK),NL H H1->bK H1 lo a c qu n->Y1 H1 lo v x->qu.length<=1000->(∀ o∈qu,o<=200) ->
  (∀ T H',rP a c H1 H'->H1 T=none->H' T=some (.tup [.ref a,(dn sl bd lo x qu n).2.2.v])->bK H' lo a c (dn sl bd lo x qu n).1 (dn sl bd lo x qu n).2.1->Q (.ref T) H')->H1 f=some (bZ f fd)/\sp [.ref a,v] H1 Q E0
theorem XD.nl {g:Gx} {H H':Hp} {f:Addr} {sl bd:Nat} {lo:Int} (h:XD g H f sl bd lo) (n:NL H H'):XD g H' f sl bd lo:=by
 obtain ⟨fd,sp,h1,h2,h3⟩:=h;exact ⟨fd,sp,h1,n.2 _ _ h2,fun H1 a c qu m v x Q n1=>h3 H1 a c qu m v x Q (n.trans n1)⟩
abbrev d7 (x1 x2 x3:Addr) (sl bd:Nat) (lo:Int):YE:=[("_law_slip",x1,.int (sl:Nat)),("_law_low",x3,.int lo),("_law_bound",x2,.int (bd:Nat))]
theorem Ycj {g:Gx} {H:Hp} {f c x1 x2 x3:Addr} {sl bd:Nat} {lo:Int} {doc pm ctv:Value} (b1:g.mg "int"=none) (b2:g.mg "len"=none) (b3:g.mg "str"=none) (nd:(d7 x1 x2 x3 sl bd lo).as.Nodup) (hlo:pW lo)
  (h:VF H f c (ZB (d7 x1 x2 x3 sl bd lo).cl c doc pm ctv) Zw (d7 x1 x2 x3 sl bd lo)):XD g H f sl bd lo:=by
 have F:=Z1Z (g:=g) (k:=9) (Z4:=0) (Z5:=0) (Z1:=0) (Z2:=0) (Z3:=0) (Z0:=0) (f_:=f) (c_:=c) (doc:=doc) (pm:=pm) (ctv:=ctv) (l:=d7 x1 x2 x3 sl bd lo) b1 b2 b3 rfl nd;refine ⟨_,_,⟨F,fun us hl=>?_⟩,h.1,fun H1 a c' qu n v x Q n1 st hd hq gH hk=>?_⟩
 ·match us,hl with
  | [_,_],_=>rfl
 ·have hin:=(V0 h n1).2.2
  refine ⟨(V0 h n1).1,V0 h n1,sl,bd,lo,a,c',qu,n,v,x,rfl,rfl,⟨WO hin st.ha (by intro φ z;cases z),WO hin st.hc (by intro φ z;cases z)⟩,hd.off hin,hq,gH,hlo,fun T H' b2 gT hT st' hc=>?_⟩;have out:∀ {a:Addr} {o:HO},H' a=some o->a∉(d7 x1 x2 x3 sl bd lo).as:=fun e hm=>by rw [hc _ hm] at e;cases e
  refine hk T _ (fun b o h1 h2 e=>?_) (by rw [YS (out hT)] at gT;exact gT) (by rw [Xd (out hT)];exact hT) ⟨by rw [Xd (out st'.ha)];exact st'.ha,by rw [Xd (out st'.hc)];exact st'.hc⟩;by_cases hb:b∈(d7 x1 x2 x3 sl bd lo).as
  ·rw [VT hb];exact e
  ·rw [Xd hb];exact b2 b o h1 h2 (by rw [YS hb];exact e)
inductive j6 (g:Gx) (P:Addr) (vs:List V) (H:Hp) (Q:VK) (E_:XK):Prop
 | mk (sl bd:Nat) (lo:Int) (h0:vs=[.int (sl:Nat),.int (bd:Nat),.int lo]) (h1:pW lo) (h2:H P=some (.aU #[])) (h3:∀ f H',XD g H' f sl bd lo->(∀ a o,a≠P->H a=some o->H' a=some o)->Q (.ref f) H')
theorem Ydx {g:Gx} {H H3:Hp} {P f cf x1 x2 x3:Addr} {sl bd:Nat} {lo:Int} {doc pm ctv:Value} (b1:g.mg "int"=none) (b2:g.mg "len"=none) (b3:g.mg "str"=none) (nd:(d7 x1 x2 x3 sl bd lo).as.Nodup) (hlo:pW lo)
  (kf:H3 f=some (bZ f (ZB (d7 x1 x2 x3 sl bd lo).cl cf doc pm ctv))) (kcf:H3 cf=some (eN cf Zw)) (keep:∀ a o,a≠P->H a=some o->H3 a=some o) (hc:∀ c∈(d7 x1 x2 x3 sl bd lo).as,H3 c=none) :
  XD g (lay H3 (d7 x1 x2 x3 sl bd lo)) f sl bd lo/\∀ a o,a≠P->H a=some o->lay H3 (d7 x1 x2 x3 sl bd lo) a=some o:=by
 have hin:=Q2 (H:=H3) nd;have out:∀ {a:Addr} {o:HO},H3 a=some o->lay H3 (d7 x1 x2 x3 sl bd lo) a=some o:=fun {a o} e=>by
  rw [WP fun hm=>?_]
  ·exact e
  ·rw [hc a hm] at e;cases e
 exact ⟨Ycj b1 b2 b3 nd hlo ⟨out kf,out kcf,hin⟩,fun a o h1 h2=>out (keep a o h1 h2)⟩
theorem Yao {Z4 Z5 Z1 Z2 Z3 Z0:Addr} {aq ao:Addr} {ak aj:Addr} {aA au:Addr} (R:g.dI "_law_thing" "_law_thing" um ["_law_slip","_law_bound","_law_low"] aA) (bm:Bm g.mg g.base) (j7:W.CodeHd g.base aA au) (cG:g.mg "int"=none) (aK:g.mg "len"=none) (bO:g.mg "str"=none):g.Fn (1) "_law_thing" ["_law_slip","_law_bound","_law_low"] (j6 g au):=by
 refine R.Ie Jf (fun vs H Q E h=>by obtain ⟨sl,bd,lo,rfl,hlo,ht,q⟩:=h;rfl) fun f_ A outer s H vs Q E hr h=>?_
 obtain ⟨sl,bd,lo,rfl,hlo,ht,q⟩:=h;refine ⟨_,(@Yfu _ _ _ _ _ (@Yf1 _ _ _ _ _ _ _ _ _ _ 3 bm j7 rfl rfl Jf.nd rfl (.inl rfl) (Eq.trans rfl W8) rfl rfl rfl (.inr rfl)) (@HX _ _ _ _ (pv 3))),?_⟩;have Ko:∀ n:Nat,(d7 (n+1) (n+1+1) (n+1+1+1) sl bd lo).as.Nodup:=fun n=>by
  show List.Nodup [n+1,n+1+1+1,n+1+1]
  simp
 refine ⟨_,ht,trivial,.inl ⟨rfl,fun b cb fb g1 g2 g3 ⟨afy,pm1,afz,e1⟩=>?_⟩⟩;subst e1;have bP:=Yj ht g1;have cP:=Yj ht g2;refine ⟨d7 (s.heap.objs.size+1) (s.heap.objs.size+1+1) (s.heap.objs.size+1+1+1) sl bd lo,⟨Ko _,fun z hz=>?_⟩,fun hc=>?_⟩
 ·simp only [List.mem_cons,List.not_mem_nil,or_false] at hz
  rcases hz with rfl | rfl | rfl
  ·exact ⟨0,rfl,rfl,rfl,rfl⟩
  ·exact ⟨2,rfl,rfl,rfl,rfl⟩
  ·exact ⟨1,rfl,rfl,rfl,rfl⟩
 ·obtain ⟨r1,r2⟩:=Ydx (H:=H) (P:=au) (f:=b) (cf:=cb) cG aK bO (Ko _) hlo (by rw [Yc];rfl) (by rw [Yg (Ne.symm g3),Yc]) (fun a o h1 h2=>by rw [Yg (Yj h2 g1),Yg (Yj h2 g2),Yg h1];exact h2) hc
  exact q b _ r1 r2
inductive fZ (g:Gx) (vs:List V) (H:Hp) (Q:VK) (E_:XK):Prop
 | mk (b1 f1 b2 f2 D:Addr) (sl bd:Nat) (lo:Int) (us:List V) (xs:List Dd) (h0:vs=[.ref b1,.ref f1,.ref b2,.ref f2,.ref D]) (h1:g.fL 2 b1 [] XX) (h2:XD g H f1 sl bd lo) (h3:g.fL 2 b2 [] XX) (h4:g.fL 2 f2 ["_law_state","_law_deed"] (dZ g.K)) (h5:H D=some (.lst us)) (h6:YV H lo us xs) (h7:xs.length<=100) (h8:(∀ x∈xs,bN x)) (h9:∀ H',Yf H H'->Q (dv (bU sl bd lo xs)) H')
inductive Kq (H:Hp) (lo:Int) (sl bd:Nat) (xs:List Dd) (a c a' c':Addr) (i:Nat) (H':Hp):Prop
 | mk (qu p:List Nat) (n m:Nat) (sm:Yf H H') (st:bK H' lo a c qu n) (st':bK H' lo a' c' p m) (h1:qu.length<=i) (h2:p.length<=i) (h3:∀ o∈qu,o<=200) (e:bU sl bd lo xs=Wc sl bd lo (xs.drop i) qu n p i)
theorem Yeu {k:Nat} {Z4 Z5 Z1 Z2 Z3 Z0:Addr} {aq ao:Addr} {ak aj:Addr} {aA au:Addr} (R:g.Raw "apart" "apart" U3 ["begin","done","model_begin","model_done","deeds"]) (ZA:g.Fn k "copied" ["thing"] (dW 4)) (Bo:g.Fn k "same" ["one","other"] (mX)) (hkv:2<=k) (hkc:10<=k) (Zp:g.mg "enumerate"=none):g.Fn (k+1) "apart" ["begin","done","model_begin","model_done","deeds"] (fZ g):=by
 refine R.fn ZY (fun vs H Q E h=>by obtain ⟨b1,f1,b2,f2,D,sl,bd,lo,us,xs,rfl,hb1,hf1,hb2,hf2,hD,al,hl,hk,q⟩:=h;rfl) fun f_ cdv A outer s H vs Q E hr h=>?_
 obtain ⟨b1,f1,b2,f2,D,sl,bd,lo,us,xs,rfl,hb1,hf1,hb2,hf2,hD,al,hl,hk,q⟩:=h;refine ⟨_,(@Yd _ _ _ _ _ (@Yr _ _ (5) _ _ _ _ ZY.nd rfl (.inl rfl) (@Qk _ (g) _ (2) _ _ _ 0 hr (by omega) (by rfl) (by rfl) (by first | exact .inl rfl | exact .inr (.inl rfl) | exact .inr (.inr rfl)) (by decide) (by decide)) (by rfl) (by first | exact .inl rfl | exact .inr rfl | assumption)) (@Yd _ _ _ _ _ (@Yr _ _ (6) _ _ _ _ ZY.nd rfl (.inl rfl) (@Qk _ (g) _ (2) _ _ _ 2 hr (by omega) (by rfl) (by rfl) (by first | exact .inl rfl | exact .inr (.inl rfl) | exact .inr (.inr rfl)) (by decide) (by decide)) (by rfl) (by first | exact .inl rfl | exact .inr rfl | assumption)) (@Yd _ _ _ _ _ (@Xo _ _ _ _ _ _ _ _ PassesOwn.never rfl (@Ud _ _ _ _ _ _ _ _ rfl Zp (@Ya _ _ _ _ _ (pv 4) Yb (by rfl)) (by rfl)) (@Wl _ _ _ _ _ (2) rfl (@Y5 _ _ _ _ _ (@Yz _ _ (7) _ ZY.nd rfl (.inl rfl) (by first | exact .inl rfl | exact .inr rfl | assumption)) (@Y5 _ _ _ _ _ (@Yz _ _ (8) _ ZY.nd rfl (.inl rfl) (by first | exact .inl rfl | exact .inr rfl | assumption)) XZ (by rfl)) (by rfl)) (by rfl) (by rfl)) (@Yd _ _ _ _ _ (@Yr _ _ (9) _ _ _ _ ZY.nd rfl (.inl rfl) (@Wu _ (g) _ (10) _ _ _ _ _ _ 1 hr (@Ya _ _ _ _ _ (pv 5) (@Ya _ _ _ _ _ (@Yv _ _ _ _ _ _ _ _ _ _ _ _ ZA hr (@Ya _ _ _ _ _ (pv 8) Yb (by rfl)) (by omega) (by rfl) (by rfl) (by decide) (by rfl) (by rfl)) Yb (by rfl)) (by rfl)) (by omega) (by rfl) (by rfl) (by first | exact .inl rfl | exact .inr (.inl rfl) | exact .inr (.inr rfl)) (by decide) (by decide) (by rfl) (by rfl)) (by rfl) (by first | exact .inl rfl | exact .inr rfl | assumption)) (@Yd _ _ _ _ _ (@Yr _ _ (10) _ _ _ _ ZY.nd rfl (.inl rfl) (@Yd1 _ (g) _ (2) _ _ _ _ _ _ 3 hr (@Ya _ _ _ _ _ (pv 6) (@Ya _ _ _ _ _ (@Yv _ _ _ _ _ _ _ _ _ _ _ _ ZA hr (@Ya _ _ _ _ _ (pv 8) Yb (by rfl)) (by omega) (by rfl) (by rfl) (by decide) (by rfl) (by rfl)) Yb (by rfl)) (by rfl)) (by omega) (by rfl) (by rfl) (by first | exact .inl rfl | exact .inr (.inl rfl) | exact .inr (.inr rfl)) (by decide) (by decide) (by rfl) (by rfl)) (by rfl) (by first | exact .inl rfl | exact .inr rfl | assumption)) (@Yd _ _ _ _ _ (@Yu _ _ _ _ _ _ _ _ (@XR _ _ _ _ (@Xh _ _ _ (@Yv _ _ _ _ _ _ _ _ _ _ _ _ Bo hr (@Ya _ _ _ _ _ (@Ys _ _ _ _ _ _ _ YD (pv 9) Yh (fun _ _=>rfl)) (@Ya _ _ _ _ _ (@Ys _ _ _ _ _ _ _ YD (pv 10) Yh (fun _ _=>rfl)) Yb (by rfl)) (by rfl)) (by omega) (by rfl) (by rfl) (by decide) (by rfl) (by rfl)) (by intro _;rfl))) (@Ye _ _ _ (@Yn _ _ _ _ (pv 7))) Yq) (@Yd _ _ _ _ _ (@Yr _ _ (5) _ _ _ _ ZY.nd rfl (.inl rfl) (@Ys _ _ _ _ _ _ _ YD (pv 9) Yh (fun _ _=>rfl)) (by rfl) (by first | exact .inl rfl | exact .inr rfl | assumption)) (@Ye _ _ _ (@Yr _ _ (6) _ _ _ _ ZY.nd rfl (.inl rfl) (@Ys _ _ _ _ _ _ _ YD (pv 10) Yh (fun _ _=>rfl)) (by rfl) (by first | exact .inl rfl | exact .inr rfl | assumption))))))) (by intro _;rfl)) (@Ye _ _ _ (@Yn _ _ _ _ YW))))),?_⟩;obtain ⟨Bp,s1,ok1,rQ,hj1⟩:=hf1;have ul:=al.1;refine Ym fun R rr=>?_
 walk_at "rd";refine ⟨b1,[],_,rfl,hb1,?_⟩;refine ⟨rfl,fun _ a c H1 w1 ga gc st=>rr _ _ (Ym fun R rr=>?_)⟩;walk_at "rd";refine ⟨b2,[],_,rfl,hb2,?_⟩;refine ⟨rfl,fun _ a' c' H2 w2 j8 j9 st'=>rr _ _ (Ym fun R rr=>?_)⟩;have st1:bK H1 lo a c [] 0:=⟨st.ha,st.hc⟩;have st2:bK H2 lo a' c' [] 0:=⟨st'.ha,st'.hc⟩;have n1:a≠a':=Yj st1.ha j8;have n2:a≠c':=Yj st1.ha j9;have n3:c≠a':=Yj st1.hc j8;have n4:c≠c':=Yj st1.hc j9;have fa':=w1.free j8;have Bq:=w1.free j9;refine Vm (K:=g.K) (a:=D) (xs:=us) (fun i σ H'=>(∃ o7 o8 o9 Br,σ=[some (.ref b1),some (.ref f1),some (.ref b2),some (.ref f2),some (.ref D),some (.ref a),some (.ref a'),o7,o8,o9,Br])/\Kq H lo sl bd xs a c a' c' i H') (fun R r=>by walk_at "rd";exact r) ⟨⟨_,_,_,_,rfl⟩,⟨[],[],0,0,w1.trans w2,⟨w2 _ _ st1.ha,w2 _ _ st1.hc⟩,st2,Nat.le_refl _,Nat.le_refl _,(fun o h=>by cases h),rfl⟩⟩ (fun i σ H' _ ⟨_,⟨_,_,_,_,sm,_,_,_,_,_,_⟩⟩=>aG.of (sm _ _ hD)) ?_ ?_
 ·rintro i v σ H' T hx ⟨⟨o7,o8,o9,Br,rfl⟩,⟨qu,p,n,m,sm,sa,sb,h1,h2,h3,e⟩⟩ hT
  have hi:=(List.getElem?_eq_some_iff.mp hx).1;have hxi:xs[i]?=some (xs[i]'(by omega)):=List.getElem?_eq_getElem _;generalize xs[i]'(by omega)=x at hxi;have hd:=al.2 i v x hx hxi;have kx:=hk x (List.mem_of_getElem? hxi);rw [Ke hxi] at e
  have sT:=Yf.aF hT (.tup [.int (i:Int),v]);have sA:=sm.trans sT;refine ⟨T,_,rfl,aJ.of Yc,rfl,_,_,rfl,_,_,rfl,rfl,Ym fun R rr=>?_⟩;walk_at "rd";refine ⟨f1,Bp,_,s1,rfl,ok1.1,ok1.2,sA _ _ rQ,?_⟩;walk_at "rd";refine ⟨v,lo,.dd x,rfl,(hd.tp (YR (Yx sA))).cq,trivial,by simp [dep],by simp [dep],fun v1 H3 s3 lY _ hv1=>?_⟩;have hc1:=Bf hv1;have sB:=sA.trans s3;have sa3:bK H3 lo a c qu n:=⟨s3 _ _ (sT _ _ sa.ha),s3 _ _ (sT _ _ sa.hc)⟩;have Bs:bK H3 lo a' c' p m:=⟨s3 _ _ (sT _ _ sb.ha),s3 _ _ (sT _ _ sb.hc)⟩;refine hj1 H3 a c qu n v1 x _ (XL sB) sa3 hc1 (by omega) h3 fun T1 H4 b4 Bt hT1 pX=>rr _ _ (Ym fun R rr=>?_)
  have sC:Yf H H4:=fun b o e=>b4 b o (Yj e ga) (Yj e gc) (sB _ _ e)
  have vB:bK H4 lo a' c' p m:=⟨b4 _ _ (Ne.symm n1) (Ne.symm n3) Bs.ha,b4 _ _ (Ne.symm n2) (Ne.symm n4) Bs.hc⟩;walk_at "rd";refine ⟨f2,_,_,rfl,hf2,?_⟩;walk_at "rd";refine ⟨v,lo,.dd x,rfl,(hd.tp (YR (Yx sC))).cq,trivial,by simp [dep],by simp [dep],fun v2 H5 s5 iW _ hv2=>?_⟩;have hc2:=Bf hv2;refine ⟨lo,a',c',p,m,v2,x,rfl,⟨s5 _ _ vB.ha,s5 _ _ vB.hc⟩,hc2,by omega,fun T2 H6 b6 Ac hT2 Bu=>rr _ _ (Ym fun R rr=>?_)⟩;have k6:∀ b o,b≠c'->H4 b=some o->H6 b=some o:=fun b o nb e=>b6 b o nb (s5 _ _ e)
  have sD:Yf H H6:=fun b o e=>k6 b o (Yj e Bq) (sC _ _ e)
  have Bv:bK H6 lo a c (dn sl bd lo x qu n).1 (dn sl bd lo x qu n).2.1:=⟨k6 _ _ n2 pX.ha,k6 _ _ n4 pX.hc⟩;have Bw:H6 T1=some (.tup [.ref a,(dn sl bd lo x qu n).2.2.v]):=k6 _ _ (fun z=>by rw [z,Bs.hc] at Bt;cases Bt) hT1;walk_at "rd";refine ⟨_,aJ.of Bw,_,Yk (j:=1) rfl,_,aJ.of hT2,_,Yk (j:=1) rfl,(dn sl bd lo x qu n).2.2,(dY lo x p).2,rfl,?_⟩
  cases hs:(dn sl bd lo x qu n).2.2.eq (dY lo x p).2 with
  | false =>
   rw [hs,if_neg (by decide)] at e
   have:=q H6 sD;rw [e] at this
   exact ⟨_,rfl,YU rfl this⟩
  | true =>
   rw [hs,if_pos rfl] at e
   refine ⟨_,rfl,YA (by decide) (rr _ _ ?_)⟩;walk_at "rd";refine ⟨_,aJ.of Bw,_,Yk (j:=0) rfl,_,aJ.of hT2,_,Yk (j:=0) rfl,?_⟩;refine ⟨rfl,rfl,_,_,_,_,sD,Bv,Bu,?_,?_,Kg h3 kx,e⟩
   ·have:=Kf sl bd lo x qu n;omega
   ·have:=Kh lo x p;omega
 ·rintro σ H' ⟨⟨o7,o8,o9,Br,rfl⟩,⟨qu,p,n,m,sm,sa,sb,h1,h2,h3,e⟩⟩
  refine rr _ _ ?_;walk_at "rd";have:=q H' sm;rw [e,List.drop_eq_nil_of_le (by omega)] at this
  exact this
inductive gJ (g:Gx) (vs:List V) (H:Hp) (Q:VK) (E_:XK):Prop
 | mk (f1 D:Addr) (sl bd:Nat) (lo:Int) (us:List V) (xs:List Dd) (h0:vs=[.ref f1,.ref D]) (h1:XD g H f1 sl bd lo) (h2:H D=some (.lst us)) (h3:YV H lo us xs) (h4:xs.length<=100) (h5:(∀ x∈xs,bN x)) (h6:∀ H',Yf H H'->Q (dv (bU sl bd lo xs)) H')
theorem Yap {k:Nat} {Z4 Z5 Z1 Z2 Z3 Z0:Addr} {aq ao:Addr} {ak aj:Addr} {aA au:Addr} (R:g.Raw "_law_place" "_law_place" zp ["_law_done","_law_deeds"]) (Zo:g.Fn k "_law_begin" [] (XX)) (ZC:g.Fn k "_law_model" ["_law_state","_law_deed"] (dZ g.K)) (kj:g.Fn k "_law_differ" ["_law_one","_law_other"] (pU)) (hkc:10<=k) (aK:g.mg "len"=none) (Zl:g.mg "range"=none):g.Fn (k+1) "_law_place" ["_law_done","_law_deeds"] (gJ g):=by
 refine R.fn ZD (fun vs H Q E h=>by obtain ⟨f1,D,sl,bd,lo,us,xs,rfl,hf1,hD,al,hl,hk,q⟩:=h;rfl) fun f_ cdv A outer s H vs Q E hr h=>?_
 obtain ⟨f1,D,sl,bd,lo,us,xs,rfl,hf1,hD,al,hl,hk,q⟩:=h;refine ⟨_,(@Yd _ _ _ _ _ (@Yr _ _ (2) _ _ _ _ ZD.nd rfl (.inl rfl) (@Hw _ _ _ _ _ _ _ _ _ Zo hr (by omega) (by rfl) (by rfl) (by decide)) (by rfl) (by first | exact .inl rfl | exact .inr rfl | assumption)) (@Yd _ _ _ _ _ (@Yr _ _ (3) _ _ _ _ ZD.nd rfl (.inl rfl) (@Hw _ _ _ _ _ _ _ _ _ Zo hr (by omega) (by rfl) (by rfl) (by decide)) (by rfl) (by first | exact .inl rfl | exact .inr rfl | assumption)) (@Yd _ _ _ _ _ (@Xo _ _ _ _ _ _ _ _ PassesOwn.never rfl (@Wf _ _ _ _ _ _ rfl Zl (@Ya _ _ _ _ _ (@YH _ _ _ _ _ _ _ _ _ _ aK Yy (@Ya _ _ _ _ _ (pv 1) Yb (by rfl)) (by decide +kernel) (by rfl) (by rfl) (by decide) (by decide) (by rfl) (by rfl)) Yb (by rfl)) (by rfl)) (@Yz _ _ (4) _ ZD.nd rfl (.inl rfl) (by first | exact .inl rfl | exact .inr rfl | assumption)) (@Yd _ _ _ _ _ (@QK _ _ _ _ _ _ (@Wu _ (g) _ (10) _ _ _ _ _ _ 0 hr (@Ya _ _ _ _ _ (pv 2) (@Ya _ _ _ _ _ (@Ys _ _ _ _ _ _ _ YL (pv 1) (pv 4) (fun _ _=>rfl)) Yb (by rfl)) (by rfl)) (by omega) (by rfl) (by rfl) (by first | exact .inl rfl | exact .inr (.inl rfl) | exact .inr (.inr rfl)) (by decide) (by decide) (by rfl) (by rfl)) (@Wl _ _ _ _ _ (2) rfl (@Y5 _ _ _ _ _ (@Yz _ _ (2) _ ZD.nd rfl (.inl rfl) (by first | exact .inl rfl | exact .inr rfl | assumption)) (@Y5 _ _ _ _ _ (@Yz _ _ (5) _ ZD.nd rfl (.inl rfl) (by first | exact .inl rfl | exact .inr rfl | assumption)) XZ (by rfl)) (by rfl)) (by rfl) (by rfl)) (by rfl) (by rfl) (by rfl)) (@Yd _ _ _ _ _ (@QK _ _ _ _ _ _ (@Yv _ _ _ _ _ _ _ _ _ _ _ _ ZC hr (@Ya _ _ _ _ _ (pv 3) (@Ya _ _ _ _ _ (@Ys _ _ _ _ _ _ _ YL (pv 1) (pv 4) (fun _ _=>rfl)) Yb (by rfl)) (by rfl)) (by omega) (by rfl) (by rfl) (by decide) (by rfl) (by rfl)) (@Wl _ _ _ _ _ (2) rfl (@Y5 _ _ _ _ _ (@Yz _ _ (3) _ ZD.nd rfl (.inl rfl) (by first | exact .inl rfl | exact .inr rfl | assumption)) (@Y5 _ _ _ _ _ (@Yz _ _ (6) _ ZD.nd rfl (.inl rfl) (by first | exact .inl rfl | exact .inr rfl | assumption)) XZ (by rfl)) (by rfl)) (by rfl) (by rfl)) (by rfl) (by rfl) (by rfl)) (@Ye _ _ _ (@Yu _ _ _ _ _ _ _ _ (@Xh _ _ _ (@Yv _ _ _ _ _ _ _ _ _ _ _ _ kj hr (@Ya _ _ _ _ _ (pv 5) (@Ya _ _ _ _ _ (pv 6) Yb (by rfl)) (by rfl)) (by omega) (by rfl) (by rfl) (by decide) (by rfl) (by rfl)) (by intro _;rfl)) (@Ye _ _ _ (@Yn _ _ _ _ (pv 4))) Yq)))) (by intro _;rfl)) (@Ye _ _ _ (@Yn _ _ _ _ YW))))),?_⟩;obtain ⟨Bp,s1,ok1,rQ,hj1⟩:=hf1;have ul:=al.1;refine Ym fun R rr=>?_
 walk_at "rd";refine ⟨rfl,fun _ a c H1 w1 ga gc st=>rr _ _ (Ym fun R rr=>?_)⟩;walk_at "rd";refine ⟨rfl,fun _ a' c' H2 w2 j8 j9 st'=>rr _ _ (Ym fun R rr=>?_)⟩;have st1:bK H1 lo a c [] 0:=⟨st.ha,st.hc⟩;have st2:bK H2 lo a' c' [] 0:=⟨st'.ha,st'.hc⟩;have n1:a≠a':=Yj st1.ha j8;have n2:a≠c':=Yj st1.ha j9;have n3:c≠a':=Yj st1.hc j8;have n4:c≠c':=Yj st1.hc j9;have fa':=w1.free j8;have Bq:=w1.free j9;refine W6 (n:=us.length) (fun i σ H'=>(∃ o4 o5 o6,σ=[some (.ref f1),some (.ref D),some (.ref a),some (.ref a'),o4,o5,o6])/\Kq H lo sl bd xs a c a' c' i H') (fun R r=>by walk_at "rd";exact ⟨_,.inl (aG.of ((w1.trans w2) _ _ hD)),r⟩) (by omega) ⟨⟨_,_,_,rfl⟩,⟨[],[],0,0,w1.trans w2,⟨w2 _ _ st1.ha,w2 _ _ st1.hc⟩,st2,Nat.le_refl _,Nat.le_refl _,(fun o h=>by cases h),rfl⟩⟩ ?_ ?_
 ·rintro i σ H' hi ⟨⟨o4,o5,o6,rfl⟩,⟨qu,p,n,m,sm,sa,sb,h1,h2,h3,e⟩⟩
  have hx:us[i]?=some us[i]:=List.getElem?_eq_getElem hi;generalize us[i]=v at hx;have hxi:xs[i]?=some (xs[i]'(by omega)):=List.getElem?_eq_getElem _;generalize xs[i]'(by omega)=x at hxi;have hd:=(al.2 i v x hx hxi);have kx:=hk x (List.mem_of_getElem? hxi);rw [Ke hxi] at e
  refine Ym fun R rr=>?_
  walk_at "rd";refine ⟨f1,Bp,_,s1,rfl,ok1.1,ok1.2,sm _ _ rQ,?_⟩;walk_at "rd";refine ⟨_,aG.of (sm _ _ hD),_,Yk hx,?_⟩;refine hj1 H' a c qu n v x _ (XL sm) sa (hd.tp (YR (Yx sm))) (by omega) h3 fun T1 H4 b4 Bt hT1 pX=>⟨T1,rfl,_,aJ.of hT1,rfl,_,_,rfl,_,_,rfl,rfl,rr _ _ (Ym fun R rr=>?_)⟩
  have sC:Yf H H4:=fun b o e=>b4 b o (Yj e ga) (Yj e gc) (sm _ _ e)
  have vB:bK H4 lo a' c' p m:=⟨b4 _ _ (Ne.symm n1) (Ne.symm n3) sb.ha,b4 _ _ (Ne.symm n2) (Ne.symm n4) sb.hc⟩;walk_at "rd";refine ⟨_,aG.of (sC _ _ hD),_,Yk hx,lo,a',c',p,m,v,x,rfl,vB,hd.tp (YR (Yx sC)),by omega,fun T2 H6 b6 Ac hT2 Bu=>⟨T2,rfl,_,aJ.of hT2,rfl,_,_,rfl,_,_,rfl,rfl,rr _ _ ?_⟩⟩;have sD:Yf H H6:=fun b o e=>b6 b o (Yj e Bq) (sC _ _ e)
  have Bv:bK H6 lo a c (dn sl bd lo x qu n).1 (dn sl bd lo x qu n).2.1:=⟨b6 _ _ n2 pX.ha,b6 _ _ n4 pX.hc⟩;walk_at "rd";refine ⟨(dn sl bd lo x qu n).2.2,(dY lo x p).2,rfl,YfG lo x p,_,rfl,?_⟩
  cases hs:(dn sl bd lo x qu n).2.2.eq (dY lo x p).2 with
  | false =>
   rw [hs,if_neg (by decide)] at e
   have:=q H6 sD;rw [e] at this
   exact YU rfl this
  | true =>
   rw [hs,if_pos rfl] at e
   refine YA (by decide) ⟨_,_,_,_,sD,Bv,Bu,?_,?_,Kg h3 kx,e⟩
   ·have:=Kf sl bd lo x qu n;omega
   ·have:=Kh lo x p;omega
 ·rintro σ H' ⟨⟨o4,o5,o6,rfl⟩,⟨qu,p,n,m,sm,sa,sb,h1,h2,h3,e⟩⟩
  refine rr _ _ ?_;walk_at "rd";have:=q H' sm;rw [e,List.drop_eq_nil_of_le (by omega)] at this
  exact this
def XO (g:Gx) (H:Hp) (f:Addr) (ap:List Dd->Option Nat) (lo:Int):Prop:=∃ fd sp,Bl g 30 f fd ["deeds"] sp/\H f=some (bZ f fd) /\
 ∀ (H1:Hp) (D:Addr) (us:List V) (xs:List Dd) (Q:VK),NL H H1->H1 D=some (.lst us)->YV H1 lo us xs->xs.length<=100->(∀ x∈xs,bN x)->(∀ H',Yf H1 H'->Q (.bl (ap xs).isNone) H')->H1 f=some (bZ f fd)/\sp [.ref D] H1 Q E0
theorem XO.nl {g:Gx} {H H':Hp} {f:Addr} {ap:List Dd->Option Nat} {lo:Int} (h:XO g H f ap lo) (n:NL H H'):XO g H' f ap lo:=by
 obtain ⟨fd,sp,h1,h2,h3⟩:=h;exact ⟨fd,sp,h1,n.2 _ _ h2,fun H1 D us xs Q n1=>h3 H1 D us xs Q (n.trans n1)⟩
def Yev (g:Gx) (fv vs:List V) (H:Hp) (Q:VK):Prop:=∃ (b1 f1 b2 f2 D:Addr) (sl bd:Nat) (lo:Int) (us:List V) (xs:List Dd),fv=[.ref f2,.ref b2,.ref f1,.ref b1]/\vs=[.ref D]/\g.fL 2 b1 [] XX/\XD g H f1 sl bd lo/\g.fL 2 b2 [] XX/\g.fL 2 f2 ["_law_state","_law_deed"] (dZ g.K) /\
 H D=some (.lst us)/\YV H lo us xs/\xs.length<=100/\(∀ x∈xs,bN x)/\∀ H',Yf H H'->Q (.bl (bU sl bd lo xs).isNone) H'
theorem Z3H {k:Nat} {Z4 Z5 Z1 Z2 Z3 Z0:Addr} {f_ c_:Addr} {pm ctv:Value} {l:YE} (mY:g.Fn k "apart" ["begin","done","model_begin","model_done","deeds"] (fZ g)) (hl:l.map (·.1)=(["model_done","model_begin","done","begin"]:List Str)) (hnd:l.as.Nodup):aY g.P g.w g.K g.mg g.base cB (k+1) f_ (ZL l.cl c_ pm ctv) ["deeds"] (fun vs H Q _=>VF H f_ c_ (ZL l.cl c_ pm ctv) Zy l/\(Yev g) l.vs vs (off H l.as) fun v H'=>(∀ c∈l.as,H' c=none)->Q v (on H' H l.as)):=by
 refine Yf3 (N:=["deeds","model_done","model_begin","done","begin"]) (by rw [hl];exact Z3A) hnd (fun vs H Q h=>by obtain ⟨b1,f1,b2,f2,D,sl,bd,lo,us,xs,jm,rfl,hb1,hf1,hb2,hf2,hD,al,hl,hk,q⟩:=h;rfl) fun A outer s H vs Q hr h=>?_
 obtain ⟨b1,f1,b2,f2,D,sl,bd,lo,us,xs,jm,rfl,hb1,hf1,hb2,hf2,hD,al,hl,hk,q⟩:=h;refine ⟨_,(@Y2 _ _ _ _ _ _ _ _ XM (@Yv _ _ _ _ _ _ _ _ _ _ _ _ mY hr (@Ya _ _ _ _ _ (pv 4) (@Ya _ _ _ _ _ (pv 3) (@Ya _ _ _ _ _ (pv 2) (@Ya _ _ _ _ _ (pv 1) (@Ya _ _ _ _ _ (pv 0) Yb (by rfl)) (by rfl)) (by rfl)) (by rfl)) (by rfl)) (by omega) (by rfl) (by rfl) (by decide) (by rfl) (by rfl)) YW (Yl _)),?_⟩;rw [jm];walk_at "rd";refine ⟨b1,f1,b2,f2,D,sl,bd,lo,us,xs,rfl,hb1,hf1,hb2,hf2,hD,al,hl,hk,fun H' s=>?_⟩;have:=q H' s
 cases h:bU sl bd lo xs with
 | none=>rw [h] at this;exact this
 | some i=>rw [h] at this;exact this
inductive kE (g:Gx) (vs:List V) (H:Hp) (Q:VK) (E_:XK):Prop
 | mk (f:Addr) (v:V) (ap:List Dd->Option Nat) (lo:Int) (xs:List Dd) (h0:vs=[.ref f,v]) (h1:XO g H f ap lo) (h2:aM H lo v (.ds xs)) (h3:xs.length<=100) (h4:(∀ x∈xs,bN x)) (h5:∀ H',Yf H H'->Q (.bl (ap xs).isNone) H')
theorem Yew {k:Nat} {Z4 Z5 Z1 Z2 Z3 Z0:Addr} {aq ao:Addr} {ak aj:Addr} {aA au:Addr} (R:g.Raw "holds" "holds" U4 ["judge","value"]) (ZA:g.Fn k "copied" ["thing"] (dW 4)) (hkc:30<=k):g.Fn (k+1) "holds" ["judge","value"] (kE g):=by
 refine R.fn Yei (fun vs H Q E h=>by obtain ⟨f,v,ap,lo,xs,rfl,⟨fd,s1,ok,hf,hj⟩,hv,hl,hk,q⟩:=h;rfl) fun f_ cdv A outer s H vs Q E hr h=>?_
 obtain ⟨f,v,ap,lo,xs,rfl,⟨fd,s1,ok,hf,hj⟩,hv,hl,hk,q⟩:=h;refine ⟨_,(@Ye _ _ _ (@Yn _ _ _ _ (@Y2 _ _ _ _ _ _ _ _ R5 (@Wu _ (g) _ (30) _ _ _ _ _ _ 0 hr (@Ya _ _ _ _ _ (@Yv _ _ _ _ _ _ _ _ _ _ _ _ ZA hr (@Ya _ _ _ _ _ (pv 1) Yb (by rfl)) (by omega) (by rfl) (by rfl) (by decide) (by rfl) (by rfl)) Yb (by rfl)) (by omega) (by rfl) (by rfl) (by first | exact .inl rfl | exact .inr (.inl rfl) | exact .inr (.inr rfl)) (by decide) (by decide) (by rfl) (by rfl)) Wj (Yl _)))),?_⟩;walk_at "rd";refine ⟨f,fd,_,s1,rfl,ok.1,ok.2,hf,?_⟩;walk_at "rd";refine ⟨v,lo,.ds xs,rfl,hv,hl,by simp [dep],by simp [dep],fun v' H' sm fr f2 hv'=>?_⟩;obtain ⟨D,us,rfl,hD,al⟩:=X7 hv';refine hj H' D us xs _ (XL sm) hD al hl hk fun H2 s2=>⟨_,rfl,?_⟩
 rw [show ((ap xs).isNone==true)=(ap xs).isNone by cases (ap xs).isNone<;>rfl];exact q H2 (sm.trans s2)
def fC (l:List Dd):Prop:=l.length<=100/\∀ x∈l,bN x
inductive vC (g:Gx) (vs:List V) (H:Hp) (Q:VK) (E_:XK):Prop
 | mk (f L:Addr) (ap:List Dd->Option Nat) (lo:Int) (ys:List V) (Ls:List (List Dd)) (h0:vs=[.ref f,.ref L]) (h1:XO g H f ap lo) (h2:H L=some (.lst ys)) (h3:F2 (aM H lo) ys (Ls.map .ds)) (h4:(∀ l∈Ls,fC l)) (h5:(∀ H',Yf H H'->nx ap Ls=none->Q .non H')) (h6:∀ (i:Nat) y l H',Yf H H'->nx ap Ls=some l->ys[i]?=some y->Ls[i]?=some l->Q y H')
theorem Z42 {k:Nat} {Z4 Z5 Z1 Z2 Z3 Z0:Addr} {aq ao:Addr} {ak aj:Addr} {aA au:Addr} (R:g.Raw "first_breach" "first_breach" yV ["judge","values"]) (vW:g.Fn k "holds" ["judge","value"] (kE g)):g.Fn (k+1) "first_breach" ["judge","values"] (vC g):=by
 refine R.fn Je (fun vs H Q E h=>by obtain ⟨f,L,ap,lo,ys,Ls,rfl,hj,hL,f2,ok,q0,q1⟩:=h;rfl) fun f_ cdv A outer s H vs Q E hr h=>?_
 obtain ⟨f,L,ap,lo,ys,Ls,rfl,hj,hL,f2,ok,q0,q1⟩:=h;refine ⟨_,(@Yd _ _ _ _ _ (@Xo _ _ _ _ _ _ _ _ PassesOwn.never rfl (@Xj _ _ _ _ (pv 1)) (@Yz _ _ (2) _ Je.nd rfl (.inl rfl) (by first | exact .inl rfl | exact .inr rfl | assumption)) (@Ye _ _ _ (@Yu _ _ _ _ _ _ _ _ (@XR _ _ _ _ (@Xh _ _ _ (@Yv _ _ _ _ _ _ _ _ _ _ _ _ vW hr (@Ya _ _ _ _ _ (pv 0) (@Ya _ _ _ _ _ (pv 2) Yb (by rfl)) (by rfl)) (by omega) (by rfl) (by rfl) (by decide) (by rfl) (by rfl)) (by intro _;rfl))) (@Ye _ _ _ (@Yn _ _ _ _ (pv 2))) Yq)) (by intro _;rfl)) (@Ye _ _ _ (@Yn _ _ _ _ YW))),?_⟩;have hlen:=f2.len;rw [List.length_map] at hlen
 refine Ym fun R rr=>?_
 refine Vl (K:=g.K) (xs:=ys) (fun c i σ H'=>c=L/\(∃ o,σ=[some (.ref f),some (.ref L),o])/\Yf H H'/\nx ap Ls=nx ap (Ls.drop i)) (fun R r=>by walk_at "rd";exact r L _ ⟨rfl,⟨_,rfl⟩,.refl _,rfl⟩) (fun c i σ H' _ ⟨e,_,s,_⟩=>by subst e;exact aG.of (s _ _ hL)) ?_ ?_
 ·rintro c i x σ H' hx ⟨rfl,⟨o,rfl⟩,sm,hn⟩
  have hi:=(List.getElem?_eq_some_iff.mp hx).1;have hm:Ls[i]?=some (Ls[i]'(by omega)):=List.getElem?_eq_getElem _;generalize Ls[i]'(by omega)=l at hm;have o1:=ok l (List.mem_of_getElem? hm);rw [Km hm] at hn
  walk_at "rd";refine ⟨f,x,ap,lo,l,rfl,hj.nl (XL sm),(f2.get i x (.ds l) hx (by rw [List.getElem?_map,hm];rfl)).same sm,o1.1,o1.2,fun H1 s1=>?_⟩
  cases h:ap l with
  | none =>
   rw [h] at hn
   exact ⟨_,rfl,YA (by decide) ⟨sm.trans s1,hn⟩⟩
  | some j =>
   rw [h] at hn
   exact ⟨_,rfl,YU rfl (q1 i x l H1 (sm.trans s1) hn hx hm)⟩
 ·rintro c σ H' ⟨rfl,⟨o,rfl⟩,sm,hn⟩
  refine rr _ _ ?_;walk_at "rd";rw [List.drop_eq_nil_of_le (by omega)] at hn
  exact q0 H' sm hn
def Kr (g:Gx) (H:Hp) (f:Addr) (lo:Int) (tn:Nat):Prop:=∃ fd sp,Bl g 60 f fd ["breach"] sp/\H f=some (bZ f fd) /\
 ∀ (H1:Hp) (D:Addr) (us:List V) (xs:List Dd) (Q:VK),Yf H H1->H1 D=some (.lst us)->YV H1 lo us xs->fC xs->(∀ L ys H',Yf H1 H'->H1 L=none->H' L=some (.lst ys)->F2 (aM H' lo) ys ((nxs tn xs).map .ds)->(∀ y∈ys,Fs H1 y)->Q (.ref L) H')->H1 f=some (bZ f fd)/\sp [.ref D] H1 Q E0
inductive kJ (g:Gx) (C:Addr) (vs:List V) (H:Hp) (Q:VK) (E:XK):Prop
 | mk (f D fn:Addr) (ap:List Dd->Option Nat) (lo:Int) (tn:Nat) (us:List V) (xs:List Dd) (h0:vs=[.ref f,.ref D,.ref fn]) (h1:XO g H f ap lo) (h2:Kr g H fn lo tn) (h3:H D=some (.lst us)) (h4:YV H lo us xs) (h5:fC xs) (h6:bw xs<=1000) (h7:(∀ H',Yf H H'->ap xs=none->E (.ref C) none H')) (h8:∀ B ys w H',Yf H H'->H B=none->H' B=some (.lst ys)->(ap xs).isSome=true->Way ap tn xs w->F2 (aM H' lo) ys (w.map .ds)->(∀ y∈ys,Fs H y)->Q (.ref B) H')
inductive Bx (ap:List Dd->Option Nat) (lo:Int) (tn:Nat) (H:Hp) (xs:List Dd) (B:Addr) (H':Hp) (v:V):Option (List Dd)->List (List Dd)->Prop
 | no (bs:List (List Dd)) (e:v = .non) (w:Way ap tn xs bs):Bx ap lo tn H xs B H' v none bs
 | at_ (l:List Dd) (bs:List (List Dd)) (c:aM H' lo v (.ds l)) (fr:Fs H v) (n:v ≠ .ref B) (ok:fC l) (sz:bw l+bs.length<=bw xs) (w:∀ w,Way ap tn l w->Way ap tn xs (bs++w)):Bx ap lo tn H xs B H' v (some l) bs
inductive SbV (ap:List Dd->Option Nat) (lo:Int) (tn:Nat) (H:Hp) (xs:List Dd) (f D fn B:Addr) (a:Option (List Dd)×List (List Dd)) (σ:St) (H':Hp):Prop
 | mk (ys:List V) (v:V) (e:σ=[some (.ref f),some (.ref D),some (.ref fn),some (.ref B),some v]) (sm:Yf H H') (hB:H' B=some (.lst ys)) (f2:F2 (aM H' lo) ys (a.2.map .ds)) (fr:∀ y∈ys,Fs H y/\y ≠ .ref B) (cur:Bx ap lo tn H xs B H' v a.1 a.2)
theorem Yaq {k:Nat} {Z4 Z5 Z1 Z2 Z3 Z0:Addr} {aq ao:Addr} {ak aj:Addr} {aA au:Addr} (R:g.Raw "shrunk_by" "shrunk_by" yW ["judge","value","values_next"]) (ZA:g.Fn k "copied" ["thing"] (dW 4)) (Ks:g.Fn k "first_breach" ["judge","values"] (vC g)) (hkc:60<=k) (bQ:g.mg "NoBreach"=some (.ref Z4)) (cR:W.excIn g.K Z4 QX "ValueError.__new__"=true):g.eH (k+1) "shrunk_by" ["judge","value","values_next"] (kJ g Z4):=by
 refine R.fnX uh (fun vs H Q E h=>by obtain ⟨f,D,fn,ap,lo,tn,us,xs,rfl,hj,hn,hD,al,ok,hz,q0,q1⟩:=h;rfl) fun f_ cdv A outer s H vs Q E hr h=>?_
 obtain ⟨f,D,fn,ap,lo,tn,us,xs,rfl,hj,hn,hD,al,ok,hz,q0,q1⟩:=h;refine ⟨_,(@Yd _ _ _ _ _ (PS.cN (@Yr _ _ (3) _ _ _ _ uh.nd rfl (.inl rfl) (@Y3 _ _ _ _ Yb) (by rfl) (by first | exact .inl rfl | exact .inr rfl | assumption))) (@Yd _ _ _ _ _ (PS.cN (@Yr _ _ (4) _ _ _ _ uh.nd rfl (.inl rfl) (@Yv _ _ _ _ _ _ _ _ _ _ _ _ Ks hr (@Ya _ _ _ _ _ (pv 0) (@Ya _ _ _ _ _ (@Y3 _ _ _ _ (@Ya _ _ _ _ _ (@Yv _ _ _ _ _ _ _ _ _ _ _ _ ZA hr (@Ya _ _ _ _ _ (pv 1) Yb (by rfl)) (by omega) (by rfl) (by rfl) (by decide) (by rfl) (by rfl)) Yb (by rfl))) Yb (QZ _ _ _ _)) (by rfl)) (by omega) (by rfl) (by rfl) (by decide) (by rfl) (by rfl)) (by rfl) (by first | exact .inl rfl | exact .inr rfl | assumption))) (@Yd _ _ _ _ _ (@Yu _ _ _ _ _ _ _ _ (@Yo _ _ _ _ _ _ _ _ XM (pv 4) YW (Yl _)) (@Ye _ _ _ (@Tj _ _ _ _ _ _ _ _ _ _ _ ⟨bQ,cR⟩ Tg (@Ya _ _ _ _ _ YC Yb (by rfl)) (by rfl) (by rfl) (by rfl) (by decide) (by rfl) (by rfl))) Yq) (@Yd _ _ _ _ _ (PS.cN (@X8 _ _ _ _ _ _ PassesOwn.never (@Yo _ _ _ _ _ _ _ _ Wg (pv 4) YW (Yl _)) (@Yd _ _ _ _ _ (@Y4 _ _ _ _ (@Xp _ _ _ _ _ _ _ _ _ _ _ _ F.plainAttrs_list F.slot_list_append F.type_list_append Y7 (pv 3) (@Ya _ _ _ _ _ (pv 4) Yb (by rfl)) (by rfl) (by rfl) (by rfl) (by rfl) (by rfl)) (by rfl)) (@Ye _ _ _ (@Yr _ _ (4) _ _ _ _ uh.nd rfl (.inl rfl) (@Yv _ _ _ _ _ _ _ _ _ _ _ _ Ks hr (@Ya _ _ _ _ _ (pv 0) (@Ya _ _ _ _ _ (@Wu _ (g) _ (60) _ _ _ _ _ _ 2 hr (@Ya _ _ _ _ _ (pv 4) Yb (by rfl)) (by omega) (by rfl) (by rfl) (by first | exact .inl rfl | exact .inr (.inl rfl) | exact .inr (.inr rfl)) (by decide) (by decide) (by rfl) (by rfl)) Yb (by rfl)) (by rfl)) (by omega) (by rfl) (by rfl) (by decide) (by rfl) (by rfl)) (by rfl) (by first | exact .inl rfl | exact .inr rfl | assumption)))))) (@Ye _ _ _ (PS.cN (@Yn _ _ _ _ (pv 3)))))))),?_⟩;refine Ym fun R rr=>?_
 walk_at "rd";refine ⟨few (by decide),fun B gB=>rr _ _ (Ym fun R rr=>?_)⟩;have sB:=Yf.aF gB (.lst []);walk_at "rd";refine ⟨.ref D,lo,.ds xs,rfl,YV.cq (sB _ _ hD) (al.tp (YR (Yx sB))),ok.1,by simp [dep],by simp [dep],fun v1 H1 s1 Ku f21 hv1=>⟨few (by decide),fun L gL=>?_⟩⟩;have s2:=Yf.aF gL (.lst [v1]);have sA:=(sB.trans s1).trans s2;refine ⟨f,L,ap,lo,[v1],[xs],rfl,hj.nl (XL sA),Yc,.cons (hv1.same s2) .nil,(fun l hl=>by rw [List.mem_singleton.mp hl];exact ok),fun H2 s3 e=>rr _ _ ?_,fun i y l H2 s3 e e1 e2=>rr _ _ ?_⟩
 ·walk_at "rd"
  refine ⟨few (by decide),q0 H2 (sA.trans s3) ?_⟩;rw [Kl] at e
  cases h:ap xs with
  | none=>rfl
  | some j=>rw [h] at e;cases e
 ·have hi:i=0:=by
   have:=(List.getElem?_eq_some_iff.mp e1).1;simpa using this
  subst hi
  cases Option.some.inj e1
  cases Option.some.inj e2
  have hap:(ap xs).isSome=true:=(VZ e).2;have hv2:=hv1.same (s2.trans s3);have nB:v1 ≠ .ref B:=fun z=>by have:=Ku B z;rw [Yc] at this;cases this
  have fH:Fs H v1:=fun b z=>sB.free (Ku b z)
  obtain ⟨D1,fG,rfl,_,_⟩:=X7 hv2;refine Ym fun R rr=>?_
  walk_at "rd";refine rr _ _ (Ym fun R rr=>?_);have hB2:H2 B=some (.lst []):=s3 _ _ (s2 _ _ (s1 _ _ Yc));refine Wb (α:=Option (List Dd)×List (List Dd)) (SbV ap lo tn H xs f D fn B) (fun a=>a.1.isSome) (fun a=>match a.1 with | none=>0 | some l=>bw l+1) (some xs,[]) ⟨[],.ref D1,rfl,sA.trans s3,hB2,.nil,(fun y h=>by cases h),.at_ xs [] hv2 fH nB ok (by simp) fun w h=>h⟩ ?_ ?_ ?_
  ·rintro ⟨o,bs⟩ σ H' ⟨ys,v,rfl,sm,hB,f2,fr,cur⟩ R r
   walk_at "rd";have:=r H' ⟨ys,v,rfl,sm,hB,f2,fr,cur⟩
   cases cur with
   | no _ e w=>subst e;exact this
   | at_ l _ c=>obtain ⟨D2,bG,rfl,_,_⟩:=X7 c;exact this
  ·rintro ⟨o,bs⟩ σ H' ⟨ys,v,rfl,sm,hB,f2,fr,cur⟩ ho
   cases cur with
   | no=>cases ho
   | at_ l _ c frv nv iM sz way =>
    dsimp only at f2 way sz ⊢;obtain ⟨fd,sp,Kv,hfn,hnx⟩:=hn;have hyl:=f2.len;rw [List.length_map] at hyl
    refine Ym fun R rr=>?_
    walk_at "rd";refine ⟨.inl ⟨rfl,_,aG.of hB⟩,_,hB,few (by omega),rr _ _ ?_⟩;have mZ:Yf H (upd H' B (.lst (ys++[v]))) := .bT gB sm _;obtain ⟨D2,bG,rfl,hD2,vD⟩:=X7 (c.own (by simp [dep]) hB nv (zs':=ys++[v]));walk_at "rd";refine ⟨fn,fd,_,sp,rfl,Kv.1,Kv.2,mZ _ _ hfn,?_⟩;walk_at "rd";refine hnx _ D2 bG l _ mZ hD2 vD iM fun L zs H4 s4 gL hL g4 fz=>?_
    have g2:F2 (aM H4 lo) (ys++[.ref D2]) ((bs++[l]).map .ds):=by
     rw [List.map_append];refine F2.app (f2.mono fun y hy c hc' h=>?_) (.cons ((YV.cq hD2 vD).same s4) .nil);obtain ⟨z,_,rfl⟩:=List.mem_map.mp hc';exact (h.own (by simp [dep]) hB (fr y hy).2).same s4
    have fr':∀ y∈ys++[.ref D2],Fs H y/\y ≠ .ref B:=fun y hy=>by
     rcases List.mem_append.mp hy with hy | hy
     ·exact fr y hy
     ·rw [List.mem_singleton.mp hy];exact ⟨frv,nv⟩
    have pY:=s4 _ _ (Yc (H:=H') (a:=B) (o := .lst (ys++[.ref D2])));have m5:∀ l'∈nxs tn l,vq l l':=fun l' h=>VY iM.2 h
    refine ⟨f,L,ap,lo,zs,nxs tn l,rfl,hj.nl (XL (mZ.trans s4)),hL,g4,(fun l' h=>⟨Nat.le_trans (m5 l' h).len iM.1,(m5 l' h).ok iM.2⟩),fun H5 s5 e5=>?_,fun i y l' H5 s5 e5 e6 e7=>?_⟩
    ·exact ⟨(none,bs++[l]),⟨ys++[.ref D2],.non,rfl,(mZ.trans s4).trans s5,s5 _ _ pY,g2.imp fun _ _ h=>h.same s5,fr',.no _ rfl (way _ (.rest l e5))⟩,Nat.succ_pos _⟩
    ·have hm:=(VZ e5).1
     have ll:=m5 l' hm;have sz':=ll.sz;refine ⟨(some l',bs++[l]),⟨ys++[.ref D2],y,rfl,(mZ.trans s4).trans s5,s5 _ _ pY,g2.imp fun _ _ h=>h.same s5,fr',.at_ l' _ ((g4.get i y (.ds l') e6 (by rw [List.getElem?_map,e7];rfl)).same s5) (fun b z=>mZ.free (fz y (List.mem_of_getElem? e6) b z)) (fun z=>?_) ⟨Nat.le_trans ll.len iM.1,ll.ok iM.2⟩ (by rw [List.length_append,List.length_singleton];omega) fun w hw=>?_⟩,(by show bw l'+1<bw l+1;omega)⟩
     ·have:=fz y (List.mem_of_getElem? e6) B z
      rw [Yc] at this;cases this
     ·rw [List.append_assoc];exact way _ (.step l l' w e5 hw)
  ·rintro ⟨o,bs⟩ σ H' ⟨ys,v,rfl,sm,hB,f2,fr,cur⟩ ho
   cases cur with
   | at_=>cases ho
   | no _ e w =>
    refine rr _ _ ?_;walk_at "rd";exact q1 B ys bs H' sm gB hB hap w f2 fun y hy=>(fr y hy).1
def vG (lo:Int):Dd->PyData
 | .put o => .tuple [.str (bB 0),.int (lo+(o:Nat))]
 | .take => .tuple [.str (bB 1),.tuple []]
 | .cg => .tuple [.str (bB 2),.tuple []]
def pZ (lo:Int) (xs:List Dd):PyData := .list (xs.map (vG lo))
def vH (lo:Int) (L:List (List Dd)):PyData := .list (L.map (pZ lo))
theorem U5 {K:W.Frag} {H:Hp} {α:Type} {R:V->α->Prop} {f:α->PyData} (k:∀ v x,R v x->Den K H v (f x)):∀ {us:List V} {xs:List α},F2 R us xs->cC K H us (xs.map f)
 | _,_,.nil => .nil
 | _,_,.cons h t => .cons (k _ _ h) (U5 k t)
theorem Y1.den {K:W.Frag} {H:Hp} {lo:Int} {v:V} {x:Dd} (h:Y1 H lo v x):Den K H v (vG lo x):=by
 have k0:PyData.strOk (bB 0)=true:=by decide +kernel
 have k1:PyData.strOk (bB 1)=true:=by decide +kernel
 have k2:PyData.strOk (bB 2)=true:=by decide +kernel
 cases x with
 | put o=>obtain ⟨a,rfl,h⟩:=h;exact .tup (aJ.of h) (.cons (.str _ k0) (.cons (.int _) .nil))
 | take=>obtain ⟨a,b,rfl,h,h2⟩:=h;exact .tup (aJ.of h) (.cons (.str _ k1) (.cons (.tup (aJ.of h2) .nil) .nil))
 | cg=>obtain ⟨a,b,rfl,h,h2⟩:=h;exact .tup (aJ.of h) (.cons (.str _ k2) (.cons (.tup (aJ.of h2) .nil) .nil))
theorem UF {K:W.Frag} {H:Hp} {lo:Int} {D:Addr} {us:List V} {xs:List Dd} (hD:H D=some (.lst us)) (h:YV H lo us xs):Den K H (.ref D) (pZ lo xs) := .lst (aG.of hD) (U5 (fun _ _ z=>z.den) h.f2)
theorem UG {K:W.Frag} {H:Hp} {lo:Int} {v:V} {xs:List Dd} (h:aM H lo v (.ds xs)):Den K H v (pZ lo xs):=by
 obtain ⟨D,us,rfl,hD,al⟩:=X7 h;exact UF hD al
theorem F2.unmap {α β γ:Type} {R:α->γ->Prop} {f:β->γ}:∀ {as:List α} {bs:List β},F2 R as (bs.map f)->F2 (fun a b=>R a (f b)) as bs
 | _,[],.nil => .nil
 | _,_::_,.cons h t => .cons h t.unmap
theorem BJ {K:W.Frag} {H:Hp} {lo:Int} {B:Addr} {ys:List V} {w:List (List Dd)} (hB:H B=some (.lst ys)) (h:F2 (aM H lo) ys (w.map .ds)):Den K H (.ref B) (vH lo w) := .lst (aG.of hB) (U5 (fun _ _ z=>UG z) h.unmap)
theorem VM {f:α->PyData} {n:Nat} (h:∀ x:α,(f x).depth<=n):∀ xs:List α,PyData.depthAll (xs.map f)<=n
 | []=>by simp [PyData.depthAll]
 | x::xs=>by
  have:=VM h xs;have:=h x;simp only [List.map_cons,PyData.depthAll];omega
theorem Yex (lo:Int) (x:Dd):(vG lo x).depth<=2:=by cases x<;>simp [vG,PyData.depth,PyData.depthAll]
theorem Vq (lo:Int) (xs:List Dd):(pZ lo xs).depth<=3:=by
 have:=VM (Yex lo) xs;rw [pZ,PyData.depth];omega
theorem Kw (lo:Int) (L:List (List Dd)):(vH lo L).depth<=4:=by
 have:=VM (Vq lo) L;rw [vH,PyData.depth];omega
theorem Y9.many {H:Hp} {lo:Int} {tn:Nat} {a m:Addr} (h:Y9 H lo tn a .pk) (hm:H m=some (.tup [.str "many",.ref a])):Y9 H lo tn m .aR:=by
 obtain ⟨b,c0,c1,c2,p0,p1,p2,h1,h2⟩:=h;exact ⟨a,b,c0,c1,c2,p0,p1,p2,hm,h1,h2⟩
theorem Ky {H:Hp} {lo:Int} {v:V} {L:List (List Dd)} (h:aM H lo v (.dl L)):∃ D us,v = .ref D/\H D=some (.lst us)/\F2 (aM H lo) us (L.map .ds):=by
 obtain ⟨a,us,rfl,ha,hl,k⟩:=J8 h rfl;exact ⟨a,us,rfl,ha,.of hl k⟩
inductive kO (K:W.Frag) (vs:List V) (H:Hp) (Q:VK) (E_:XK):Prop
 | mk (bk:V) (lo:Int) (tn:Nat) (a D:Addr) (us:List V) (xs:List Dd) (h0:vs=[bk,.ref a,.ref D]) (h1:Y9 H lo tn a .pk) (h2:H D=some (.lst us)) (h3:YV H lo us xs) (h4:fC xs) (h5:∀ L ys H',Yf H H'->H' L=some (.lst ys)->F2 (aM H' lo) ys ((nxs tn xs).map .ds)->Q (.ref L) H')
inductive NxV (H:Hp) (lo:Int) (xs:List Dd) (bk:V) (a D X:Addr) (s:Nat×Nat×List (List Dd)) (σ:St) (H':Hp):Prop
 | mk (o5:Option V) (ys:List V) (e:σ=[some bk,some (.ref a),some (.ref D),some (.ref X),some (.int (s.1:Nat)),o5]) (h1:s.1<2^s.2.1) (h2:s.2.1<=20) (h3:s.1<=xs.length) (h4:mW xs=s.2.2++WW s.2.1 xs s.1) (sm:Yf H H') (hX:H' X=some (.lst ys)) (hl:ys.length+100*s.2.1<=2000) (f2:F2 (aM H' lo) ys (s.2.2.map .ds)) (ny:∀ y∈ys,y ≠ .ref X)
inductive NyV (H:Hp) (lo:Int) (xs:List Dd) (bk:V) (a D X:Addr) (c:Nat) (bs:List (List Dd)) (n0:Nat) (i:Nat) (σ:St) (H':Hp):Prop
 | mk (o5:Option V) (ys:List V) (e:σ=[some bk,some (.ref a),some (.ref D),some (.ref X),some (.int (c:Nat)),o5]) (hi:i<=dX xs.length c) (sm:Yf H H') (hX:H' X=some (.lst ys)) (hl:ys.length=n0+i) (f2:F2 (aM H' lo) ys ((bs++(blk xs c).take i).map .ds)) (ny:∀ y∈ys,y ≠ .ref X)
theorem Yat {k:Nat} {Z4 Z5 Z1 Z2 Z3 Z0:Addr} {aq ao:Addr} {ak aj:Addr} {aA au:Addr} (R:g.Raw "_law_nexts" "_law_nexts" zq ["_law_book","_law_shape","_law_deeds"]) (qb:g.Fn k "steps_of" ["book","shape","value"] (iD g.K)) (aK:g.mg "len"=none) (aN:g.mg "list"=none) (Zl:g.mg "range"=none):g.Fn (k+1) "_law_nexts" ["_law_book","_law_shape","_law_deeds"] (kO g.K):=by
 refine R.fn oX (fun vs H Q E h=>by obtain ⟨bk,lo,tn,a,D,us,xs,rfl,hS,hD,al,ok,q⟩:=h;rfl) fun f_ cdv A outer s H vs Q E hr h=>?_
 obtain ⟨bk,lo,tn,a,D,us,xs,rfl,hS,hD,al,ok,q⟩:=h;refine ⟨_,(@Yd _ _ _ _ _ (@Yr _ _ (3) _ _ _ _ oX.nd rfl (.inl rfl) (@Y3 _ _ _ _ Yb) (by rfl) (by first | exact .inl rfl | exact .inr rfl | assumption)) (@Yd _ _ _ _ _ (@Yr _ _ (4) _ _ _ _ oX.nd rfl (.inl rfl) (@YH _ _ _ _ _ _ _ _ _ _ aK Yy (@Ya _ _ _ _ _ (pv 2) Yb (by rfl)) (by decide +kernel) (by rfl) (by rfl) (by decide) (by decide) (by rfl) (by rfl)) (by rfl) (by first | exact .inl rfl | exact .inr rfl | assumption)) (@Yd _ _ _ _ _ (@X8 _ _ _ _ _ _ PassesOwn.never (@Yo _ _ _ _ _ _ _ _ WX (pv 4) Yh (Yl _)) (@Yd _ _ _ _ _ (@Xo _ _ _ _ _ _ _ _ PassesOwn.never rfl (@Qh _ _ _ _ _ _ _ _ rfl Zl (@Ya _ _ _ _ _ Yh (@Ya _ _ _ _ _ (@YH _ _ _ _ _ _ _ _ _ _ aK Yy (@Ya _ _ _ _ _ (pv 2) Yb (by rfl)) (by decide +kernel) (by rfl) (by rfl) (by decide) (by decide) (by rfl) (by rfl)) (@Ya _ _ _ _ _ (pv 4) Yb (by rfl)) (by rfl)) (by rfl)) (by rfl) (by rfl)) (@Yz _ _ (5) _ oX.nd rfl (.inl rfl) (by first | exact .inl rfl | exact .inr rfl | assumption)) (@Ye _ _ _ (@Y4 _ _ _ _ (@Xp _ _ _ _ _ _ _ _ _ _ _ _ F.plainAttrs_list F.slot_list_append F.type_list_append Y7 (pv 3) (@Ya _ _ _ _ _ (@Yt _ _ _ _ _ _ _ _ XC (@Xr _ _ _ _ _ _ _ _ _ _ WL (pv 2) Xw (@Xx _ _ _ (pv 5))) (@Xr _ _ _ _ _ _ _ _ _ _ WL (pv 2) (@Xx _ _ _ (@Yt _ _ _ _ _ _ _ _ Xi (pv 5) (pv 4))) Xw)) Yb (by rfl)) (by rfl) (by rfl) (by rfl) (by rfl) (by rfl)) (by rfl))) (by intro _;rfl)) (@Ye _ _ _ (@Yr _ _ (4) _ _ _ _ oX.nd rfl (.inl rfl) (@Yt _ _ _ _ _ _ _ _ Wa (pv 4) Yh) (by rfl) (by first | exact .inl rfl | exact .inr rfl | assumption))))) (@Ye _ _ _ (@Yn _ _ _ _ (@Yt _ _ _ _ _ _ _ _ XC (pv 3) (@Yv _ _ _ _ _ _ _ _ _ _ _ _ qb hr (@Ya _ _ _ _ _ (pv 0) (@Ya _ _ _ _ _ (@YO _ _ _ _ _ (@Ya _ _ _ _ _ YC (@Ya _ _ _ _ _ (pv 1) Yb (by rfl)) (by rfl))) (@Ya _ _ _ _ _ (@XI _ _ _ _ _ _ _ _ _ _ aN Xu (@Ya _ _ _ _ _ (pv 2) Yb (by rfl)) (by decide +kernel) (by rfl) (by rfl) (by decide) (by decide) (by rfl) (by rfl)) Yb (by rfl)) (Y8 _ _ _ _ _)) (by rfl)) (by omega) (by rfl) (by rfl) (by decide) (by rfl) (by rfl)))))))),?_⟩;have ul:=al.1;have ol:=ok.1;refine Ym fun R rr=>?_
 walk_at "rd";refine ⟨few (by decide),fun X gX=>rr _ _ (Ym fun R rr=>?_)⟩;have sX:=Yf.aF gX (.lst []);walk_at "rd";refine ⟨_,.inl (aG.of (sX _ _ hD)),rr _ _ (Ym fun R rr=>?_)⟩;refine Wb (α:=Nat×Nat×List (List Dd)) (NxV H lo xs bk a D X) (fun a=>decide (0<a.1)) (fun a=>a.1) (xs.length,20,[]) ⟨none,[],by rw [ul],(by show xs.length<2^20;omega),Nat.le_refl 20,Nat.le_refl _,rfl,sX,Yc,by simp,.nil,fun y h=>by cases h⟩ ?_ ?_ ?_
 ·rintro ⟨x,f,l⟩ σ H' ⟨o5,ys,rfl,h1,h2,h3,h4,sm,hX,hyl,f2,ny⟩ R r
  walk_at "rd";have:=r H' ⟨o5,ys,rfl,h1,h2,h3,h4,sm,hX,hyl,f2,ny⟩;rw [show decide (0<x)=decide ((0:Int)<(x:Int)) from decide_eq_decide.mpr (by omega)] at this
  exact this
 ·rintro ⟨x,f,l⟩ σ H' ⟨o5,ys,rfl,h1,h2,h3,h4,sm,hX,hyl,f2,ny⟩ hx
  have hx0:0<x:=of_decide_eq_true hx;clear hx;have hf:f≠0:=fun z=>by subst z;simp at h1;omega
  obtain ⟨f,rfl⟩:∃ f',f=f'+1:=⟨f - 1,by omega⟩;dsimp only at h1 h2 h3 h4 hX hyl f2 ⊢;rw [VI hx0] at h4
  rw [Nat.pow_succ] at h1
  have hu:=Bj (n:=xs.length) hx0;have pN:=J9 (n:=xs.length) (c:=x);have hbl:(blk xs x).length=dX xs.length x:=by rw [blk,List.length_map,List.length_range]
  refine Ym fun R rr=>?_
  refine T7 (n:=xs.length) (c:=x) hx0 (by omega) (NyV H lo xs bk a D X x l ys.length) (fun R r=>?_) (by omega) ⟨o5,ys,rfl,Nat.zero_le _,sm,hX,rfl,by rw [List.take_zero,List.append_nil];exact f2,ny⟩ ?_ ?_
  ·walk_at "rd"
   refine ⟨_,.inl (aG.of (sm _ _ hD)),?_⟩;rw [ul];exact r
  ·rintro i σ H2 hi ⟨o5,zs,rfl,uY,s2,hX2,jk,g2,nz⟩
   have hlt:i<dX xs.length x:=by
    by_cases c:i<dX xs.length x
    ·exact c
    ·have e:i=dX xs.length x:=by omega
     have:=hu.2;rw [e] at hi;omega
   walk_at "rd";have hD2:=s2 _ _ hD;refine ⟨.inl ⟨rfl,_,aG.of hX2⟩,_,aG.of hD2,fun P1 g1=>?_⟩;rw [WM];have t1:=Yf.aF g1 (.lst (us.take (i*x)));refine ⟨_,aG.of (t1 _ _ hD2),fun P2 g2'=>?_⟩;rw [show ((i*x:Nat):Int)+(x:Int)=((i*x+x:Nat):Int) by omega,WN];have t2:=Yf.aF g2' (.lst (us.drop (i*x+x)));refine ⟨_,t2 _ _ Yc,_,Yc,few (by simp;omega),fun P3 g3=>?_⟩;have t3:=Yf.aF g3 (.lst (us.take (i*x)++us.drop (i*x+x)));have t:=(t1.trans t2).trans t3;have fB:=(al.tp (YR (Yx (s2.trans t)))).f2;have BK:=t _ _ hX2;have n3:P3≠X:=fun z=>by rw [z] at g3;rw [(t1.trans t2) _ _ hX2] at g3;cases g3
   have hc:=YV.cq (lo:=lo) (Yc (H:=upd (upd H2 P1 (.lst (us.take (i*x)))) P2 (.lst (us.drop (i*x+x)))) (a:=P3) (o := .lst (us.take (i*x)++us.drop (i*x+x)))) ((fB.take (i*x)).app (fB.drop (i*x+x))).al;have Kz:V.ref P3≠V.ref X:=fun z=>n3 (V.ref.inj z)
   refine ⟨_,BK,few (by omega),_,_,rfl,hlt,.bT gX (s2.trans t) _,Yc,by rw [List.length_append,jk,List.length_singleton];omega,?_,fun y hy=>?_⟩
   ·rw [XF (show (blk xs x)[i]?=some (xs.take (i*x)++xs.drop (i*x+x)) by rw [blk,List.getElem?_map,List.getElem?_range hlt];rfl),<- List.append_assoc,List.map_append]
    refine F2.app (g2.mono fun y hy c hc' h=>?_) (.cons (hc.own (by simp [dep]) BK Kz) .nil);obtain ⟨z,_,rfl⟩:=List.mem_map.mp hc';exact (h.same t).own (by simp [dep]) BK (nz y hy)
   ·rcases List.mem_append.mp hy with hy | hy
    ·exact nz y hy
    ·rw [List.mem_singleton.mp hy];exact Kz
  ·rintro i σ H2 hi ⟨o5,zs,rfl,uY,s2,hX2,jk,g2,nz⟩
   have he:i=dX xs.length x:=by
    by_cases c:i<dX xs.length x
    ·have:=hu.1 i c;omega
    ·omega
   refine rr _ _ ?_;walk_at "rd";have e:((x:Nat):Int) / 2=((x / 2:Nat):Int):=by omega
   rw [e];rw [he,<- hbl,List.take_length] at g2
   refine ⟨XV (by decide) (by decide),(x / 2,f,l++blk xs x),⟨o5,zs,rfl,(by omega:x / 2<2^f),(by omega:f<=20),(by omega:x / 2<=xs.length),?_,s2,hX2,(by rw [jk];show ys.length+i+100*f<=2000;omega),g2,nz⟩,(by omega:x / 2<x)⟩
   show mW xs=(l++blk xs x)++WW f xs (x / 2)
   rw [h4,List.append_assoc]
 ·rintro ⟨x,f,l⟩ σ H' ⟨o5,ys,rfl,h1,h2,h3,h4,sm,hX,hyl,f2,ny⟩ hx
  have hx:x=0:=by have:=of_decide_eq_false hx;omega
  subst hx;dsimp only at h1 h2 h3 h4 hyl f2;refine rr _ _ ?_;walk_at "rd";rw [VJ,List.append_nil] at h4
  refine ⟨few (by decide),fun p gp=>?_⟩;have sp:=Yf.aF gp (.tup [.str "many",.ref a]);refine ⟨_,.inl (aG.of (sp _ _ (sm _ _ hD))),fun l' gl=>?_⟩;have s1:=Yf.aF gl (.lst us);have sA:=sm.trans (sp.trans s1);refine ⟨bk,lo,tn,p,l',us,xs,rfl,Y9.many (hS.kt (Yx sA)) (s1 _ _ Yc),Yc,al.tp (YR (Yx sA)),ok.2,ol,fun v' H2 s2 fr _ hc=>?_⟩;obtain ⟨Z,es,rfl,hE,fe⟩:=Ky hc;have hel:=fe.len;have hst:=(Bg tn xs ol).1;rw [List.length_map] at hel
  have sB:=sp.trans (s1.trans s2);refine ⟨Z,rfl,_,sB _ _ hX,_,hE,few (by omega),fun P gP=>q P _ _ (sm.trans (sB.trans (.aF gP _))) Yc ?_⟩;rw [nxs,List.map_append,h4];exact F2.app (f2.imp fun _ _ h=>h.same (sB.trans (.aF gP _))) (fe.imp fun _ _ h=>h.same (.aF gP _))
def Xv (H:Hp) (P:Addr):Prop:=H P=some (.aU #[])\/∃ c,H P=some (.aU #[rawInt 172,rawInt 11,.ref c])/\H c=some (eN c Zy)
theorem Xv.aU {H:Hp} {P:Addr} (h:Xv H P):∃ ps,H P=some (.aU ps):=by
 rcases h with h | ⟨c,h,_⟩
 ·exact ⟨_,h⟩
 ·exact ⟨_,h⟩
def vI (H H':Hp):Prop:=∀ b o,(∀ us,o ≠ .lst us)->H b=some o->H' b=some o
theorem Xv.kW {H H':Hp} {P:Addr} (h:Xv H P) (s:vI H H'):Xv H' P:=by
 rcases h with h | ⟨c1,h,h1⟩
 ·exact .inl (s _ _ (by intro _ z;cases z) h)
 ·exact .inr ⟨c1,s _ _ (by intro _ z;cases z) h,s _ _ (by intro _ z;cases z) h1⟩
theorem U6 {H H':Hp} (s:Yf H H'):vI H H':=fun b o _ e=>s _ _ e
theorem Xv.keep {H H':Hp} {P:Addr} (h:Xv H P) (s:Yf H H'):Xv H' P:=h.kW (U6 s)
theorem Xv.but {H H':Hp} {P P2:Addr} {ps:Array Value} (h:Xv H P) (hk:∀ a o,a≠P2->H a=some o->H' a=some o) (hP:H P2=some (.aU ps)) (n:P≠P2):Xv H' P:=by
 rcases h with h | ⟨c1,h,h1⟩
 ·exact .inl (hk _ _ n h)
 ·exact .inr ⟨c1,hk _ _ n h,hk _ _ (YG h1 hP (by intro z;cases z)) h1⟩
abbrev cT (x1 x2 x3 x4 b1 f1 b2 f2:Addr):YE:=[("model_done",x4,.ref f2),("model_begin",x3,.ref b2),("done",x2,.ref f1),("begin",x1,.ref b1)]
structure Ops (g:Gx) (H:Hp) (b1 f1 b2 f2:Addr) (sl bd:Nat) (lo:Int):Prop where
 b1:g.fL 2 b1 [] XX
 f1:XD g H f1 sl bd lo
 b2:g.fL 2 b2 [] XX
 f2:g.fL 2 f2 ["_law_state","_law_deed"] (dZ g.K)
theorem Ops.nl {g:Gx} {H H':Hp} {b1 f1 b2 f2:Addr} {sl bd:Nat} {lo:Int} (h:Ops g H b1 f1 b2 f2 sl bd lo) (n:NL H H'):Ops g H' b1 f1 b2 f2 sl bd lo:=⟨h.b1,h.f1.nl n,h.b2,h.f2⟩
theorem YV.off {H:Hp} {l:YE} (hin:∀ p∈l,H p.2.1=some (Wz p.2.1 p.2.2)) {lo:Int} {us:List V} {xs:List Dd} (h:YV H lo us xs):YV (off H l.as) lo us xs:=h.tp fun a vs e=>VU hin e
theorem Yey {g:Gx} {H0 H:Hp} {f c x1 x2 x3 x4 b1 f1 b2 f2:Addr} {sl bd:Nat} {lo:Int} {pm ctv:Value} (F0:g.Fn 29 "apart" ["begin","done","model_begin","model_done","deeds"] (fZ g)) (nd:(cT x1 x2 x3 x4 b1 f1 b2 f2).as.Nodup)
  (h:VF H f c (ZL (cT x1 x2 x3 x4 b1 f1 b2 f2).cl c pm ctv) Zy (cT x1 x2 x3 x4 b1 f1 b2 f2)) (op:Ops g H0 b1 f1 b2 f2 sl bd lo) (n0:NL H0 H) (hc0:∀ a∈(cT x1 x2 x3 x4 b1 f1 b2 f2).as,H0 a=none):XO g H f (bU sl bd lo) lo:=by
 have F:=Z3H (g:=g) (k:=29) (Z4:=0) (Z5:=0) (Z1:=0) (Z2:=0) (Z3:=0) (Z0:=0) (f_:=f) (c_:=c) (pm:=pm) (ctv:=ctv) (l:=cT x1 x2 x3 x4 b1 f1 b2 f2) F0 rfl nd;refine ⟨_,_,⟨F,fun us hl=>?_⟩,h.1,fun H1 D us xs Q n1 hD al hl hk hq=>?_⟩
 ·match us,hl with
  | [_],_=>rfl
 ·have hin:=(V0 h n1).2.2
  have nn:NL H0 (off H1 (cT x1 x2 x3 x4 b1 f1 b2 f2).as):=by
   refine ⟨fun b xs e=>?_,fun b φ e=>?_⟩
   ·rw [YS fun hm=>by rw [hc0 b hm] at e;cases e]
    exact (n0.trans n1).1 _ _ e
   ·rw [YS fun hm=>by rw [hc0 b hm] at e;cases e]
    exact (n0.trans n1).2 _ _ e
  have op':=op.nl nn;refine ⟨(V0 h n1).1,V0 h n1,b1,f1,b2,f2,D,sl,bd,lo,us,xs,rfl,rfl,op'.b1,op'.f1,op'.b2,op'.f2,WO hin hD (by intro φ z;cases z),al.off hin,hl,hk,fun H' s hc=>hq _ fun b u e=>?_⟩;by_cases hb:b∈(cT x1 x2 x3 x4 b1 f1 b2 f2).as
  ·rw [VT hb];exact e
  ·rw [Xd hb];exact s _ _ (by rw [YS hb];exact e)
inductive BL (g:Gx) (P:Addr) (vs:List V) (H:Hp) (Q:VK) (E_:XK):Prop
 | mk (b1 f1 b2 f2:Addr) (sl bd:Nat) (lo:Int) (h0:vs=[.ref b1,.ref f1,.ref b2,.ref f2]) (h1:Ops g H b1 f1 b2 f2 sl bd lo) (h2:Xv H P) (h3:∀ f H',XO g H' f (bU sl bd lo) lo->Xv H' P->(∀ a o,a≠P->H a=some o->H' a=some o)->Q (.ref f) H')
theorem Qm {g:Gx} {H H3:Hp} {P f cf x1 x2 x3 x4 b1 f1 b2 f2:Addr} {sl bd:Nat} {lo:Int} {ps:Array Value} {pm ctv:Value} (F0:g.Fn 29 "apart" ["begin","done","model_begin","model_done","deeds"] (fZ g)) (nd:(cT x1 x2 x3 x4 b1 f1 b2 f2).as.Nodup)
  (op:Ops g H b1 f1 b2 f2 sl bd lo) (hT:H P=some (.aU ps)) (kf:H3 f=some (bZ f (ZL (cT x1 x2 x3 x4 b1 f1 b2 f2).cl cf pm ctv))) (kcf:H3 cf=some (eN cf Zy))
  (kT:H3 P=some (.aU #[rawInt 172,rawInt 11,.ref cf])) (keep:∀ a o,a≠P->H a=some o->H3 a=some o) (hc:∀ c∈(cT x1 x2 x3 x4 b1 f1 b2 f2).as,H3 c=none) :
  XO g (lay H3 (cT x1 x2 x3 x4 b1 f1 b2 f2)) f (bU sl bd lo) lo/\Xv (lay H3 (cT x1 x2 x3 x4 b1 f1 b2 f2)) P/\∀ a o,a≠P->H a=some o->lay H3 (cT x1 x2 x3 x4 b1 f1 b2 f2) a=some o:=by
 have hin:=Q2 (H:=H3) nd;have out:∀ {a:Addr} {o:HO},H3 a=some o->lay H3 (cT x1 x2 x3 x4 b1 f1 b2 f2) a=some o:=fun {a o} e=>by
  rw [WP fun hm=>?_]
  ·exact e
  ·rw [hc a hm] at e;cases e
 have hc0:∀ a∈(cT x1 x2 x3 x4 b1 f1 b2 f2).as,H a=none:=fun a ha=>by
  have z:=hc a ha
  cases h:H a with
  | none=>rfl
  | some o =>
   exfalso;by_cases c:a=P
   ·subst c;rw [kT] at z;cases z
   ·rw [keep a o c h] at z;cases z
 have kk:∀ a o,a≠P->H a=some o->lay H3 (cT x1 x2 x3 x4 b1 f1 b2 f2) a=some o:=fun a o h1 h2=>out (keep a o h1 h2)
 exact ⟨Yey F0 nd ⟨out kf,out kcf,hin⟩ op (Kt.nl (Vi kk hT)) hc0,.inr ⟨cf,out kT,out kcf⟩,kk⟩
theorem Qy {k:Nat} {Z4 Z5 Z1 Z2 Z3 Z0:Addr} {aq ao:Addr} {ak aj:Addr} {aA au:Addr} (R:g.dI "deed_judge" "deed_judge" uf ["begin","done","model_begin","model_done"] aq) (bm:Bm g.mg g.base) (ju:W.CodeHd g.base aq ao) (mY:g.Fn 29 "apart" ["begin","done","model_begin","model_done","deeds"] (fZ g)):g.Fn (k+1) "deed_judge" ["begin","done","model_begin","model_done"] (BL g ao):=by
 refine R.Ie Qv (fun vs H Q E h=>by obtain ⟨b1,f1,b2,f2,sl,bd,lo,rfl,op,ht,q⟩:=h;rfl) fun f_ A outer s H vs Q E hr h=>?_
 obtain ⟨b1,f1,b2,f2,sl,bd,lo,rfl,op,ht,q⟩:=h;refine ⟨_,(@HX _ _ _ _ (@HW _ _ _ _ _ _ _ _ _ bm ju rfl rfl (Eq.trans rfl V2) rfl)),?_⟩;have vJ:∀ n:Nat,(cT (n+1) (n+1+1) (n+1+1+1) (n+1+1+1+1) b1 f1 b2 f2).as.Nodup:=fun n=>by
  show List.Nodup [n+1+1+1+1,n+1+1+1,n+1+1,n+1]
  simp;omega
 rcases ht with ht | ⟨c1,ht,hc1⟩
 ·refine ⟨_,ht,trivial,.inl ⟨rfl,fun f cf ff g1 g2 g3 ⟨pm,ctv,e⟩=>⟨cT (s.heap.objs.size+1) (s.heap.objs.size+1+1) (s.heap.objs.size+1+1+1) (s.heap.objs.size+1+1+1+1) b1 f1 b2 f2,⟨vJ _,fun z hz=>?_⟩,fun hc=>?_⟩⟩⟩
  ·simp only [List.mem_cons,List.not_mem_nil,or_false] at hz
   rcases hz with rfl | rfl | rfl | rfl
   ·exact ⟨3,rfl,rfl,rfl,rfl⟩
   ·exact ⟨2,rfl,rfl,rfl,rfl⟩
   ·exact ⟨1,rfl,rfl,rfl,rfl⟩
   ·exact ⟨0,rfl,rfl,rfl,rfl⟩
  ·subst e
   have fP:=Yj ht g1;have cP:=Yj ht g2;obtain ⟨r1,r2,r3⟩:=Qm (H:=H) (f:=f) (cf:=cf) mY (vJ _) op ht (by rw [Yc];rfl) (by rw [Yg (Ne.symm g3),Yc]) (by rw [Yg fP,Yg cP,Yc];rfl) (fun a o h1 h2=>by rw [Yg (Yj h2 g1),Yg (Yj h2 g2),Yg h1];exact h2) hc;exact q f _ r1 r2 r3
 ·refine ⟨_,ht,trivial,.inr ⟨c1,rfl,fun f ff g1 ⟨pm,ctv,e⟩=>⟨cT (s.heap.objs.size+1) (s.heap.objs.size+1+1) (s.heap.objs.size+1+1+1) (s.heap.objs.size+1+1+1+1) b1 f1 b2 f2,⟨vJ _,fun z hz=>?_⟩,fun hc=>?_⟩⟩⟩
  ·simp only [List.mem_cons,List.not_mem_nil,or_false] at hz
   rcases hz with rfl | rfl | rfl | rfl
   ·exact ⟨3,rfl,rfl,rfl,rfl⟩
   ·exact ⟨2,rfl,rfl,rfl,rfl⟩
   ·exact ⟨1,rfl,rfl,rfl,rfl⟩
   ·exact ⟨0,rfl,rfl,rfl,rfl⟩
  ·subst e
   obtain ⟨r1,r2,r3⟩:=Qm (H:=H) (f:=f) (cf:=c1) mY (vJ _) op ht (by rw [Yc];rfl) (by rw [Yg (Yj hc1 g1)];exact hc1) (by rw [Yg (Yj ht g1)];exact ht) (fun a o h1 h2=>by rw [Yg (Yj h2 g1)];exact h2) hc;exact q f _ r1 r2 r3
def YfI (K:W.Frag) (fv vs:List V) (H:Hp) (Q:VK):Prop:=∃ (bk:V) (m D:Addr) (lo:Int) (tn:Nat) (us:List V) (xs:List Dd),fv=[.ref m,bk]/\vs=[.ref D]/\Y9 H lo tn m .aR/\H D=some (.lst us)/\YV H lo us xs/\fC xs /\
 ∀ L ys H',Yf H H'->H L=none->H' L=some (.lst ys)->F2 (aM H' lo) ys ((nxs tn xs).map .ds)->(∀ y∈ys,Fs H y)->Q (.ref L) H'
theorem Z30 {k:Nat} {Z4 Z5 Z1 Z2 Z3 Z0:Addr} {f_ c_:Addr} {pm ctv:Value} {l:YE} (qb:g.Fn k "steps_of" ["book","shape","value"] (iD g.K)) (kY:g.Fn k "cuts" ["deeds"] (fY g.K)) (hl:l.map (·.1)=(["many","book"]:List Str)) (hnd:l.as.Nodup):aY g.P g.w g.K g.mg g.base cB (k+1) f_ (Zx l.cl c_ pm ctv) ["breach"] (fun vs H Q _=>Iu H f_ c_ (Zx l.cl c_ pm ctv) Zv l/\(YfI g.K) l.vs vs (off H l.as) fun v H'=>(∀ c∈l.as,H' c=none)->Q v (on H' H l.as)):=by
 refine Yfx (N:=["breach","many","book"]) (by rw [hl];exact Z2P) hnd (fun vs H Q h=>by obtain ⟨bk,m,D,lo,tn,us,xs,jm,rfl,hS,hD,al,ok,q⟩:=h;rfl) fun A outer s H vs Q hr h=>?_
 obtain ⟨bk,m,D,lo,tn,us,xs,jm,rfl,hS,hD,al,ok,q⟩:=h;refine ⟨_,(@Yt _ _ _ _ _ _ _ _ XC (@Yv _ _ _ _ _ _ _ _ _ _ _ _ kY hr (@Ya _ _ _ _ _ (pv 0) Yb (by rfl)) (by omega) (by rfl) (by rfl) (by decide) (by rfl) (by rfl)) (@Yv _ _ _ _ _ _ _ _ _ _ _ _ qb hr (@Ya _ _ _ _ _ (pv 2) (@Ya _ _ _ _ _ (pv 1) (@Ya _ _ _ _ _ (pv 0) Yb (by rfl)) (by rfl)) (by rfl)) (by omega) (by rfl) (by rfl) (by decide) (by rfl) (by rfl))),?_⟩;walk_at "rd";rw [jm];refine ⟨lo,D,us,xs,rfl,hD,al,ok.1,fun L ys H1 s1 gL hL hyl fr f2=>?_⟩;refine ⟨bk,lo,tn,m,D,us,xs,rfl,hS.kt (Yx s1),s1 _ _ hD,al.tp (YR (Yx s1)),ok.2,ok.1,fun v' H2 s2 BP ff2 hc=>?_⟩;obtain ⟨Z,es,rfl,hE,fe⟩:=Ky hc;have hel:=fe.len;have hst:=(Bg tn xs ok.1).1;rw [List.length_map] at hel
 refine ⟨L,rfl,Z,rfl,_,s2 _ _ hL,_,hE,few (by omega),fun P gP=>q P _ _ ((s1.trans s2).trans (.aF gP _)) ((s1.trans s2).free gP) Yc ?_ fun y hy=>?_⟩
 ·rw [nxs,List.map_append]
  exact F2.app (f2.imp fun _ _ h=>h.same (s2.trans (.aF gP _))) (fe.imp fun _ _ h=>h.same (.aF gP _))
 ·rcases List.mem_append.mp hy with hy | hy
  ·exact fr y hy
  ·exact fun b z=>s1.free (ff2 Z es rfl hE y hy b z)
def XQ (H:Hp) (P:Addr):Prop:=H P=some (.aU #[])\/∃ c,H P=some (.aU #[rawInt 601,rawInt 35,.ref c])/\H c=some (eN c Zv)
theorem XQ.kW {H H':Hp} {P:Addr} (h:XQ H P) (s:vI H H'):XQ H' P:=by
 rcases h with h | ⟨c1,h,h1⟩
 ·exact .inl (s _ _ (by intro _ z;cases z) h)
 ·exact .inr ⟨c1,s _ _ (by intro _ z;cases z) h,s _ _ (by intro _ z;cases z) h1⟩
theorem XQ.keep {H H':Hp} {P:Addr} (h:XQ H P) (s:Yf H H'):XQ H' P:=h.kW (U6 s)
theorem XQ.but {H H':Hp} {P P2:Addr} {ps:Array Value} (h:XQ H P) (hk:∀ a o,a≠P2->H a=some o->H' a=some o) (hP:H P2=some (.aU ps)) (n:P≠P2):XQ H' P:=by
 rcases h with h | ⟨c1,h,h1⟩
 ·exact .inl (hk _ _ n h)
 ·exact .inr ⟨c1,hk _ _ n h,hk _ _ (YG h1 hP (by intro z;cases z)) h1⟩
theorem aM.tl {H H':Hp} (t:Tp H H') (k:∀ b us,H b=some (.lst us)->H' b=some (.lst us)) {lo:Int} {v:V} {c:Cq} (h:aM H lo v c):aM H' lo v c:=by
 induction h with
 | bY i=>exact .bY i
 | st z=>exact .st z
 | tup a us c hc h hl _ ih=>exact .tup a us c hc (t _ _ h) hl ih
 | lst a us c hc h hl _ ih=>exact .lst a us c hc (k _ _ h) hl ih
theorem Qn {H Hz:Hp} {l:YE} (h:W1 H Hz l):Yf H Hz:=fun a o e=>by
 rw [h.2 a fun hm=>?_]
 ·exact e
 ·obtain ⟨p,hp,rfl⟩:=Xk hm
  obtain ⟨_,_,n⟩:=h.1 p hp;rw [n] at e
  cases e
theorem Fo {l:YE} {H:Hp} (hz:l.Z H) {a:Addr} {o:HO} (e:H a=some o) (n:∀ x u,o ≠ .bH x u):a∉l.as:=fun hm=>by
 obtain ⟨p,hp,rfl⟩:=Xk hm;obtain ⟨x,z⟩:=hz p hp;rw [z] at e
 exact n _ _ (Option.some.inj e).symm
theorem WA {l:YE} {H:Hp} (hz:l.Z H) {a:Addr} {o:HO} (e:H a=some o) (n:∀ x u,o ≠ .bH x u):off H l.as a=some o:=by rw [YS (Fo hz e n)];exact e
theorem rR {l:YE} {H:Hp} (hz:l.Z H):Tp H (off H l.as):=fun b xs e=>WA hz e (by intro _ _ z;cases z)
theorem Ni {l:YE} {H:Hp} (hz:l.Z H) {lo:Int} {v:V} {c:Cq} (h:aM H lo v c):aM (off H l.as) lo v c:=h.tl (rR hz) fun b us e=>WA hz e (by intro _ _ z;cases z)
theorem KC {l:YE} {H1 Hz H':Hp} (h:W1 H1 Hz l) (s:Kt Hz H'):Kt H1 (off H' l.as):=fun a o n e=>by
 rw [YS fun hm=>?_]
 ·exact s a o n (Qn h _ _ e)
 ·obtain ⟨p,hp,rfl⟩:=Xk hm
  obtain ⟨_,_,n⟩:=h.1 p hp;rw [n] at e
  cases e
theorem Nj {P:Addr} {l:YE} {H:Hp} (hz:l.Z H) (h:Xv H P):Xv (off H l.as) P:=by
 rcases h with h | ⟨c,h,h1⟩
 ·exact .inl (WA hz h (by intro _ _ z;cases z))
 ·exact .inr ⟨c,WA hz h (by intro _ _ z;cases z),WA hz h1 (by intro _ _ z;cases z)⟩
theorem Nk {P:Addr} {l:YE} {H:Hp} (hz:l.Z H) (h:XQ H P):XQ (off H l.as) P:=by
 rcases h with h | ⟨c,h,h1⟩
 ·exact .inl (WA hz h (by intro _ _ z;cases z))
 ·exact .inr ⟨c,WA hz h (by intro _ _ z;cases z),WA hz h1 (by intro _ _ z;cases z)⟩
theorem YfJ {l:YE} {H H':Hp} (s:Yf (off H l.as) H'):Yf H (on H' H l.as):=fun a o e=>by
 by_cases hm:a∈l.as
 ·rw [VT hm];exact e
 ·rw [Xd hm];exact s _ _ (by rw [YS hm];exact e)
theorem KD {l:YE} {H H':Hp} (hc:∀ c∈l.as,H' c=none):Yf H' (on H' H l.as):=fun a o e=>by
 rw [Xd fun hm=>by rw [hc a hm] at e;cases e];exact e
abbrev iG (x1 x2 m:Addr) (bk:V):YE:=[("many",x2,.ref m),("book",x1,bk)]
theorem Yez {g:Gx} {Hz:Hp} {f c x1 x2 m:Addr} {bk:V} {lo:Int} {tn:Nat} {pm ctv:Value} (F0:g.Fn 59 "cuts" ["deeds"] (fY g.K)) (F1:g.Fn 59 "steps_of" ["book","shape","value"] (iD g.K)) (nd:(iG x1 x2 m bk).as.Nodup)
  (hf:Hz f=some (bZ f (Zx (iG x1 x2 m bk).cl c pm ctv))) (hc:Hz c=some (eN c Zv)) (hz:(iG x1 x2 m bk).Z Hz) (hS:Y9 Hz lo tn m .aR):Kr g Hz f lo tn:=by
 have F:=Z30 (g:=g) (k:=59) (Z4:=0) (Z5:=0) (Z1:=0) (Z2:=0) (Z3:=0) (Z0:=0) (f_:=f) (c_:=c) (pm:=pm) (ctv:=ctv) (l:=iG x1 x2 m bk) F1 F0 rfl nd;refine ⟨_,_,⟨F,fun us hl=>?_⟩,hf,fun H1 D us xs Q s1 hD al ok hk=>?_⟩
 ·match us,hl with
  | [_],_=>rfl
 ·have z1:=hz.keep s1
  refine ⟨s1 _ _ hf,⟨s1 _ _ hf,s1 _ _ hc,z1⟩,bk,m,D,lo,tn,us,xs,rfl,rfl,(hS.kt (Yx s1)).tp (rR z1),WA z1 hD (by intro _ _ z;cases z),al.tp (rR z1),ok,fun L ys H' s' gL hL f2 fr hcc=>?_⟩;have out:∀ {a:Addr} {o:HO},H' a=some o->a∉(iG x1 x2 m bk).as:=fun e hm=>by rw [hcc _ hm] at e;cases e
  refine hk L ys _ (YfJ s') (by rw [YS (out hL)] at gL;exact gL) (KD hcc _ _ hL) (f2.imp fun _ _ h=>h.same (KD hcc)) fun y hy b z=>?_
  obtain ⟨i,hi⟩:=List.getElem?_of_mem hy;have hl:=f2.len;rw [List.length_map] at hl
  have hlt:=(List.getElem?_eq_some_iff.mp hi).1;have h2:((nxs tn xs).map Cq.ds)[i]?=some (.ds ((nxs tn xs)[i]'(by omega))):=by rw [List.getElem?_map,List.getElem?_eq_getElem];rfl
  obtain ⟨D',us',e,hD',_⟩:=X7 (f2.get i y _ hi h2);rw [z] at e
  cases e
  have:=fr y hy b z;rw [YS (out hD')] at this
  exact this
inductive kZ (g:Gx) (PJ PS C:Addr) (vs:List V) (H:Hp) (Q:VK) (E:XK):Prop
 | mk (bk:V) (a b1 f1 b2 f2 D:Addr) (sl bd:Nat) (lo:Int) (tn:Nat) (us:List V) (xs:List Dd) (h0:vs=[bk,.ref a,.ref b1,.ref f1,.ref b2,.ref f2,.ref D]) (h1:Y9 H lo tn a .pk) (h2:Ops g H b1 f1 b2 f2 sl bd lo) (h3:H D=some (.lst us)) (h4:YV H lo us xs) (h5:fC xs) (h6:bw xs<=1000) (h7:Xv H PJ) (h8:XQ H PS) (h9:PJ≠PS) (h10:(∀ H',Kt H H'->bU sl bd lo xs=none->E (.ref C) none H')) (h11:∀ B ys w H',Kt H H'->H B=none->H' B=some (.lst ys)->(bU sl bd lo xs).isSome=true->Way (bU sl bd lo) tn xs w->F2 (aM H' lo) ys (w.map .ds)->(∀ y∈ys,Fs H y)->Xv H' PJ->XQ H' PS->Q (.ref B) H')
theorem Z43 {k:Nat} {Z4 Z5 Z1 Z2 Z3 Z0:Addr} {aq ao:Addr} {ak aj:Addr} {aA au:Addr} (R:g.dI "shrunk_deeds" "shrunk_deeds" ZN ["book","shape","begin","done","model_begin","model_done","deeds"] ak) (bm:Bm g.mg g.base) (iH:W.CodeHd g.base ak aj) (BR:g.Fn k "deed_judge" ["begin","done","model_begin","model_done"] (BL g ao)) (Bh:g.Fn k "refuse_no_value" ["book","shape","value"] (jX g.K)) (qb:g.Fn 59 "steps_of" ["book","shape","value"] (iD g.K)) (lH:g.eH k "shrunk_by" ["judge","value","values_next"] (kJ g Z4)) (kY:g.Fn 59 "cuts" ["deeds"] (fY g.K)):g.eH (k+1) "shrunk_deeds" ["book","shape","begin","done","model_begin","model_done","deeds"] (kZ g ao aj Z4):=by
 refine R.fnX yZ (fun vs H Q E h=>by obtain ⟨bk,a,b1,f1,b2,f2,D,sl,bd,lo,tn,us,xs,rfl,hS,op,hD,al,ok,hz,tj,ts,np,q0,q1⟩:=h;rfl) fun f_ A outer s H vs Q E hr h=>?_
 obtain ⟨bk,a,b1,f1,b2,f2,D,sl,bd,lo,tn,us,xs,rfl,hS,op,hD,al,ok,hz,tj,ts,np,q0,q1⟩:=h;refine ⟨_,(@Yd _ _ _ _ _ (PS.cN (@Yr _ _ (7) _ _ _ _ yZ.nd rfl (.inr rfl) (@YO _ _ _ _ _ (@Ya _ _ _ _ _ YC (@Ya _ _ _ _ _ (pv 1) Yb (by rfl)) (by rfl))) (by rfl) (by first | exact .inl rfl | exact .inr rfl | assumption))) (@Yd _ _ _ _ _ (PS.cN (@Y4 _ _ _ _ (@Yv _ _ _ _ _ _ _ _ _ _ _ _ Bh hr (@Ya _ _ _ _ _ (pv 0) (@Ya _ _ _ _ _ (pv 7) (@Ya _ _ _ _ _ (pv 6) Yb (by rfl)) (by rfl)) (by rfl)) (by omega) (by rfl) (by rfl) (by decide) (by rfl) (by rfl)) (by rfl))) (@Yd _ _ _ _ _ (PS.cN (@Yr _ _ (8) _ _ _ _ yZ.nd rfl (.inl rfl) (@Yv _ _ _ _ _ _ _ _ _ _ _ _ BR hr (@Ya _ _ _ _ _ (pv 2) (@Ya _ _ _ _ _ (pv 3) (@Ya _ _ _ _ _ (pv 4) (@Ya _ _ _ _ _ (pv 5) Yb (by rfl)) (by rfl)) (by rfl)) (by rfl)) (by omega) (by rfl) (by rfl) (by decide) (by rfl) (by rfl)) (by rfl) (by first | exact .inl rfl | exact .inr rfl | assumption))) (@Ye _ _ _ (@Yn _ _ _ _ (@Yeg _ _ _ _ _ _ _ _ _ _ _ _ _ _ _ _ _ _ _ _ _ lH hr (@Ya _ _ _ _ _ (pv 8) (@Ya _ _ _ _ _ (pv 6) (@Ya _ _ _ _ _ (@HW _ _ _ _ _ _ _ _ _ bm iH rfl rfl (Eq.trans rfl Vu) rfl) Yb (by rfl)) (by rfl)) (by rfl)) (by omega) (by rfl) (by decide) (by rfl) (by rfl))))))),?_⟩;have hv:∀ {H':Hp},Yf H H'->Vx H' lo .aR (.ref D) (bw xs):=fun s => .aR D us xs (s _ _ hD) al.1 ok.1 fun i u x e1 e2=>⟨(al.2 i u x e1 e2).kt (Yx s),ok.2 x (List.mem_of_getElem? e2)⟩
 refine Ym fun R rr=>?_
 walk_at "rd";refine ⟨few (by decide),fun m gm=>rr _ _ (Ym fun R rr=>?_)⟩;have sm:=Yf.aF gm (.tup [.str "many",.ref a]);have hM:Y9 (upd H m (.tup [.str "many",.ref a])) lo tn m .aR:=(hS.kt (Yx sm)).many Yc;walk_at "rd";refine ⟨bk,lo,tn,m,.aR,.ref D,_,rfl,hM,hv sm,fun H1 s1=>rr _ _ (Ym fun R rr=>?_)⟩;have sA:=sm.trans s1;walk_at "rd";refine ⟨b1,f1,b2,f2,sl,bd,lo,rfl,op.nl (XL sA),tj.keep sA,fun f H2 jo BW k2=>rr _ _ ?_⟩;obtain ⟨psj,hpj⟩:=(tj.keep sA).aU;obtain ⟨afA,Nm⟩:=BW.aU;have ts2:=(ts.keep sA).but k2 hpj (Ne.symm np);have BX:Kt H H2:=(Yx sA).trans (Vi k2 hpj);have BP:∀ {b:Addr},H2 b=none->H b=none:=fun {b} e=>by
  by_cases c:b=ao
  ·rw [c,Nm] at e;cases e
  ·cases h:H b with
   | none=>rfl
   | some o=>rw [k2 b o c (sA _ _ h)] at e;cases e
 have KH:∀ n:Nat,(iG (n+1) (n+1+1) m bk).as.Nodup:=fun n=>by
  show List.Nodup [n+1+1,n+1]
  simp
 have fin:∀ (fn c:Addr) (pm ctv:Value) (H3:Hp),Kt H2 H3->(∀ b,H3 b=none->H2 b=none)->Xv H3 ao->XQ H3 aj->H3 fn=some (bZ fn (Zx (iG (s.heap.objs.size+1) (s.heap.objs.size+1+1) m bk).cl c pm ctv))->H3 c=some (eN c Zv)->∃ l,
   XN (g.cI [Str.ofString "book",Str.ofString "shape",Str.ofString "begin",Str.ofString "done",Str.ofString "model_begin",Str.ofString "model_done",Str.ofString "deeds",Str.ofString "many",Str.ofString "judge"] (Str.ofString "shrunk_deeds") ZN f_ (Value.ref ak) A outer s H E) [some bk,some (V.ref a),some (V.ref b1),some (V.ref f1),some (V.ref b2),some (V.ref f2),some (V.ref D),some (V.ref m),some (V.ref f)] l /\
    ((∀ (c:Addr),c∈l.as->H3 c=none)->∀ (Hz:Hp),W1 H3 Hz l->kJ g Z4 [.ref f,.ref D,.ref fn] Hz (fun v H'=>Q v (off H' l.as)) fun c d H'=>E c d (off H' l.as)):=by
  intro fn c pm ctv H3 k3 lY BZ Ca hfn hc;refine ⟨iG (s.heap.objs.size+1) (s.heap.objs.size+1+1) m bk,⟨KH _,fun z hz=>?_⟩,fun _ Hz hL=>?_⟩
  ·simp only [List.mem_cons,List.not_mem_nil,or_false] at hz
   rcases hz with rfl | rfl
   ·exact ⟨7,rfl,rfl,rfl,rfl⟩
   ·exact ⟨0,rfl,rfl,rfl,rfl⟩
  ·have sz:=Qn hL
   have zz:=hL.z;have kz:Kt H Hz:=(BX.trans k3).trans (Yx sz);have kM:Kt (upd H m (.tup [.str "many",.ref a])) Hz:=((Yx s1).trans (Vi k2 hpj)).trans (k3.trans (Yx sz));refine ⟨f,D,fn,bU sl bd lo,lo,tn,us,xs,rfl,jo.nl (Kt.nl (k3.trans (Yx sz))),Yez kY qb (KH _) (sz _ _ hfn) (sz _ _ hc) zz (hM.kt kM),kz.lst hD,al.tp (YR kz),ok,hz,fun H' s' e=>q0 _ ((BX.trans k3).trans (KC hL (Yx s'))) e,fun B ys w H' s' gB hB hap way f2 fr=>?_⟩;have z':=zz.keep s';exact q1 B ys w _ ((BX.trans k3).trans (KC hL (Yx s'))) (BP (lY _ (sz.free gB))) (WA z' hB (by intro _ _ z;cases z)) hap way (f2.imp fun _ _ h=>Ni z' h) (fun y hy b z=>BP (lY _ (sz.free (fr y hy b z)))) (Nj z' (BZ.keep (sz.trans s'))) (Nk z' (Ca.keep (sz.trans s')))
 walk_at "rd";unfold Iv;walk_at "rd";rcases ts2 with ht | ⟨c,ht,hc⟩
 ·refine ⟨_,ht,trivial,.inl ⟨rfl,fun fn c fd g1 g2 g3 ⟨pm,ctv,e⟩=>?_⟩⟩
  subst e;have n1:=Yj ht g1;have n2:=Yj ht g2;have kk:∀ (o1 o2 o3:HO) a o,a≠aj->H2 a=some o->upd (upd (upd H2 aj o1) c o2) fn o3 a=some o:=fun o1 o2 o3 a o h1 h2=>by rw [Yg (Yj h2 g1),Yg (Yj h2 g2),Yg h1];exact h2
  exact fin fn c pm ctv _ (Vi (kk _ _ _) ht) (fun b e=>Xa (Xa (Xa e))) (BW.but (kk _ _ _) ht np) (.inr ⟨c,by rw [Yg n1,Yg n2,Yc];rfl,by rw [Yg (Ne.symm g3),Yc]⟩) Yc (by rw [Yg (Ne.symm g3),Yc])
 ·refine ⟨_,ht,trivial,.inr ⟨c,rfl,fun fn fd g1 ⟨pm,ctv,e⟩=>?_⟩⟩
  subst e;have su:=Yf.aF g1 (bZ fn (Zx (iG (s.heap.objs.size+1) (s.heap.objs.size+1+1) m bk).cl c pm ctv));exact fin fn c pm ctv _ (Yx su) (fun b e=>su.free e) (BW.keep su) (XQ.keep (.inr ⟨c,ht,hc⟩) su) Yc (su _ _ hc)
inductive qd (g:Gx) (vs:List V) (H:Hp) (Q:VK) (E_:XK):Prop
 | mk (bk:V) (a f1 B:Addr) (sl bd:Nat) (lo:Int) (tn:Nat) (ys:List V) (w:List (List Dd)) (xs:List Dd) (h0:vs=[bk,.ref a,.ref f1,.ref B]) (h1:Y9 H lo tn a .pk) (h2:XD g H f1 sl bd lo) (h3:H B=some (.lst ys)) (h4:F2 (aM H lo) ys (w.map .ds)) (h5:Way (bU sl bd lo) tn xs w) (h6:(bU sl bd lo xs).isSome=true) (h7:fC xs) (h8:w.length<=2000) (h9:∀ H',Yf H H'->Q (.bl true) H')
inductive Cd (H1:Hp) (lo:Int) (ap:List Dd->Option Nat) (L:List (List Dd)) (bk:V) (a f1 B:Addr) (i:Nat) (j:Nat) (σ:St) (H2:Hp):Prop
 | no (o6:Option V) (e:σ=[some bk,some (.ref a),some (.ref f1),some (.ref B),some (.int (i:Nat)),some .non,o6]) (s:Yf H1 H2) (n:nx ap L=nx ap (L.drop j)):Cd H1 lo ap L bk a f1 B i j σ H2
 | at_ (o6:Option V) (D:Addr) (l:List Dd) (e:σ=[some bk,some (.ref a),some (.ref f1),some (.ref B),some (.int (i:Nat)),some (.ref D),o6]) (s:Yf H1 H2) (n:nx ap L=some l) (c:aM H2 lo (.ref D) (.ds l)):Cd H1 lo ap L bk a f1 B i j σ H2
theorem Ycl {k:Nat} {Z4 Z5 Z1 Z2 Z3 Z0:Addr} {aq ao:Addr} {ak aj:Addr} {aA au:Addr} (R:g.Raw "_law_way" "_law_way" zu ["_law_book","_law_shape","_law_done","_law_found"]) (vK:g.Fn k "_law_place" ["_law_done","_law_deeds"] (gJ g)) (lJ:g.Fn k "_law_nexts" ["_law_book","_law_shape","_law_deeds"] (kO g.K)) (aK:g.mg "len"=none) (Zl:g.mg "range"=none):g.Fn (k+1) "_law_way" ["_law_book","_law_shape","_law_done","_law_found"] (qd g):=by
 refine R.fn oY (fun vs H Q E h=>by obtain ⟨bk,a,f1,B,sl,bd,lo,tn,ys,w,xs,rfl,hS,hf,hB,f2,way,hap,ok,hl,q⟩:=h;rfl) fun f_ cdv A outer s H vs Q E hr h=>?_
 obtain ⟨bk,a,f1,B,sl,bd,lo,tn,ys,w,xs,rfl,hS,hf,hB,f2,way,hap,ok,hl,q⟩:=h;refine ⟨_,(@Yd _ _ _ _ _ (@Xo _ _ _ _ _ _ _ _ PassesOwn.never rfl (@Wf _ _ _ _ _ _ rfl Zl (@Ya _ _ _ _ _ (@YH _ _ _ _ _ _ _ _ _ _ aK Yy (@Ya _ _ _ _ _ (pv 3) Yb (by rfl)) (by decide +kernel) (by rfl) (by rfl) (by decide) (by decide) (by rfl) (by rfl)) Yb (by rfl)) (by rfl)) (@Yz _ _ (4) _ oY.nd rfl (.inl rfl) (by first | exact .inl rfl | exact .inr rfl | assumption)) (@Yd _ _ _ _ _ (@Yr _ _ (5) _ _ _ _ oY.nd rfl (.inl rfl) YW (by rfl) (by first | exact .inl rfl | exact .inr rfl | assumption)) (@Yd _ _ _ _ _ (@Xo _ _ _ _ _ _ _ _ PassesOwn.never rfl (@Xj _ _ _ _ (@Yv _ _ _ _ _ _ _ _ _ _ _ _ lJ hr (@Ya _ _ _ _ _ (pv 0) (@Ya _ _ _ _ _ (pv 1) (@Ya _ _ _ _ _ (@Ys _ _ _ _ _ _ _ YL (pv 3) (pv 4) (fun _ _=>rfl)) Yb (by rfl)) (by rfl)) (by rfl)) (by omega) (by rfl) (by rfl) (by decide) (by rfl) (by rfl))) (@Yz _ _ (6) _ oY.nd rfl (.inl rfl) (by first | exact .inl rfl | exact .inr rfl | assumption)) (@Ye _ _ _ (@Yu _ _ _ _ _ _ _ _ (@WB _ _ _ _ _ _ _ (@Yo _ _ _ _ _ _ _ _ XM (pv 5) YW (Yl _)) (@We _ _ _ _ (@Yo _ _ _ _ _ _ _ _ Wg (@Yv _ _ _ _ _ _ _ _ _ _ _ _ vK hr (@Ya _ _ _ _ _ (pv 2) (@Ya _ _ _ _ _ (pv 6) Yb (by rfl)) (by rfl)) (by omega) (by rfl) (by rfl) (by decide) (by rfl) (by rfl)) YW (Yl _)))).pt (@Ye _ _ _ (@Yr _ _ (5) _ _ _ _ oY.nd rfl (.inl rfl) (pv 6) (by rfl) (by first | exact .inl rfl | exact .inr rfl | assumption))) Yq)) (by intro _;rfl)) (@Yd _ _ _ _ _ (@Yu _ _ _ _ _ _ _ _ (@Yo _ _ _ _ _ _ _ _ XM (pv 5) YW (Yl _)) (@Ye _ _ _ (@Yn _ _ _ _ (@XS _ _ _ _ _ _ _ (@Y2 _ _ _ _ _ _ _ _ YJ (pv 4) (@Yt _ _ _ _ _ _ _ _ Xz (@YH _ _ _ _ _ _ _ _ _ _ aK Yy (@Ya _ _ _ _ _ (pv 3) Yb (by rfl)) (by decide +kernel) (by rfl) (by rfl) (by decide) (by decide) (by rfl) (by rfl)) Yh) (Yl _)) (@XB _ _ _ _ _ (@Y2 _ _ _ _ _ _ _ _ YJ (@Yv _ _ _ _ _ _ _ _ _ _ _ _ vK hr (@Ya _ _ _ _ _ (pv 2) (@Ya _ _ _ _ _ (@Ys _ _ _ _ _ _ _ YL (pv 3) (pv 4) (fun _ _=>rfl)) Yb (by rfl)) (by rfl)) (by omega) (by rfl) (by rfl) (by decide) (by rfl) (by rfl)) (@Yt _ _ _ _ _ _ _ _ Xz (@YH _ _ _ _ _ _ _ _ _ _ aK Yy (@Ya _ _ _ _ _ (@Ys _ _ _ _ _ _ _ YL (pv 3) (pv 4) (fun _ _=>rfl)) Yb (by rfl)) (by decide +kernel) (by rfl) (by rfl) (by decide) (by decide) (by rfl) (by rfl)) Yh) (Yl _)))))) Yq) (@Ye _ _ _ (@Yu _ _ _ _ _ _ _ _ (@X4 _ _ _ _ _ _ _ (@Yo _ _ _ _ _ _ _ _ YJ (pv 4) (@Yt _ _ _ _ _ _ _ _ Xz (@YH _ _ _ _ _ _ _ _ _ _ aK Yy (@Ya _ _ _ _ _ (pv 3) Yb (by rfl)) (by decide +kernel) (by rfl) (by rfl) (by decide) (by decide) (by rfl) (by rfl)) Yh) (Yl _)) (@Wk _ _ _ _ (@Yo _ _ _ _ _ _ _ _ (G8 hr.units) (pv 5) (@Ys _ _ _ _ _ _ _ YL (pv 3) (@Yt _ _ _ _ _ _ _ _ Xi (pv 4) Yh) (fun _ _=>rfl)) (Yl _)))).pt (@Ye _ _ _ (@Yn _ _ _ _ Wj)) Yq))))) (by intro _;rfl)) (@Ye _ _ _ (@Yn _ _ _ _ Wj))),?_⟩;have yl:=f2.len;rw [List.length_map] at yl
 obtain ⟨r,bD⟩:=way.head;have wl:0<w.length:=by rw [bD];exact Nat.succ_pos _
 refine Ym fun R rr=>?_
 refine W6 (n:=ys.length) (fun i σ H'=>(∃ o4 o5 o6,σ=[some bk,some (.ref a),some (.ref f1),some (.ref B),o4,o5,o6])/\Yf H H'/\i<ys.length) (fun R r=>by walk_at "rd";exact ⟨_,.inl (aG.of hB),r⟩) (by omega) ⟨⟨_,_,_,rfl⟩,.refl _,by omega⟩ ?_ ?_
 ·rintro i σ H' hi ⟨⟨o4,o5,o6,rfl⟩,sm,_⟩
  have hy:ys[i]?=some ys[i]:=List.getElem?_eq_getElem hi;generalize ys[i]=y at hy;have hw:w[i]?=some (w[i]'(by omega)):=List.getElem?_eq_getElem _;generalize w[i]'(by omega)=l at hw;obtain ⟨lap,vL,llen⟩:=way.ok hap ok.2 l (List.mem_of_getElem? hw);have rT:l.length<=100:=Nat.le_trans llen ok.1;obtain ⟨D,us,rfl,hD,al⟩:=X7 (f2.get i y (.ds l) hy (by rw [List.getElem?_map,hw];rfl));have hnx:=way.at_ i l hw;refine Ym fun R rr=>?_
  walk_at "rd";refine rr _ _ (Ym fun R rr=>?_);refine WK (K:=g.K) (fun L zs H1=>Yf H' H1/\H1 L=some (.lst zs)/\F2 (aM H1 lo) zs ((nxs tn l).map .ds)) (fun R r=>?_) ?_
  ·walk_at "rd"
   refine ⟨_,aG.of (sm _ _ hB),_,Yk hy,bk,lo,tn,a,D,us,l,rfl,hS.kt (Yx sm),sm _ _ hD,al.tp (YR (Yx sm)),⟨rT,vL⟩,fun L zs H1 s1 hL g1=>r L zs H1 (aG.of hL) ⟨s1,hL,g1⟩⟩
  ·rintro L zs H1 _ ⟨s1,hL,g1⟩
   have zl:=g1.len;rw [List.length_map] at zl
   refine ⟨Cd H1 lo (bU sl bd lo) (nxs tn l) bk a f1 B i,.no _ rfl (.refl _) rfl,fun j σ H2 _ h=>?_,?_,?_⟩
   ·cases h with
    | no _ _ s _=>exact aG.of (s _ _ hL)
    | at_ _ _ _ _ s _ _=>exact aG.of (s _ _ hL)
   ·intro j z σ H2 hz h
    have hjl:=(List.getElem?_eq_some_iff.mp hz).1;have hn:(nxs tn l)[j]?=some ((nxs tn l)[j]'(by omega)):=List.getElem?_eq_getElem _;generalize (nxs tn l)[j]'(by omega)=l' at hn;have cz:=g1.get j z (.ds l') hz (by rw [List.getElem?_map,hn];rfl);have m5:=VY vL (List.mem_of_getElem? hn)
    cases h with
    | no o6 e s n =>
     subst e;obtain ⟨D',us',rfl,hD',fB⟩:=X7 (cz.same s);walk_at "rd";refine ⟨f1,D',sl,bd,lo,us',l',rfl,hf.nl (XL ((sm.trans s1).trans s)),hD',fB,Nat.le_trans m5.len rT,m5.ok vL,fun H3 s3=>?_⟩;rw [Km hn] at n
     cases hp:bU sl bd lo l' with
     | none =>
      rw [hp] at n
      exact .no _ rfl (s.trans s3) n
     | some k =>
      rw [hp] at n
      exact .at_ _ D' l' rfl (s.trans s3) n ((cz.same s).same s3)
    | at_ o6 D' l2 e s n c =>
     subst e;walk_at "rd";exact .at_ _ D' l2 rfl s n c
   ·intro σ H2 h
    refine rr _ _ ?_
    cases h with
    | no o6 e s n =>
     subst e;rw [zl,List.drop_length] at n
     rw [n,Ygh] at hnx
     have tQ:i=ys.length - 1:=by
      have:¬ i+1<w.length:=fun c=>by rw [List.getElem?_eq_getElem c] at hnx;cases hnx
      omega
     have s2:=(sm.trans s1).trans s;refine Ym fun R rr=>?_
     walk_at "rd";refine ⟨_,.inl (aG.of (s2 _ _ hB)),YU (by omega) ⟨_,aG.of (s2 _ _ hB),_,Yk hy,f1,D,sl,bd,lo,us,l,rfl,hf.nl (XL s2),s2 _ _ hD,al.tp (YR (Yx s2)),rT,vL,fun H3 s3=>?_⟩⟩;refine ⟨_,aG.of (s3 _ _ (s2 _ _ hB)),_,Yk hy,D,rfl,_,.inl (aG.of (s3 _ _ (s2 _ _ hD))),?_⟩;obtain ⟨j,hj⟩:=Option.isSome_iff_exists.mp lap;have ar:=Yet hj n;have ul:=al.1;rw [hj];refine ⟨rfl,?_⟩;rw [decide_eq_true (by show V.int (j:Nat)=_;congr 1;omega)];exact q H3 (s2.trans s3)
    | at_ o6 D' l2 e s n c =>
     subst e;rw [n] at hnx
     have hi1:i+1<w.length:=(List.getElem?_eq_some_iff.mp hnx.symm).1;have hy1:ys[i+1]?=some (ys[i+1]'(by omega)):=List.getElem?_eq_getElem _;generalize ys[i+1]'(by omega)=y1 at hy1;have c1:=f2.get (i+1) y1 (.ds l2) hy1 (by rw [List.getElem?_map,<- hnx];rfl);have s2:=(sm.trans s1).trans s;refine Ym fun R rr=>?_
     walk_at "rd";refine rr _ _ ?_;walk_at "rd";have c2:=UG (K:=g.K) c;refine ⟨_,.inl (aG.of (s2 _ _ hB)),YA (by omega) ⟨_,aG.of (s2 _ _ hB),y1,(by rw [show ((i:Int)+1)=((i+1:Nat):Int) from rfl];exact Yk hy1),_,c2,_,UG (c1.same s2),Nat.le_trans (Vq lo l2) (by decide),YA ?_ ⟨s2,by omega⟩⟩⟩;rw [PySem.SeqAt.eqv_refl _ c2.lay]
     decide
 ·rintro σ H' ⟨⟨o4,o5,o6,rfl⟩,sm,h⟩
  omega
inductive m6 (g:Gx) (PJ PS:Addr) (vs:List V) (H:Hp) (Q:VK) (E_:XK):Prop
 | mk (bk:V) (a f1 D:Addr) (sl bd:Nat) (lo:Int) (tn:Nat) (us:List V) (xs:List Dd) (h0:vs=[bk,.ref a,.ref f1,.ref D]) (h1:Y9 H lo tn a .pk) (h2:XD g H f1 sl bd lo) (h3:H D=some (.lst us)) (h4:YV H lo us xs) (h5:fC xs) (h6:bw xs<=1000) (h7:Xv H PJ) (h8:XQ H PS) (h9:PJ≠PS) (h10:bU sl bd lo xs=none) (h11:∀ H',Kt H H'->Q (.bl true) H')
theorem Z4a {k:Nat} {Z4 Z5 Z1 Z2 Z3 Z0:Addr} {aq ao:Addr} {ak aj:Addr} {aA au:Addr} (R:g.Raw "_law_refused" "_law_refused" zx ["_law_book","_law_shape","_law_done","_law_deeds"]) (vM:g.eH k "shrunk_deeds" ["book","shape","begin","done","model_begin","model_done","deeds"] (kZ g ao aj Z4)) (Zo:g.Fn 2 "_law_begin" [] (XX)) (ZC:g.Fn 2 "_law_model" ["_law_state","_law_deed"] (dZ g.K)) (hkv:2<=k) (bQ:g.mg "NoBreach"=some (.ref Z4)) (bx:W.exmOne g.K (.ref Z4) (.ref Z4)=some true):g.Fn (k+1) "_law_refused" ["_law_book","_law_shape","_law_done","_law_deeds"] (m6 g ao aj):=by
 refine R.fn Z46 (fun vs H Q E h=>by obtain ⟨bk,a,f1,D,sl,bd,lo,tn,us,xs,rfl,hS,hf,hD,al,ok,hz,tj,ts,np,hap,q⟩:=h;rfl) fun f_ cdv A outer s H vs Q E hr h=>?_
 obtain ⟨bk,a,f1,D,sl,bd,lo,tn,us,xs,rfl,hS,hf,hD,al,ok,hz,tj,ts,np,hap,q⟩:=h;refine ⟨_,(@Yd _ _ _ _ _ (@Yeh _ _ _ _ _ _ _ _ _ _ _ _ _ _ _ _ _ _ _ _ _ vM hr (@Ya _ _ _ _ _ (pv 0) (@Ya _ _ _ _ _ (pv 1) (@Ya _ _ _ _ _ (@Xe _ _ _ _ _ _ _ Zo (by rfl) (by rfl) (by decide)) (@Ya _ _ _ _ _ (pv 2) (@Ya _ _ _ _ _ (@Xe _ _ _ _ _ _ _ Zo (by rfl) (by rfl) (by decide)) (@Ya _ _ _ _ _ (@Xe _ _ _ _ _ _ _ ZC (by rfl) (by rfl) (by decide)) (@Ya _ _ _ _ _ (pv 3) Yb (by rfl)) (by rfl)) (by rfl)) (by rfl)) (by rfl)) (by rfl)) (by rfl)) bQ (fun _=>(@Ye _ _ _ (@Yn _ _ _ _ Wj))) (by omega) (by rfl) (by rfl) (by rfl) (by rfl) (by rfl) (by decide) (by decide) (by rfl) (by rfl) (by rfl)) (@Ye _ _ _ (@Yn _ _ _ _ Wj))),?_⟩;refine Ym fun R rr=>?_
 unfold IK;walk_at "rd";exact fun b1 h1 b2 h2 f2 h3=>⟨bk,a,b1,f1,b2,f2,D,sl,bd,lo,tn,us,xs,rfl,hS,⟨h1,hf,h2,h3⟩,hD,al,ok,hz,tj,ts,np,fun H' k' _=>⟨bx,q H' k'⟩,fun B ys w H' _ _ _ h=>by rw [hap] at h;cases h⟩
inductive qe (g:Gx) (PJ PS:Addr) (vs:List V) (H:Hp) (Q:VK) (E_:XK):Prop
 | mk (bk:V) (a f1 D jf:Addr) (sl bd:Nat) (lo:Int) (tn:Nat) (us:List V) (xs:List Dd) (h0:vs=[bk,.ref a,.ref f1,.ref D,.ref jf]) (h1:Y9 H lo tn a .pk) (h2:XD g H f1 sl bd lo) (h3:XO g H jf (bU sl bd lo) lo) (h4:H D=some (.lst us)) (h5:YV H lo us xs) (h6:fC xs) (h7:bw xs<=1000) (h8:Xv H PJ) (h9:XQ H PS) (h10:PJ≠PS) (h11:(bU sl bd lo xs).isSome=true) (h12:∀ H',Kt H H'->Q (.bl true) H')
inductive MuV (H5:Hp) (ys:List V) (B:Addr) (bk:V) (a f1 D jf T:Addr) (c:Addr) (i:Nat) (σ:St) (H':Hp):Prop
 | mk (e:c=B) (o6:Option V) (eσ:σ=[some bk,some (.ref a),some (.ref f1),some (.ref D),some (.ref jf),some (.ref B),o6,some (.ref T)]) (nl:vI H5 H') (ls:∀ b us,V.ref b∉ys->H5 b=some (.lst us)->H' b=some (.lst us)) (at_:∀ y∈ys,∃ A us,y = .ref A/\H' A=some (.lst us)/\us.length<=100+i)
theorem Z4b {k:Nat} {Z4 Z5 Z1 Z2 Z3 Z0:Addr} {aq ao:Addr} {ak aj:Addr} {aA au:Addr} (R:g.Raw "_law_shrinks" "_law_shrinks" zy ["_law_book","_law_shape","_law_done","_law_deeds","_law_holds"]) (vM:g.eH k "shrunk_deeds" ["book","shape","begin","done","model_begin","model_done","deeds"] (kZ g ao aj Z4)) (Zo:g.Fn 2 "_law_begin" [] (XX)) (ZC:g.Fn 2 "_law_model" ["_law_state","_law_deed"] (dZ g.K)) (qg:g.Fn k "_law_way" ["_law_book","_law_shape","_law_done","_law_found"] (qd g)) (hkv:2<=k) (hkc:30<=k) (Z6:g.mg "isinstance"=none) (aN:g.mg "list"=none):g.Fn (k+1) "_law_shrinks" ["_law_book","_law_shape","_law_done","_law_deeds","_law_holds"] (qe g ao aj):=by
 refine R.fn ZO (fun vs H Q E h=>by obtain ⟨bk,a,f1,D,jf,sl,bd,lo,tn,us,xs,rfl,hS,hf,hj,hD,al,ok,hz,tj,ts,np,hap,q⟩:=h;rfl) fun f_ cdv A outer s H vs Q E hr h=>?_
 obtain ⟨bk,a,f1,D,jf,sl,bd,lo,tn,us,xs,rfl,hS,hf,hj,hD,al,ok,hz,tj,ts,np,hap,q⟩:=h;refine ⟨_,(@Yd _ _ _ _ _ (@Yr _ _ (5) _ _ _ _ ZO.nd rfl (.inl rfl) (@Hq _ _ _ _ _ _ _ _ _ _ _ _ _ vM hr Hy (@Ya _ _ _ _ _ (pv 0) (@Ya _ _ _ _ _ (pv 1) (@Ya _ _ _ _ _ (@Xe _ _ _ _ _ _ _ Zo (by rfl) (by rfl) (by decide)) (@Ya _ _ _ _ _ (pv 2) (@Ya _ _ _ _ _ (@Xe _ _ _ _ _ _ _ Zo (by rfl) (by rfl) (by decide)) (@Ya _ _ _ _ _ (@Xe _ _ _ _ _ _ _ ZC (by rfl) (by rfl) (by decide)) (@Ya _ _ _ _ _ (pv 3) Yb (by rfl)) (by rfl)) (by rfl)) (by rfl)) (by rfl)) (by rfl)) (by rfl)) (by omega) (by rfl) (by rfl) (by decide) (by rfl) (by rfl)) (by rfl) (by first | exact .inl rfl | exact .inr rfl | assumption)) (@Yd _ _ _ _ _ (@Yu _ _ _ _ _ _ _ _ (@X4 _ _ _ _ _ _ _ (@XR _ _ _ _ (@Xh _ _ _ (@YH _ _ _ _ _ _ _ _ _ _ Z6 YK (@Ya _ _ _ _ _ (pv 5) (@Ya _ _ _ _ _ (@Xq _ _ _ _ ("list") aN (by decide +kernel) (by rfl) (by rfl) (by decide) (by decide)) Yb (by rfl)) (by rfl)) (by decide +kernel) (by rfl) (by rfl) (by decide) (by decide) (by rfl) (by rfl)) (by intro _;rfl))) (@X4 _ _ _ _ _ _ _ (@Yo _ _ _ _ _ _ _ _ (Vy hr.units) (pv 5) (@Y3 _ _ _ _ Yb) (Yl _)) (@X4 _ _ _ _ _ _ _ (@Yo _ _ _ _ _ _ _ _ (G8 hr.units) (@Ys _ _ _ _ _ _ _ YL (pv 5) Yh (fun _ _=>rfl)) (pv 3) (Yl _)) (@Wk _ _ _ _ (@XR _ _ _ _ (@Xh _ _ _ (@Yv _ _ _ _ _ _ _ _ _ _ _ _ qg hr (@Ya _ _ _ _ _ (pv 0) (@Ya _ _ _ _ _ (pv 1) (@Ya _ _ _ _ _ (pv 2) (@Ya _ _ _ _ _ (pv 5) Yb (by rfl)) (by rfl)) (by rfl)) (by rfl)) (by omega) (by rfl) (by rfl) (by decide) (by rfl) (by rfl)) (by intro _;rfl))))))).pt (@Ye _ _ _ (@Yn _ _ _ _ Wj)) Yq) (@Yd _ _ _ _ _ (@Xo _ _ _ _ _ _ _ _ PassesOwn.never rfl (@Xj _ _ _ _ (pv 5)) (@Yz _ _ (6) _ ZO.nd rfl (.inl rfl) (by first | exact .inl rfl | exact .inr rfl | assumption)) (@Ye _ _ _ (@Yu _ _ _ _ _ _ _ _ (@X4 _ _ _ _ _ _ _ (@XR _ _ _ _ (@Xh _ _ _ (@YH _ _ _ _ _ _ _ _ _ _ Z6 YK (@Ya _ _ _ _ _ (pv 6) (@Ya _ _ _ _ _ (@Xq _ _ _ _ ("list") aN (by decide +kernel) (by rfl) (by rfl) (by decide) (by decide)) Yb (by rfl)) (by rfl)) (by decide +kernel) (by rfl) (by rfl) (by decide) (by decide) (by rfl) (by rfl)) (by intro _;rfl))) (@Wk _ _ _ _ (@Yo _ _ _ _ _ _ _ _ R6 (@Wu _ (g) _ (30) _ _ _ _ _ _ 4 hr (@Ya _ _ _ _ _ (pv 6) Yb (by rfl)) (by omega) (by rfl) (by rfl) (by first | exact .inl rfl | exact .inr (.inl rfl) | exact .inr (.inr rfl)) (by decide) (by decide) (by rfl) (by rfl)) Wj (Yl _)))).pt (@Ye _ _ _ (@Yn _ _ _ _ Wj)) Yq)) (by intro _;rfl)) (@Yd _ _ _ _ _ (@Hl _ (7) _ _ _ _ _ _ _ _ _ ([none]) ((["_law_one"]:List Str)) _ (YT 0) _ _ ZO.nd rfl (.inl rfl) (.own .nil) rfl (@Xj _ _ _ _ (pv 5)) (fun cl C s₀ H₀ fp pn=>(@Yz _ _ (0) _ (show List.Nodup (["_law_one"]:List Str) by decide +kernel) rfl (.inl rfl) (.inr rfl))) (fun cl C s₀ H₀ fp pn=>Xs) (fun cl C s₀ H₀ fp pn=>(@XI _ _ _ _ _ _ _ _ _ _ aN (Qu (K:=g.K)) (@Ya _ _ _ _ _ (pv 0) Yb (by rfl)) (by decide +kernel) (by rfl) (by rfl) (by decide) (by decide) (by rfl) (by rfl))) (by intro x hx;simp at hx) (by rfl) (by decide) (by decide +kernel) (by intro _;rfl) (by rfl) (by first | exact .inl rfl | exact .inr rfl | assumption)) (@Yd _ _ _ _ _ (@Xo _ _ _ _ _ _ _ _ PassesOwn.never rfl (@Xj _ _ _ _ (pv 5)) (@Yz _ _ (6) _ ZO.nd rfl (.inl rfl) (by first | exact .inl rfl | exact .inr rfl | assumption)) (@Ye _ _ _ (@Y4 _ _ _ _ (@Xp _ _ _ _ _ _ _ _ _ _ _ _ F.plainAttrs_list F.slot_list_append F.type_list_append Y7 (pv 6) (@Ya _ _ _ _ _ (@YO _ _ _ _ _ (@Ya _ _ _ _ _ YC (@Ya _ _ _ _ _ (@YO _ _ _ _ _ Yb) Yb (Y8 _ _ _ _ _)) (by rfl))) Yb (Y8 _ _ _ _ _)) (by rfl) (by rfl) (by rfl) (by rfl) (by rfl)) (by rfl))) (by intro _;rfl)) (@Ye _ _ _ (@Yn _ _ _ _ (@Y2 _ _ _ _ _ _ _ _ (Vy hr.units) (@Hq _ _ _ _ _ _ _ _ _ _ _ _ _ vM hr Hy (@Ya _ _ _ _ _ (pv 0) (@Ya _ _ _ _ _ (pv 1) (@Ya _ _ _ _ _ (@Xe _ _ _ _ _ _ _ Zo (by rfl) (by rfl) (by decide)) (@Ya _ _ _ _ _ (pv 2) (@Ya _ _ _ _ _ (@Xe _ _ _ _ _ _ _ Zo (by rfl) (by rfl) (by decide)) (@Ya _ _ _ _ _ (@Xe _ _ _ _ _ _ _ ZC (by rfl) (by rfl) (by decide)) (@Ya _ _ _ _ _ (@XI _ _ _ _ _ _ _ _ _ _ aN Xu (@Ya _ _ _ _ _ (pv 3) Yb (by rfl)) (by decide +kernel) (by rfl) (by rfl) (by decide) (by decide) (by rfl) (by rfl)) Yb (by rfl)) (by rfl)) (by rfl)) (by rfl)) (by rfl)) (by rfl)) (by rfl)) (by omega) (by rfl) (by rfl) (by decide) (by rfl) (by rfl)) (pv 7) (Yl _))))))))),?_⟩;refine Ym fun R rr=>?_
 walk_at "rd";refine fun b1 h1 b2 h2 f2 h3=>⟨bk,a,b1,f1,b2,f2,D,sl,bd,lo,tn,us,xs,rfl,hS,⟨h1,hf,h2,h3⟩,hD,al,ok,hz,tj,ts,np,(fun H' _ h=>by rw [h] at hap;cases hap),fun B ys w H1 k1 gB hB _ way g1 fy qj ql=>rr _ _ (Ym fun R rr=>?_)⟩
 clear h1 h2 h3;have yl:=g1.len;rw [List.length_map] at yl
 have wl:=way.length ok.2;obtain ⟨r,hwr⟩:=way.head;have hy0:ys[0]?=some (ys[0]'(by rw [yl,hwr];exact Nat.succ_pos _)):=List.getElem?_eq_getElem _;generalize ys[0]'(by rw [yl,hwr];exact Nat.succ_pos _)=y0 at hy0;have c0:=g1.get 0 y0 (.ds xs) hy0 (by rw [hwr];rfl);have hD1:=k1.lst hD;have al1:=al.tp (YR k1);have nB:∀ y∈ys,y ≠ .ref B:=fun y hy z=>by
  obtain ⟨i,hi⟩:=List.getElem?_of_mem hy;have hlt:=(List.getElem?_eq_some_iff.mp hi).1;have hw:w[i]?=some (w[i]'(by omega)):=List.getElem?_eq_getElem _;generalize w[i]'(by omega)=l at hw;have cy:=g1.get i y (.ds l) hi (by rw [List.getElem?_map,hw];rfl);rw [z] at cy
  obtain ⟨B',us',e,hB',fB⟩:=X7 cy
  cases e
  rw [hB] at hB'
  cases HO.lst.inj (Option.some.inj hB')
  have hl:=fB.1;have h0:=(List.getElem?_eq_some_iff.mp hy0).1;have hx:l[0]?=some (l[0]'(by omega)):=List.getElem?_eq_getElem _;obtain ⟨a0,u0,e0,ht0,_⟩:=(fB.2 0 y0 _ hy0 hx).two;obtain ⟨D0,Ba,e1,hl0,_⟩:=X7 c0;rw [e0] at e1
  cases e1
  rw [ht0] at hl0
  cases hl0
 walk_at "rd";refine ⟨_,rfl,_,.lst hB,true,rfl,YA (by decide) ⟨few (by decide),fun p gp=>?_⟩⟩;have s2:=Yf.aF gp (.lst []);have g2:=g1.imp fun _ _ h=>aM.same h s2
 have d0:=UG (K:=g.K) (c0.same s2);refine ⟨_,BJ (s2 _ _ hB) g2,.list [],.lst (aG.of Yc) .nil,Nat.le_trans (Kw lo w) (by decide),YA (by rw [hwr];simp [vH,PyData.eqv,PyData.eqvAll]) ⟨_,aG.of (s2 _ _ hB),y0,Yk (j:=0) hy0,_,d0,_,UF (s2 _ _ hD1) (al1.tp (YR (Yx s2))),Nat.le_trans (Vq lo xs) (by decide),YA (by rw [PySem.SeqAt.eqv_refl _ d0.lay];decide) ?_⟩⟩;have k2:=k1.trans (Yx s2);refine ⟨bk,a,f1,B,sl,bd,lo,tn,ys,w,xs,rfl,hS.kt k2,hf.nl (Kt.nl k2),s2 _ _ hB,g2,way,hap,ok,by omega,fun H3 s3=>⟨_,rfl,YA (by decide) (rr _ _ (Ym fun R rr=>?_))⟩⟩;have k3:=k2.trans (Yx s3);have hB3:=s3 _ _ (s2 _ _ hB);have g3:=g2.imp fun _ _ h=>aM.same h s3
 have BZ:=(qj.keep s2).keep s3;have Ca:=(ql.keep s2).keep s3;have wok:=way.ok hap ok.2;clear g1 g2 d0 c0 qj ql hB;have gw:∀ (i:Nat) y,ys[i]?=some y->∃ l A us,w[i]?=some l/\y = .ref A/\H3 A=some (.lst us)/\YV H3 lo us l/\(bU sl bd lo l).isSome=true/\fC l:=fun i y hi=>by
  have hlt:=(List.getElem?_eq_some_iff.mp hi).1;have hw:w[i]?=some (w[i]'(by omega)):=List.getElem?_eq_getElem _;generalize w[i]'(by omega)=l at hw;obtain ⟨A,us,e,h1,h2⟩:=X7 (g3.get i y (.ds l) hi (by rw [List.getElem?_map,hw];rfl));obtain ⟨w1,w2,w3⟩:=wok l (List.mem_of_getElem? hw);exact ⟨l,A,us,hw,e,h1,h2,w1,Nat.le_trans w3 ok.1,w2⟩
 refine Vl (K:=g.K) (xs:=ys) (fun c i σ H'=>c=B/\(∃ o6,σ=[some bk,some (.ref a),some (.ref f1),some (.ref D),some (.ref jf),some (.ref B),o6,none])/\Yf H3 H') (fun R r=>by walk_at "rd";exact r B _ ⟨rfl,⟨_,rfl⟩,.refl _⟩) (fun c i σ H' _ ⟨e,_,s⟩=>by subst e;exact aG.of (s _ _ hB3)) ?_ ?_
 ·rintro c i y σ H' hy ⟨rfl,⟨o6,rfl⟩,sm⟩
  obtain ⟨l,A,us',hw,rfl,hA,qm,w1,qp⟩:=gw i y hy;obtain ⟨fd,sp,qt,Ce,Cg⟩:=hj;have kk:=k3.trans (Yx sm);walk_at "rd";refine ⟨_,rfl,_,.lst (sm _ _ hA),true,rfl,YA (by decide) ?_⟩;walk_at "rd";refine ⟨jf,fd,_,sp,rfl,qt.1,qt.2,(Kt.nl kk).2 _ _ Ce,?_⟩;walk_at "rd";refine Cg H' A us' l _ (Kt.nl kk) (sm _ _ hA) (qm.tp (YR (Yx sm))) qp.1 qp.2 fun H4 s4=>?_
  cases hp:bU sl bd lo l with
  | none=>rw [hp] at w1;cases w1
  | some j=>exact ⟨_,rfl,YA (by simp) (sm.trans s4)⟩
 ·rintro c σ H4 ⟨rfl,⟨o6,rfl⟩,sm⟩
  refine rr _ _ (Ym fun R rr=>?_);have k4:=k3.trans (Yx sm);have pY:=sm _ _ hB3;walk_at "rd";refine Q0 (K:=g.K) (b:=c) (xs:=ys) (fun T i y Hx=>y ≠ .ref T/\Fs H4 y/\∀ l,w[i]?=some l->aM Hx lo y (.ds l)) (fun T i y Ha Hb h s=>⟨h.1,h.2.1,fun l hl=>(h.2.2 l hl).same s⟩) (fun T i y Hx zs zs' h hD=>⟨h.1,h.2.1,fun l hl=>(h.2.2 l hl).own (by simp [dep]) hD h.1⟩) (fun R r=>by walk_at "rd";exact r) (aG.of pY) (by omega) ?_ ?_
  ·intro T i y H5 zs hy s5 hT R r
   obtain ⟨l,A,us',hw,rfl,hA,qm,w1,qp⟩:=gw i y hy;walk_at "rd";have hA5:=s5 _ _ (sm _ _ hA);refine ⟨us',.inl (aG.of hA5),fun N gN=>?_⟩;have sN:=Yf.aF gN (.lst us');refine r (.ref N) _ sN ⟨fun z=>?_,fun b z=>?_,fun l' hl'=>?_⟩
   ·cases z;rw [hT] at gN;cases gN
   ·cases z;exact s5.free gN
   ·rw [hw] at hl'
    cases Option.some.inj hl'
    exact YV.cq Yc (qm.tp (YR (Yx ((sm.trans s5).trans sN))))
  ·intro T zs H5 gT s5 hT jk hr
   refine rr _ _ (Ym fun R rr=>?_);have g5:F2 (aM H5 lo) zs (w.map .ds) := .of (by rw [List.length_map];omega) fun i z c' e1 e2=>by
    rw [List.getElem?_map] at e2
    obtain ⟨l,hl,rfl⟩:=Option.map_eq_some_iff.mp e2;exact (hr i z e1).2.2 l hl
   have fz:∀ z∈zs,Fs H4 z:=fun z hz=>by
    obtain ⟨i,hi⟩:=List.getElem?_of_mem hz;exact (hr i z hi).2.1
   have oO:=sm.trans s5;have k5:=k4.trans (Yx s5);clear hr;have i5:∀ y∈ys,∃ A us,y = .ref A/\H5 A=some (.lst us)/\us.length<=100:=fun y hy=>by
    obtain ⟨i,hi⟩:=List.getElem?_of_mem hy;obtain ⟨l,A,us',hw,rfl,hA,qm,w1,qp⟩:=gw i y hi;exact ⟨A,us',rfl,oO _ _ hA,by rw [qm.1];exact qp.1⟩
   have nc:V.ref c∉ys:=fun h=>nB _ h rfl
   have hB5:=s5 _ _ pY;refine Vl (K:=g.K) (xs:=ys) (MuV H5 ys c bk a f1 D jf T) (fun R r=>by walk_at "rd";exact r c _ ⟨rfl,_,rfl,U6 (.refl _),fun b us' _ e=>e,i5⟩) (fun c' i σ H' _ h=>?_) ?_ ?_
   ·cases h with
    | mk e o6 eσ nl ls at_=>rw [e];exact aG.of (ls _ _ nc hB5)
   ·rintro c' i y σ H' hy ⟨rfl,o6,rfl,nl,ls,at_⟩
    have hi:=(List.getElem?_eq_some_iff.mp hy).1;have hmA:=List.mem_of_getElem? hy;obtain ⟨A,us',rfl,hA,pN⟩:=at_ y hmA;walk_at "rd";refine ⟨.inl ⟨rfl,_,aG.of hA⟩,few (by decide),fun p gp=>⟨few (by decide),fun p1 gp1=>?_⟩⟩;have sA:=(Yf.aF gp (.tup [])).trans (.aF gp1 (.tup [.str "take",.ref p]));refine ⟨_,sA _ _ hA,few (by omega),rfl,_,rfl,fun b o no e=>?_,fun b bG hb e=>?_,fun y hy=>?_⟩
    ·have e':=nl b o no e
     rw [Yg fun z=>by rw [z,hA] at e';exact no _ (Option.some.inj e').symm];exact sA _ _ e'
    ·rw [Yg fun z=>hb (by rw [z];exact hmA)]
     exact sA _ _ (ls b bG hb e)
    ·obtain ⟨A',bG,rfl,hA',hl'⟩:=at_ y hy
     by_cases h:A'=A
     ·subst h
      rw [hA] at hA'
      cases HO.lst.inj (Option.some.inj hA')
      exact ⟨A',_,rfl,Yc,by rw [List.length_append,List.length_singleton];omega⟩
     ·exact ⟨A',bG,rfl,by rw [Yg h];exact sA _ _ hA',by omega⟩
   ·rintro c' σ H6 ⟨rfl,o6,rfl,nl,ls,at_⟩
    refine rr _ _ ?_;have k6:Kt H H6:=fun b o n e=>by
     have e5:=k5 b o n e;by_cases hl:∃ us,o = .lst us
     ·obtain ⟨us',rfl⟩:=hl
      exact ls b us' (fun h=>by have:=fy _ h b rfl;rw [this] at e;cases e) e5
     ·exact nl b o (fun us' z=>hl ⟨us',z⟩) e5
    have old:∀ b,V.ref b∈ys->H4 b≠none:=fun b hb z=>by
     obtain ⟨i,hi⟩:=List.getElem?_of_mem hb;obtain ⟨l,A,us',_,e,hA,_⟩:=gw i _ hi
     cases e
     rw [sm _ _ hA] at z
     cases z
    have t56:Tp H5 H6:=fun b us' e=>nl b _ (by intro _ z;cases z) e
    have g6:F2 (aM H6 lo) zs (w.map .ds):=g5.mono fun z hz' c2 hc2 h=>by
     obtain ⟨l,_,rfl⟩:=List.mem_map.mp hc2;obtain ⟨D2,bG,rfl,hD2,vD⟩:=X7 h;exact YV.cq (ls _ _ (fun hm=>old _ hm (fz _ hz' _ rfl)) hD2) (vD.tp t56)
    have hT6:=ls _ _ (fun hm=>old _ hm gT) hT;have tj6:=(BZ.keep oO).kW nl;have ts6:=(Ca.keep oO).kW nl;walk_at "rd";refine fun b1 h1 b2 h2 f2 h3=>⟨us,.inl (aG.of (k6.lst hD)),fun l gl=>?_⟩
    have su:=Yf.aF gl (.lst us);have k7:=k6.trans (Yx su);refine ⟨bk,a,b1,f1,b2,f2,l,sl,bd,lo,tn,us,xs,rfl,hS.kt k7,⟨h1,hf.nl (Kt.nl k7),h2,h3⟩,Yc,al.tp (YR k7),ok,hz,tj6.keep su,ts6.keep su,np,(fun H' _ h=>by rw [h] at hap;cases hap),fun B2 ys2 w2 H8 k8 gB2 hB2 _ Np g8 _ _ _=>?_⟩;have e:=way.uniq Np;subst e;have d8:=BJ (K:=g.K) hB2 g8;refine ⟨_,d8,_,BJ (k8.lst (su _ _ hT6)) (g6.imp fun _ _ h=>(aM.same h su).tl (YR k8) fun b us' e=>k8.lst e),Nat.le_trans (Kw lo w) (by decide),?_⟩;rw [PySem.SeqAt.eqv_refl _ d8.lay];exact q H8 (k7.trans k8)
inductive m7 (K:W.Frag) (vs:List V) (H:Hp) (Q:VK) (E_:XK):Prop
 | mk (a:Addr) (ns:List Int) (k:Nat) (h0:vs=[.ref a,.int k]) (h1:aG K H a (ns.map V.int)) (h2:ns.length<=63) (h3:Q (.int (ns.getD k 0)) H)
theorem Z4c {Z4 Z5 Z1 Z2 Z3 Z0:Addr} {aq ao:Addr} {ak aj:Addr} {aA au:Addr} (R:g.Raw "_law_cell_at" "_law_cell_at" za ["_law_script","_law_k"]) (aK:g.mg "len"=none):g.Fn (1) "_law_cell_at" ["_law_script","_law_k"] (m7 g.K):=by
 refine R.fn Z45 (fun vs H Q E h=>by obtain ⟨a,ns,k,rfl,hS,hl,q⟩:=h;rfl) fun f_ cdv A outer s H vs Q E hr h=>?_
 obtain ⟨a,ns,k,rfl,hS,hl,q⟩:=h;refine ⟨_,(@Yd _ _ _ _ _ (@Yu _ _ _ _ _ _ _ _ (@Yo _ _ _ _ _ _ _ _ Gp (pv 1) (@YH _ _ _ _ _ _ _ _ _ _ aK Yy (@Ya _ _ _ _ _ (pv 0) Yb (by rfl)) (by decide +kernel) (by rfl) (by rfl) (by decide) (by decide) (by rfl) (by rfl)) (Yl _)) (@Ye _ _ _ (@Yn _ _ _ _ (@Ys _ _ _ _ _ _ _ YL (pv 0) (pv 1) (fun _ _=>rfl)))) Yq) (@Ye _ _ _ (@Yn _ _ _ _ Yh))),?_⟩;walk_at "rd";refine ⟨_,.inl hS,Mu (fun c=>?_) fun c=>?_⟩
 ·rw [List.length_map] at c
  have hk:k<ns.length:=by omega
  have e:ns.getD k 0=ns[k]:=by simp [List.getD_eq_getElem?_getD,List.getElem?_eq_getElem hk]
  rw [e] at q
  exact ⟨_,hS,_,Yk (by rw [List.getElem?_map,List.getElem?_eq_getElem hk];rfl),q⟩
 ·rw [List.length_map] at c
  have hk:ns.length<=k:=by omega
  have e:ns.getD k 0=0:=by simp [List.getD_eq_getElem?_getD,List.getElem?_eq_none hk]
  rw [e] at q
  exact q
theorem Ygi {z:Int}:pW (z%10^Int.toNat 60 - 5*10^Int.toNat 59):=⟨fun o ho=>by
 have c0:0<=z%10^Int.toNat 60:=Int.emod_nonneg _ (by decide);have c1:z%10^Int.toNat 60<10^Int.toNat 60:=Int.emod_lt_of_pos _ (by decide);generalize z%10^Int.toNat 60=y at c0 c1 ⊢;have h:(y - 5*10^Int.toNat 59+(o:Int)).natAbs<2^200:=by
  have e1:(10:Int)^Int.toNat 60=1000000000000000000000000000000000000000000000000000000000000:=by decide +kernel
  have e2:(10:Int)^Int.toNat 59=100000000000000000000000000000000000000000000000000000000000:=by decide +kernel
  have e3:(2:Nat)^200=1606938044258990275541962092341162602522202993782792835301376:=by decide +kernel
  rw [e1] at c1
  rw [e2,e3];omega
 by_cases h0:(y - 5*10^Int.toNat 59+(o:Int)).natAbs=0
 ·rw [h0];decide
 ·have:=(Nat.log2_lt h0).mpr h
  omega⟩
theorem YfK {K:W.Frag} {H H':Hp} {P a:Addr} {xs:List V} {ps:Array Value} (h:aG K H a xs) (hk:∀ b u,b≠P->H b=some u->H' b=some u) (hP:H P=some (.aU ps)):aG K H' a xs:=by
 rcases h with (h | ⟨o,h⟩) | h
 ·exact .inl (.inl (hk _ _ (YG h hP (by intro z;cases z)) h))
 ·exact .inl (.inr ⟨o,hk _ _ (YG h hP (by intro z;cases z)) h⟩)
 ·exact .inr h
theorem rot {K:Hp} {lo:Int} {tn:Nat} {p1 p4 p7 p0 p3 p6:Addr} (h3:tn<3) (m0:K p1=some (.tup [.str (bB 0),.ref p0])) (n0:Y0 K lo p0 0) (m1:K p4=some (.tup [.str (bB 1),.ref p3])) (n1:Y0 K lo p3 1) (m2:K p7=some (.tup [.str (bB 2),.ref p6])) (n2:Y0 K lo p6 2) :
  ∃ c0 c1 c2 r0 r1 r2,List.drop tn [V.ref p1,V.ref p4,V.ref p7]++List.take tn [V.ref p1,V.ref p4,V.ref p7]=[.ref c0,.ref c1,.ref c2]/\∀ (H':Hp) b,Tp K H'->H' b=some (.tup [.ref c0,.ref c1,.ref c2])->c7 H' lo tn b c0 c1 c2 r0 r1 r2:=by
 match tn,h3 with
 | 0,h3=>exact ⟨p1,p4,p7,p0,p3,p6,rfl,fun H' b t hb=>⟨h3,hb,t _ _ m0,t _ _ m1,t _ _ m2,n0.tp t,n1.tp t,n2.tp t⟩⟩
 | 1,h3=>exact ⟨p4,p7,p1,p3,p6,p0,rfl,fun H' b t hb=>⟨h3,hb,t _ _ m1,t _ _ m2,t _ _ m0,n1.tp t,n2.tp t,n0.tp t⟩⟩
 | 2,h3=>exact ⟨p7,p1,p4,p6,p0,p3,rfl,fun H' b t hb=>⟨h3,hb,t _ _ m2,t _ _ m0,t _ _ m1,n2.tp t,n0.tp t,n1.tp t⟩⟩
inductive KJ (H3:Hp) (lo:Int) (D a p8 q4 bk f1:Addr) (sl tn:Nat) (fst:Int) (i:Nat) (σ:St) (H':Hp):Prop
 | mk (us:List V) (xs:List Dd) (left:Nat) (lg lq:Option V) (e:σ=[some (.ref a),some (.int lo),some (.int (sl:Nat)),some (.ref f1),some (.ref p8),some (.int (tn:Nat)),some (.ref q4),some (.ref bk),some (.ref D),some (.int (left:Nat)),some (.int fst),lg,lq,none,none,none,none,none]) (sb:SameBut D H3 H') (hD:H' D=some (.lst us)) (al:YV H' lo us xs) (ok:∀ x∈xs,bN x) (sz:bw xs+left=12)
theorem Ci {H3 H' H2:Hp} {lo:Int} {D a p8 q4 bk f1:Addr} {sl tn:Nat} {fst:Int} {i:Nat} {us:List V} {xs:List Dd} {left:Nat} {lg lq:Option V} {v:V} {x:Dd} (sb:SameBut D H3 H') (hD:H' D=some (.lst us)) (al:YV H' lo us xs) (ok:∀ x∈xs,bN x) (sz:bw xs+left=12)
  (s:Yf H' H2) (hd:Y1 H2 lo v x) (k:bN x) (hl:1+bC x<=left):KJ H3 lo D a p8 q4 bk f1 sl tn fst i [some (.ref a),some (.int lo),some (.int (sl:Nat)),some (.ref f1),some (.ref p8),some (.int (tn:Nat)),some (.ref q4),some (.ref bk),some (.ref D),some (.int ((left - 1 - bC x:Nat):Int)),some (.int fst),lg,lq,none,none,none,none,none] (upd H2 D (.lst (us++[v]))):=by
 have t:Tp H' (upd H2 D (.lst (us++[v]))):=(YR (Yx s)).trans (Ws (s _ _ hD));refine ⟨us++[v],xs++[x],left - 1 - bC x,lg,lq,rfl,fun b o nb e=>by rw [Yg nb];exact s _ _ (sb _ _ nb e),Yc,(al.tp t).snoc (hd.tp (Ws (s _ _ hD))),fun z hz=>?_,?_⟩
 ·rcases List.mem_append.mp hz with hz | hz
  ·exact ok z hz
  ·rw [List.mem_singleton.mp hz];exact k
 ·rw [Wh]
  have:bw [x]=1+bC x:=by simp [bw]
  omega
theorem KN {K:W.Frag} {i:Int} {H:Hp}:tD K "int" (.int i) H:=rfl
theorem YeA {k:Nat} {Z4 Z5 Z1 Z2 Z3 Z0:Addr} {aq ao:Addr} {ak aj:Addr} {aA au:Addr} (mY:g.Fn k "apart" ["begin","done","model_begin","model_done","deeds"] (fZ g)) (BR:g.Fn k "deed_judge" ["begin","done","model_begin","model_done"] (BL g ao)) (qw:g.Fn k "_law_cell_at" ["_law_script","_law_k"] (m7 g.K)) (Zo:g.Fn 2 "_law_begin" [] (XX)) (ZC:g.Fn 2 "_law_model" ["_law_state","_law_deed"] (dZ g.K)) (lK:g.Fn k "_law_thing" ["_law_slip","_law_bound","_law_low"] (j6 g au)) (vK:g.Fn k "_law_place" ["_law_done","_law_deeds"] (gJ g)) (jw:g.Fn k "_law_refused" ["_law_book","_law_shape","_law_done","_law_deeds"] (m6 g ao aj)) (jx:g.Fn k "_law_shrinks" ["_law_book","_law_shape","_law_done","_law_deeds","_law_holds"] (qe g ao aj)) (hkv:2<=k) (hkc:30<=k) (bW:g.mg "bool"=none) (cG:g.mg "int"=none) (Z6:g.mg "isinstance"=none) (aN:g.mg "list"=none) (Zl:g.mg "range"=none) (Zj:g.mg "tuple"=none) (hnd:([ao,aj,au]:List Addr).Nodup):Uc g k ["_law_script","_law_low","_law_slip","_law_done","_law_marks","_law_turn","_law_shape","_law_book","_law_deeds","_law_left","_law_first","_law_cell","_law_far","_law_kept","_law_due","_law_found","_law_holds","_law_answer"] "law" QE (VV g.K [("deed_judge",aq,ao),("shrunk_deeds",ak,aj),("_law_thing",aA,au)]):=by
 refine fun f_ cdv A outer s H vs Q E hr h=>?_
 obtain ⟨a,ns,rfl,hS,hl,ht,q⟩:=h;refine ⟨_,(@Yd _ _ _ _ _ (@Yr _ _ (1) _ _ _ _ Xg.nd rfl (.inl rfl) (@Yt _ _ _ _ _ _ _ _ Xz (@Yt _ _ _ _ _ _ _ _ XT (@Yv _ _ _ _ _ _ _ _ _ _ _ _ qw hr (@Ya _ _ _ _ _ (pv 0) (@Ya _ _ _ _ _ Yh Yb (by rfl)) (by rfl)) (by omega) (by rfl) (by rfl) (by decide) (by rfl) (by rfl)) (@Yt _ _ _ _ _ _ _ _ Ge Yh Yh)) (@Yt _ _ _ _ _ _ _ _ UR Yh (@Yt _ _ _ _ _ _ _ _ Ge Yh Yh))) (by rfl) (by first | exact .inl rfl | exact .inr rfl | assumption)) (@Yd _ _ _ _ _ (@Yr _ _ (2) _ _ _ _ Xg.nd rfl (.inl rfl) (@Yt _ _ _ _ _ _ _ _ XT (@Yv _ _ _ _ _ _ _ _ _ _ _ _ qw hr (@Ya _ _ _ _ _ (pv 0) (@Ya _ _ _ _ _ Yh Yb (by rfl)) (by rfl)) (by omega) (by rfl) (by rfl) (by decide) (by rfl) (by rfl)) Yh) (by rfl) (by first | exact .inl rfl | exact .inr rfl | assumption)) (@Yd _ _ _ _ _ (@Yr _ _ (3) _ _ _ _ Xg.nd rfl (.inl rfl) (@Yv _ _ _ _ _ _ _ _ _ _ _ _ lK hr (@Ya _ _ _ _ _ (pv 2) (@Ya _ _ _ _ _ (@Yt _ _ _ _ _ _ _ _ Xi Yh (@Yt _ _ _ _ _ _ _ _ XT (@Yv _ _ _ _ _ _ _ _ _ _ _ _ qw hr (@Ya _ _ _ _ _ (pv 0) (@Ya _ _ _ _ _ Yh Yb (by rfl)) (by rfl)) (by omega) (by rfl) (by rfl) (by decide) (by rfl) (by rfl)) Yh)) (@Ya _ _ _ _ _ (pv 1) Yb (by rfl)) (by rfl)) (by rfl)) (by omega) (by rfl) (by rfl) (by decide) (by rfl) (by rfl)) (by rfl) (by first | exact .inl rfl | exact .inr rfl | assumption)) (@Yd _ _ _ _ _ (@Yr _ _ (4) _ _ _ _ Xg.nd rfl (.inl rfl) (@Y3 _ _ _ _ (@Ya _ _ _ _ _ (@YO _ _ _ _ _ (@Ya _ _ _ _ _ YC (@Ya _ _ _ _ _ (@YO _ _ _ _ _ (@Ya _ _ _ _ _ YC (@Ya _ _ _ _ _ (pv 1) (@Ya _ _ _ _ _ (@Yt _ _ _ _ _ _ _ _ Xi (pv 1) Yh) Yb (by rfl)) (by rfl)) (by rfl))) Yb (Y8 _ _ _ _ _)) (by rfl))) (@Ya _ _ _ _ _ (@YO _ _ _ _ _ (@Ya _ _ _ _ _ YC (@Ya _ _ _ _ _ (@YO _ _ _ _ _ (@Ya _ _ _ _ _ YC (@Ya _ _ _ _ _ (@YO _ _ _ _ _ Yb) Yb (Y8 _ _ _ _ _)) (by rfl))) Yb (Y8 _ _ _ _ _)) (by rfl))) (@Ya _ _ _ _ _ (@YO _ _ _ _ _ (@Ya _ _ _ _ _ YC (@Ya _ _ _ _ _ (@YO _ _ _ _ _ (@Ya _ _ _ _ _ YC (@Ya _ _ _ _ _ (@YO _ _ _ _ _ Yb) Yb (Y8 _ _ _ _ _)) (by rfl))) Yb (Y8 _ _ _ _ _)) (by rfl))) Yb (Y8 _ _ _ _ _)) (Y8 _ _ _ _ _)) (Y8 _ _ _ _ _))) (by rfl) (by first | exact .inl rfl | exact .inr rfl | assumption)) (@Yd _ _ _ _ _ (@Yr _ _ (5) _ _ _ _ Xg.nd rfl (.inl rfl) (@Yt _ _ _ _ _ _ _ _ XT (@Yv _ _ _ _ _ _ _ _ _ _ _ _ qw hr (@Ya _ _ _ _ _ (pv 0) (@Ya _ _ _ _ _ Yh Yb (by rfl)) (by rfl)) (by omega) (by rfl) (by rfl) (by decide) (by rfl) (by rfl)) Yh) (by rfl) (by first | exact .inl rfl | exact .inr rfl | assumption)) (@Yd _ _ _ _ _ (@Yr _ _ (6) _ _ _ _ Xg.nd rfl (.inl rfl) (@YO _ _ _ _ _ (@Ya _ _ _ _ _ YC (@Ya _ _ _ _ _ (@XI _ _ _ _ _ _ _ _ _ _ Zj Xy (@Ya _ _ _ _ _ (@Yt _ _ _ _ _ _ _ _ XC (@Xr _ _ _ _ _ _ _ _ _ _ WL (pv 4) (@Xx _ _ _ (pv 5)) Xw) (@Xr _ _ _ _ _ _ _ _ _ _ WL (pv 4) Xw (@Xx _ _ _ (pv 5)))) Yb (by rfl)) (by decide +kernel) (by rfl) (by rfl) (by decide) (by decide) (by rfl) (by rfl)) Yb (by rfl)) (by rfl))) (by rfl) (by first | exact .inl rfl | exact .inr rfl | assumption)) (@Yd _ _ _ _ _ (@Yr _ _ (7) _ _ _ _ Xg.nd rfl (.inl rfl) (@Y3 _ _ _ _ (@Ya _ _ _ _ _ (@YO _ _ _ _ _ (@Ya _ _ _ _ _ YC (@Ya _ _ _ _ _ (pv 6) Yb (by rfl)) (by rfl))) Yb (Y8 _ _ _ _ _))) (by rfl) (by first | exact .inl rfl | exact .inr rfl | assumption)) (@Yd _ _ _ _ _ (@Yr _ _ (8) _ _ _ _ Xg.nd rfl (.inl rfl) (@Y3 _ _ _ _ Yb) (by rfl) (by first | exact .inl rfl | exact .inr rfl | assumption)) (@Yd _ _ _ _ _ (@Yr _ _ (9) _ _ _ _ Xg.nd rfl (.inl rfl) Yh (by rfl) (by first | exact .inl rfl | exact .inr rfl | assumption)) (@Yd _ _ _ _ _ (@Yr _ _ (10) _ _ _ _ Xg.nd rfl (.inr rfl) (@Yv _ _ _ _ _ _ _ _ _ _ _ _ qw hr (@Ya _ _ _ _ _ (pv 0) (@Ya _ _ _ _ _ Yh Yb (by rfl)) (by rfl)) (by omega) (by rfl) (by rfl) (by decide) (by rfl) (by rfl)) (by rfl) (by first | exact .inl rfl | exact .inr rfl | assumption)) (@Yd _ _ _ _ _ (@Xo _ _ _ _ _ _ _ _ PassesOwn.never rfl (@Xj _ _ _ _ (@Yt _ _ _ _ _ _ _ _ XC (@Xr _ _ _ _ _ _ _ _ _ _ WL (pv 0) (@Xx _ _ _ Yh) Xw) (@X5 _ _ _ _ _ _ _ ([none,some 10]) ((["_law_k","_law_first"]:List Str)) _ (YT 0) _ _ (.own (.cap (i:=10) rfl rfl (by first | exact .inl rfl | exact .inr rfl) .nil)) rfl (@Wf _ _ _ _ _ _ rfl Zl (@Ya _ _ _ _ _ (@Yt _ _ _ _ _ _ _ _ XT (pv 10) Yh) Yb (by rfl)) (by rfl)) (fun cl C s₀ H₀ fp pn=>(@Yz _ _ (0) _ (show List.Nodup (["_law_k","_law_first"]:List Str) by decide +kernel) rfl (.inl rfl) (.inr rfl))) (fun cl C s₀ H₀ fp pn=>Xs) (fun cl C s₀ H₀ fp pn=>(@Yt _ _ _ _ _ _ _ _ XT (@Yt _ _ _ _ _ _ _ _ UR (@Yt _ _ _ _ _ _ _ _ Xi (pv 1) (@Yt _ _ _ _ _ _ _ _ UR Yh (pv 0))) Yh) Yh)) (by intro x hx;simp at hx;first | (subst hx;exact .inl rfl) | (rcases hx with rfl | rfl<;>exact .inl rfl) | (rcases hx with rfl | rfl | rfl<;>exact .inl rfl) | (rcases hx with rfl | rfl | rfl | rfl<;>exact .inl rfl) | (rcases hx with rfl | rfl | rfl | rfl | rfl<;>exact .inl rfl)) (by rfl) (by decide) (by decide +kernel) (by intro _;rfl)))) (@Yz _ _ (11) _ Xg.nd rfl (.inl rfl) (by first | exact .inl rfl | exact .inr rfl | assumption)) (@Yd _ _ _ _ _ (@Yr _ _ (12) _ _ _ _ Xg.nd rfl (.inl rfl) (@Yt _ _ _ _ _ _ _ _ Gg (@Yt _ _ _ _ _ _ _ _ XT (@Yt _ _ _ _ _ _ _ _ Wa (pv 11) Yh) Yh) (@Yt _ _ _ _ _ _ _ _ XT (@Yt _ _ _ _ _ _ _ _ Wa (pv 11) Yh) Yh)) (by rfl) (by first | exact .inl rfl | exact .inr rfl | assumption)) (@Ye _ _ _ (@Yu _ _ _ _ _ _ _ _ (@WB _ _ _ _ _ _ _ (@Yo _ _ _ _ _ _ _ _ Gp (@Yt _ _ _ _ _ _ _ _ XT (pv 11) Yh) Yh (Yl _)) (@We _ _ _ _ (@Yo _ _ _ _ _ _ _ _ wJ (pv 9) (@Yt _ _ _ _ _ _ _ _ Xi Yh (@QQ _ _ _ _ _ _ _ _ _ F.plainAttrs_int F.slot_int_bit_length F.type_int_bit_length UQ (pv 12) (by rfl) (by rfl))) (Yl _)))).pt (@Yd _ _ _ _ _ (@Y4 _ _ _ _ (@Xp _ _ _ _ _ _ _ _ _ _ _ _ F.plainAttrs_list F.slot_list_append F.type_list_append Y7 (pv 8) (@Ya _ _ _ _ _ (@YO _ _ _ _ _ (@Ya _ _ _ _ _ YC (@Ya _ _ _ _ _ (@Yt _ _ _ _ _ _ _ _ Xi (pv 1) (pv 12)) Yb (by rfl)) (by rfl))) Yb (Y8 _ _ _ _ _)) (by rfl) (by rfl) (by rfl) (by rfl) (by rfl)) (by rfl)) (@Ye _ _ _ (@Yr _ _ (9) _ _ _ _ Xg.nd rfl (.inl rfl) (@Yt _ _ _ _ _ _ _ _ Xz (@Yt _ _ _ _ _ _ _ _ Xz (pv 9) Yh) (@QQ _ _ _ _ _ _ _ _ _ F.plainAttrs_int F.slot_int_bit_length F.type_int_bit_length UQ (pv 12) (by rfl) (by rfl))) (by rfl) (by first | exact .inl rfl | exact .inr rfl | assumption)))) (@Ye _ _ _ (@Yu _ _ _ _ _ _ _ _ (@WB _ _ _ _ _ _ _ (@Yo _ _ _ _ _ _ _ _ WX (@Yt _ _ _ _ _ _ _ _ XT (pv 11) Yh) Yh (Yl _)) (@We _ _ _ _ (@Yo _ _ _ _ _ _ _ _ wJ (pv 9) Yh (Yl _)))).pt (@Yd _ _ _ _ _ (@Y4 _ _ _ _ (@Xp _ _ _ _ _ _ _ _ _ _ _ _ F.plainAttrs_list F.slot_list_append F.type_list_append Y7 (pv 8) (@Ya _ _ _ _ _ (@YO _ _ _ _ _ (@Ya _ _ _ _ _ (@Ys _ _ _ _ _ _ _ YL (@Y3 _ _ _ _ (@Ya _ _ _ _ _ YC (@Ya _ _ _ _ _ YC Yb (by rfl)) (by rfl))) (@Yt _ _ _ _ _ _ _ _ Wa (@Yt _ _ _ _ _ _ _ _ XT (@Yt _ _ _ _ _ _ _ _ Wa (pv 11) Yh) Yh) Yh) (fun _ _=>rfl)) (@Ya _ _ _ _ _ (@YO _ _ _ _ _ Yb) Yb (Y8 _ _ _ _ _)) (by rfl))) Yb (Y8 _ _ _ _ _)) (by rfl) (by rfl) (by rfl) (by rfl) (by rfl)) (by rfl)) (@Ye _ _ _ (@Yr _ _ (9) _ _ _ _ Xg.nd rfl (.inl rfl) (@Yt _ _ _ _ _ _ _ _ Xz (pv 9) Yh) (by rfl) (by first | exact .inl rfl | exact .inr rfl | assumption)))) Yq))))) (by intro _;rfl)) (@Yd _ _ _ _ _ (@Yr _ _ (13) _ _ _ _ Xg.nd rfl (.inl rfl) (@XI _ _ _ _ _ _ _ _ _ _ aN Xu (@Ya _ _ _ _ _ (pv 8) Yb (by rfl)) (by decide +kernel) (by rfl) (by rfl) (by decide) (by decide) (by rfl) (by rfl)) (by rfl) (by first | exact .inl rfl | exact .inr rfl | assumption)) (@Yd _ _ _ _ _ (@Yr _ _ (14) _ _ _ _ Xg.nd rfl (.inl rfl) (@Yv _ _ _ _ _ _ _ _ _ _ _ _ vK hr (@Ya _ _ _ _ _ (pv 3) (@Ya _ _ _ _ _ (pv 8) Yb (by rfl)) (by rfl)) (by omega) (by rfl) (by rfl) (by decide) (by rfl) (by rfl)) (by rfl) (by first | exact .inl rfl | exact .inr rfl | assumption)) (@Yd _ _ _ _ _ (@Yr _ _ (15) _ _ _ _ Xg.nd rfl (.inl rfl) (@Yv _ _ _ _ _ _ _ _ _ _ _ _ mY hr (@Ya _ _ _ _ _ (@Xe _ _ _ _ _ _ _ Zo (by rfl) (by rfl) (by decide)) (@Ya _ _ _ _ _ (pv 3) (@Ya _ _ _ _ _ (@Xe _ _ _ _ _ _ _ Zo (by rfl) (by rfl) (by decide)) (@Ya _ _ _ _ _ (@Xe _ _ _ _ _ _ _ ZC (by rfl) (by rfl) (by decide)) (@Ya _ _ _ _ _ (pv 8) Yb (by rfl)) (by rfl)) (by rfl)) (by rfl)) (by rfl)) (by omega) (by rfl) (by rfl) (by decide) (by rfl) (by rfl)) (by rfl) (by first | exact .inl rfl | exact .inr rfl | assumption)) (@Yd _ _ _ _ _ (@Yu _ _ _ _ _ _ _ _ (@X4 _ _ _ _ _ _ _ (@Xh _ _ _ (@YH _ _ _ _ _ _ _ _ _ _ Z6 YK (@Ya _ _ _ _ _ (pv 15) (@Ya _ _ _ _ _ (@Xq _ _ _ _ ("bool") bW (by decide +kernel) (by rfl) (by rfl) (by decide) (by decide)) Yb (by rfl)) (by rfl)) (by decide +kernel) (by rfl) (by rfl) (by decide) (by decide) (by rfl) (by rfl)) (by intro _;rfl)) (@X4 _ _ _ _ _ _ _ (@Yo _ _ _ _ _ _ _ _ VQ (@YH _ _ _ _ _ _ _ _ _ _ Z6 YK (@Ya _ _ _ _ _ (pv 15) (@Ya _ _ _ _ _ (@Xq _ _ _ _ ("int") cG (by decide +kernel) (by rfl) (by rfl) (by decide) (by decide)) Yb (by rfl)) (by rfl)) (by decide +kernel) (by rfl) (by rfl) (by decide) (by decide) (by rfl) (by rfl)) (@Y2 _ _ _ _ _ _ _ _ Wg (pv 14) YW (Yl _)) (Yl _)) (@Wk _ _ _ _ (@Yo _ _ _ _ _ _ _ _ VQ (pv 15) (pv 14) (Yl _))))).pt (@Ye _ _ _ (@Yn _ _ _ _ Wj)) Yq) (@Yd _ _ _ _ _ (@Yr _ _ (16) _ _ _ _ Xg.nd rfl (.inl rfl) (@Yv _ _ _ _ _ _ _ _ _ _ _ _ BR hr (@Ya _ _ _ _ _ (@Xe _ _ _ _ _ _ _ Zo (by rfl) (by rfl) (by decide)) (@Ya _ _ _ _ _ (pv 3) (@Ya _ _ _ _ _ (@Xe _ _ _ _ _ _ _ Zo (by rfl) (by rfl) (by decide)) (@Ya _ _ _ _ _ (@Xe _ _ _ _ _ _ _ ZC (by rfl) (by rfl) (by decide)) Yb (by rfl)) (by rfl)) (by rfl)) (by rfl)) (by omega) (by rfl) (by rfl) (by decide) (by rfl) (by rfl)) (by rfl) (by first | exact .inl rfl | exact .inr rfl | assumption)) (@Yd _ _ _ _ _ (@Yr _ _ (17) _ _ _ _ Xg.nd rfl (.inl rfl) (@Wu _ (g) _ (30) _ _ _ _ _ _ 16 hr (@Ya _ _ _ _ _ (@XI _ _ _ _ _ _ _ _ _ _ aN Xu (@Ya _ _ _ _ _ (pv 8) Yb (by rfl)) (by decide +kernel) (by rfl) (by rfl) (by decide) (by decide) (by rfl) (by rfl)) Yb (by rfl)) (by omega) (by rfl) (by rfl) (by first | exact .inl rfl | exact .inr (.inl rfl) | exact .inr (.inr rfl)) (by decide) (by decide) (by rfl) (by rfl)) (by rfl) (by first | exact .inl rfl | exact .inr rfl | assumption)) (@Yd _ _ _ _ _ (@Yu _ _ _ _ _ _ _ _ (@X4 _ _ _ _ _ _ _ (@XR _ _ _ _ (@Xh _ _ _ (@YH _ _ _ _ _ _ _ _ _ _ Z6 YK (@Ya _ _ _ _ _ (pv 17) (@Ya _ _ _ _ _ (@Xq _ _ _ _ ("bool") bW (by decide +kernel) (by rfl) (by rfl) (by decide) (by decide)) Yb (by rfl)) (by rfl)) (by decide +kernel) (by rfl) (by rfl) (by decide) (by decide) (by rfl) (by rfl)) (by intro _;rfl))) (@Wk _ _ _ _ (@Yo _ _ _ _ _ _ _ _ VQ (pv 17) (@Y2 _ _ _ _ _ _ _ _ XM (pv 14) YW (Yl _)) (Yl _)))).pt (@Ye _ _ _ (@Yn _ _ _ _ Wj)) Yq) (@Yd _ _ _ _ _ (@Yu _ _ _ _ _ _ _ _ (@Yo _ _ _ _ _ _ _ _ XM (pv 14) YW (Yl _)) (@Ye _ _ _ (@Yn _ _ _ _ (@XS _ _ _ _ _ _ _ (@Yv _ _ _ _ _ _ _ _ _ _ _ _ jw hr (@Ya _ _ _ _ _ (pv 7) (@Ya _ _ _ _ _ (pv 6) (@Ya _ _ _ _ _ (pv 3) (@Ya _ _ _ _ _ (pv 8) Yb (by rfl)) (by rfl)) (by rfl)) (by rfl)) (by omega) (by rfl) (by rfl) (by decide) (by rfl) (by rfl)) (@XB _ _ _ _ _ (@Y2 _ _ _ _ _ _ _ _ (Vy hr.units) (pv 8) (pv 13) (Yl _)))))) Yq) (@Ye _ _ _ (@Yn _ _ _ _ (@XS _ _ _ _ _ _ _ (@Yv _ _ _ _ _ _ _ _ _ _ _ _ jx hr (@Ya _ _ _ _ _ (pv 7) (@Ya _ _ _ _ _ (pv 6) (@Ya _ _ _ _ _ (pv 3) (@Ya _ _ _ _ _ (pv 8) (@Ya _ _ _ _ _ (pv 16) Yb (by rfl)) (by rfl)) (by rfl)) (by rfl)) (by rfl)) (by omega) (by rfl) (by rfl) (by decide) (by rfl) (by rfl)) (@XB _ _ _ _ _ (@Y2 _ _ _ _ _ _ _ _ (Vy hr.units) (pv 8) (pv 13) (Yl _))))))))))))))))))))))))),?_⟩;have KQ:H ao=some (.aU #[]):=ht _ (.head _);have KR:H aj=some (.aU #[]):=ht _ (.tail _ (.head _));have hTT:H au=some (.aU #[]):=ht _ (.tail _ (.tail _ (.head _)));have Cj:ao≠aj:=fun z=>by simp [z] at hnd
 have nJT:ao≠au:=fun z=>by simp [z] at hnd
 have nST:aj≠au:=fun z=>by simp [z] at hnd
 refine Ym fun R rr=>?_
 walk_at "rd";refine ⟨a,ns,0,rfl,hS,hl,zT,_,rfl,by decide +kernel,zT,.inr (.inl (by decide)),rr _ _ (Ym fun R rr=>?_)⟩;have hlo:=Ygi (z:=ns.getD 0 0);generalize ns.getD 0 0%10^Int.toNat 60 - 5*10^Int.toNat 59=lo at hlo;walk_at "rd";refine ⟨a,ns,1,rfl,hS,hl,_,rfl,by decide,rr _ _ (Ym fun R rr=>?_)⟩;obtain ⟨sl,esl⟩:∃ sl:Nat,ns.getD 1 0%6=(sl:Int):=⟨(ns.getD 1 0%6).toNat,by omega⟩;rw [esl];walk_at "rd";refine ⟨a,ns,2,rfl,hS,hl,_,rfl,by decide,?_⟩;obtain ⟨bd,ebd⟩:∃ bd:Nat,1+ns.getD 2 0%3=(bd:Int):=⟨(1+ns.getD 2 0%3).toNat,by omega⟩;rw [ebd];refine ⟨sl,bd,lo,rfl,hlo,hTT,fun f1 H1 hf k1=>rr _ _ (Ym fun R rr=>?_)⟩;have kt1:Kt H H1:=Vi k1 hTT;have hS1:aG g.K H1 a (ns.map V.int):=YfK hS k1 hTT;have qj:Xv H1 ao := .inl (k1 _ _ nJT KQ);have ql:XQ H1 aj := .inl (k1 _ _ nST KR);walk_at "rd";refine ⟨few (by decide),fun p0 g0=>?_⟩;have w0:=Yf.aF g0 (.tup [.str "whole",.int lo,.int (lo+200)]);have e0:upd H1 p0 (.tup [.str "whole",.int lo,.int (lo+200)]) p0=some (.tup [.str "whole",.int lo,.int (lo+200)]):=Yc;generalize upd H1 p0 (.tup [.str "whole",.int lo,.int (lo+200)])=K0 at w0 e0 ⊢;refine ⟨few (by decide),fun p1 g1=>?_⟩;have w1:=Yf.aF g1 (.tup [.str "put",.ref p0]);have e1:upd K0 p1 (.tup [.str "put",.ref p0]) p1=some (.tup [.str "put",.ref p0]):=Yc;generalize upd K0 p1 (.tup [.str "put",.ref p0])=K1 at w1 e1 ⊢;refine ⟨few (by decide),fun p2 g2=>?_⟩;have w2:=Yf.aF g2 (.tup []);have e2:upd K1 p2 (.tup []) p2=some (.tup []):=Yc;generalize upd K1 p2 (.tup [])=K2 at w2 e2 ⊢;refine ⟨few (by decide),fun p3 g3=>?_⟩;have w3:=Yf.aF g3 (.tup [.str "row",.ref p2]);have e3:upd K2 p3 (.tup [.str "row",.ref p2]) p3=some (.tup [.str "row",.ref p2]):=Yc;generalize upd K2 p3 (.tup [.str "row",.ref p2])=K3 at w3 e3 ⊢;refine ⟨few (by decide),fun p4 g4=>?_⟩;have w4:=Yf.aF g4 (.tup [.str "take",.ref p3]);have e4:upd K3 p4 (.tup [.str "take",.ref p3]) p4=some (.tup [.str "take",.ref p3]):=Yc;generalize upd K3 p4 (.tup [.str "take",.ref p3])=K4 at w4 e4 ⊢;refine ⟨few (by decide),fun p5 g5=>?_⟩;have w5:=Yf.aF g5 (.tup []);have e5:upd K4 p5 (.tup []) p5=some (.tup []):=Yc;generalize upd K4 p5 (.tup [])=K5 at w5 e5 ⊢;refine ⟨few (by decide),fun p6 g6=>?_⟩;have w6:=Yf.aF g6 (.tup [.str "row",.ref p5]);have e6:upd K5 p6 (.tup [.str "row",.ref p5]) p6=some (.tup [.str "row",.ref p5]):=Yc;generalize upd K5 p6 (.tup [.str "row",.ref p5])=K6 at w6 e6 ⊢;refine ⟨few (by decide),fun p7 g7=>?_⟩;have w7:=Yf.aF g7 (.tup [.str "count",.ref p6]);have e7:upd K6 p7 (.tup [.str "count",.ref p6]) p7=some (.tup [.str "count",.ref p6]):=Yc;generalize upd K6 p7 (.tup [.str "count",.ref p6])=K7 at w7 e7 ⊢;refine ⟨few (by decide),fun p8 g8=>?_⟩;have w8:=Yf.aF g8 (.lst [.ref p1,.ref p4,.ref p7]);have e8:upd K7 p8 (.lst [.ref p1,.ref p4,.ref p7]) p8=some (.lst [.ref p1,.ref p4,.ref p7]):=Yc;generalize upd K7 p8 (.lst [.ref p1,.ref p4,.ref p7])=K8 at w8 e8 ⊢;refine rr _ _ (Ym fun R rr=>?_);have v7:=w8;have v6:=w7.trans v7;have v5:=w6.trans v6;have v4:=w5.trans v5;have v3:=w4.trans v4;have v2:=w3.trans v3;have v1:=w2.trans v2;have v0:=w1.trans v1;have sK:=w0.trans v0;have m0:K8 p1=some (.tup [.str (bB 0),.ref p0])/\Y0 K8 lo p0 0:=⟨v1 _ _ e1,v0 _ _ e0⟩;have m1:K8 p4=some (.tup [.str (bB 1),.ref p3])/\Y0 K8 lo p3 1:=⟨v4 _ _ e4,p2,v3 _ _ e3,v2 _ _ e2⟩;have m2:K8 p7=some (.tup [.str (bB 2),.ref p6])/\Y0 K8 lo p6 2:=⟨v7 _ _ e7,p5,v6 _ _ e6,v5 _ _ e5⟩;clear v0 v1 v2 v3 v4 v5 v6 v7 w0 w1 w2 w3 w4 w5 w6 w7 w8 e0 e1 e2 e3 e4 e5 e6 e7 g0 g1 g2 g3 g4 g5 g6 g7 g8;walk_at "rd";refine ⟨a,ns,3,rfl,sK.seq hS1,hl,_,rfl,by decide,rr _ _ (Ym fun R rr=>?_)⟩;obtain ⟨tn,h3,etn⟩:∃ tn:Nat,tn<3/\ns.getD 3 0%3=(tn:Int):=⟨(ns.getD 3 0%3).toNat,by omega,by omega⟩;rw [etn];obtain ⟨c0,c1,c2,r0,r1,r2,eL,pk⟩:=rot h3 m0.1 m0.2 m1.1 m1.2 m2.1 m2.2;walk_at "rd";refine ⟨_,aG.of e8,fun q0 h0=>?_⟩;rw [WN];have x0:=Yf.aF h0 (.lst (List.drop tn [V.ref p1,V.ref p4,V.ref p7]));refine ⟨_,aG.of (x0 _ _ e8),fun q1 h1=>?_⟩;rw [WM];have x1:=Yf.aF h1 (.lst (List.take tn [V.ref p1,V.ref p4,V.ref p7]));refine ⟨_,x1 _ _ Yc,_,Yc,few (by simp;omega),fun q2 h2=>?_⟩;rw [eL];have x2:=Yf.aF h2 (.lst [.ref c0,.ref c1,.ref c2]);refine ⟨_,.inl ⟨aG.of Yc,fun q3 h3'=>⟨few (by decide),fun q4 h4=>rr _ _ (Ym fun R rr=>?_)⟩⟩⟩;have x3:=Yf.aF h3' (.tup [.ref c0,.ref c1,.ref c2]);have x4:=Yf.aF h4 (.tup [.str "pick",.ref q3]);have x:=(((x0.trans x1).trans x2).trans x3).trans x4;have hSh:=(⟨q3,c0,c1,c2,r0,r1,r2,Yc,pk _ q3 (YR (Yx x)) (x4 _ _ Yc)⟩:Y9 _ lo tn q4 .pk);have sX:=sK.trans x;generalize upd (upd (upd (upd (upd K8 q0 (.lst (List.drop tn [V.ref p1,V.ref p4,V.ref p7]))) q1 (.lst (List.take tn [V.ref p1,V.ref p4,V.ref p7]))) q2 (.lst [.ref c0,.ref c1,.ref c2])) q3 (.tup [.ref c0,.ref c1,.ref c2])) q4 (.tup [.str "pick",.ref q3])=K9 at hSh sX;clear x0 x1 x2 x3 x4 x h0 h1 h2 h3' h4 pk eL m0 m1 m2 e8 sK;walk_at "rd";refine ⟨few (by decide),fun t0 i0=>⟨few (by decide),fun bk i1=>rr _ _ (Ym fun R rr=>?_)⟩⟩;have y0:=Yf.aF i0 (.tup [.str "deed",.ref q4]);have y1:=Yf.aF i1 (.lst [.ref t0]);walk_at "rd";refine ⟨few (by decide),fun D i2=>rr _ _ (Ym fun R rr=>?_)⟩;have y2:=Yf.aF i2 (.lst []);have y:=(y0.trans y1).trans y2;have hD:upd (upd (upd K9 t0 (.tup [.str "deed",.ref q4])) bk (.lst [.ref t0])) D (.lst []) D=some (.lst []):=Yc;have sY:=sX.trans y;have hS2:=Y9.kt (s := .pk) (Yx y) hSh;have gD:H1 D=none:=sX.free ((y0.trans y1).free i2);have g9:K9 D=none:=(y0.trans y1).free i2;generalize upd (upd (upd K9 t0 (.tup [.str "deed",.ref q4])) bk (.lst [.ref t0])) D (.lst [])=H2 at sY hS2 hD y;clear y0 y1 y2 i0 i1 i2;walk_at "rd";refine rr _ _ (Ym fun R rr=>?_);walk_at "rd";refine ⟨a,ns,4,rfl,sY.seq hS1,hl,rr _ _ (Ym fun R rr=>?_)⟩;have KY:=sY.seq hS1;generalize ns.getD 4 0=fst;obtain ⟨n9,h9,e9⟩:∃ n:Nat,n<9/\fst%9=(n:Int):=⟨(fst%9).toNat,by omega,by omega⟩;refine WK (K:=g.K) (fun L us H3=>∃ zs:List Int,us=zs.map V.int/\zs.length<=100/\Yf H2 H3/\L≠D/\H3 L=some (.lst (zs.map V.int))) (fun R r=>?_) ?_
 ·walk_at "rd"
  refine ⟨_,KY,fun P1 j1=>?_⟩;rw [show (5:Int)=((5:Nat):Int) from rfl,WN];have z1:=Yf.aF j1 (.lst (List.drop 5 (List.map V.int ns)));refine YbZ (n:=n9) (fun i => .int ((fst+7919*(i:Nat))*48271%2147483647)) (fun R r=>?_) (by omega) (fun i H' hi sm R r=>?_) fun T H' gT sm hT=>?_
  ·walk_at "rd"
   rw [e9];exact ⟨by decide,r _ (.refl _)⟩
  ·walk_at "rd"
   exact ⟨.inr (.inl (by decide)),.inr (.inr (by decide)),by decide,r _ (.refl _)⟩
  ·refine ⟨T,rfl,_,sm _ _ Yc,_,hT,few (by simp;omega),fun P2 j2=>?_⟩
   have z2:=Yf.aF j2 (.lst (List.drop 5 (List.map V.int ns)++(List.range n9).map fun (i:Nat)=>V.int ((fst+7919*(i:Nat))*48271%2147483647)));have e:List.drop 5 (List.map V.int ns)++(List.range n9).map (fun (i:Nat)=>V.int ((fst+7919*(i:Nat))*48271%2147483647))=(ns.drop 5++(List.range n9).map fun (i:Nat)=>(fst+7919*(i:Nat))*48271%2147483647).map V.int:=by
    rw [List.map_append,List.map_drop,List.map_map];rfl
   rw [e];refine r P2 _ _ (aG.of Yc) ⟨_,rfl,?_,(z1.trans sm).trans (.aF j2 _),fun z=>?_,Yc⟩
   ·rw [List.length_append,List.length_drop,List.length_map,List.length_range];omega
   ·rw [z,(z1.trans sm) _ _ hD] at j2;cases j2
 ·rintro L us H3 _ ⟨zs,rfl,jk,s3,nL,hL⟩
  refine ⟨KJ H3 lo D a p8 q4 bk f1 sl tn fst,⟨[],[],12,none,none,rfl,fun b o _ e=>e,s3 _ _ hD,⟨rfl,fun i u x e=>by cases e⟩,(fun x h=>by cases h),rfl⟩,?_,?_,?_⟩
  ·rintro i σ H' _ ⟨_,_,_,_,_,_,sb,_,_,_,_⟩
   exact aG.of (sb _ _ nL hL)
  ·rintro i v σ H' hv ⟨us,xs,left,lg,lq,rfl,sb,hD',al,ok,sz⟩
   rw [List.getElem?_map] at hv
   obtain ⟨z,_,rfl⟩:=Option.map_eq_some_iff.mp hv;refine Ym fun R rr=>?_
   walk_at "rd";refine ⟨XV (by decide) (by decide),by decide,XV (by decide) (by decide),by decide,by omega,rr _ _ ?_⟩;obtain ⟨far,Nq,Nr⟩:∃ far:Nat,far<=200/\z / 4%200 / 2^(z / 800%7).toNat=(far:Int):=by
    obtain ⟨y,hy,ey⟩:∃ y:Nat,y<200/\z / 4%200=(y:Int):=⟨(z / 4%200).toNat,by omega,by omega⟩;refine ⟨y / 2^(z / 800%7).toNat,Nat.le_trans (Nat.div_le_self _ _) (by omega),?_⟩;rw [ey,Int.natCast_ediv,Int.natCast_pow];rfl
   rw [Nr];have bt:Builtin.Int.intBits (far:Int)=bC (.put far):=rfl;have ul:=al.1;have Nt:xs.length<=12:=by unfold bw at sz;omega
   walk_at "rd";rw [bt];refine ⟨by decide,?_⟩;by_cases c4:z%4<2
   ·refine YU c4 ⟨KN,?_⟩
    by_cases c5:1+bC (.put far)<=left
    ·refine YU (by omega) ⟨.inl ⟨rfl,_,aG.of hD'⟩,few (by decide),fun p gp=>?_⟩
     have sp:=Yf.aF gp (.tup [.str "put",.int (lo+far)]);refine ⟨_,sp _ _ hD',few (by omega),KN,?_⟩;rw [show (left:Int) - 1 - (bC (.put far):Int)=((left - 1 - bC (.put far):Nat):Int) by omega];exact Ci sb hD' al ok sz sp (x := .put far) ⟨p,rfl,Yc⟩ Nq (by omega)
    ·exact YA (by omega) ⟨by decide,YA (by omega) ⟨us,xs,left,_,_,rfl,sb,hD',al,ok,sz⟩⟩
   ·refine YA c4 ⟨by decide,YU (by omega) ?_⟩
    by_cases c5:1<=left
    ·refine YU (by omega) ⟨.inl ⟨rfl,_,aG.of hD'⟩,few (by decide),fun p gp=>⟨XV (by decide) (by decide),by decide,XV (by decide) (by decide),?_⟩⟩
     have s1:=Yf.aF gp (.lst [.str "take",.str "count"]);have e3:z / 4%3 / 2=0\/z / 4%3 / 2=1:=by omega
     rcases e3 with e3 | e3
     ·rw [e3]
      refine ⟨_,aG.of Yc,_,Yk (j:=0) rfl,few (by decide),fun p1 g1=>⟨few (by decide),fun p2 g2=>?_⟩⟩;have s2:=Yf.aF g1 (.tup []);have s3:=Yf.aF g2 (.tup [.str "take",.ref p1]);have sA:=(s1.trans s2).trans s3;refine ⟨_,sA _ _ hD',few (by omega),?_⟩;have e7:((left:Int) - 1)=((left - 1 - bC .take:Nat):Int):=by
       show (left:Int) - 1=((left - 1 - 0:Nat):Int);omega
      rw [e7];exact Ci sb hD' al ok sz sA (x := .take) ⟨p2,p1,rfl,Yc,s3 _ _ Yc⟩ trivial (by show 1+0<=left;omega)
     ·rw [e3]
      refine ⟨_,aG.of Yc,_,Yk (j:=1) rfl,few (by decide),fun p1 g1=>⟨few (by decide),fun p2 g2=>?_⟩⟩;have s2:=Yf.aF g1 (.tup []);have s3:=Yf.aF g2 (.tup [.str "count",.ref p1]);have sA:=(s1.trans s2).trans s3;refine ⟨_,sA _ _ hD',few (by omega),?_⟩;have e7:((left:Int) - 1)=((left - 1 - bC .cg:Nat):Int):=by
       show (left:Int) - 1=((left - 1 - 0:Nat):Int);omega
      rw [e7];exact Ci sb hD' al ok sz sA (x := .cg) ⟨p2,p1,rfl,Yc,s3 _ _ Yc⟩ trivial (by show 1+0<=left;omega)
    ·exact YA (by omega) ⟨us,xs,left,_,_,rfl,sb,hD',al,ok,sz⟩
  ·rintro σ H4 ⟨us,xs,left,lg,lq,rfl,sb,qx,al,ok,sz⟩
   refine rr _ _ (Ym fun R rr=>?_);have Nt:xs.length<=12:=by unfold bw at sz;omega
   have okx:fC xs:=⟨by omega,ok⟩;have fD:∀ b o,H1 b=some o->H4 b=some o:=fun b o e=>sb _ _ (Yj e gD) (s3 _ _ (sY _ _ e))
   have KZ:Y9 H4 lo tn q4 .pk:=hS2.tp fun b us e=>sb _ _ (fun z=>by rw [z,hD] at e;cases e) (s3 _ _ e)
   have Ck:Yf H1 H4:=fD;have qy:=hf.nl (XL Ck);have La:=qj.keep Ck;have ts4:=ql.keep Ck;clear hf qj ql fD KQ KR hTT k1 kt1 hS1 KY hS2 sY sX y g9 hSh;walk_at "rd";refine ⟨_,.inl (aG.of qx),fun Kp gK=>rr _ _ (Ym fun R rr=>?_)⟩;have u1:=Yf.aF gK (.lst us);have hK:upd H4 Kp (.lst us) Kp=some (.lst us):=Yc;generalize upd H4 Kp (.lst us)=H5 at u1 hK;have Lb:=al.tp (YR (Yx u1));have Ld:=u1 _ _ qx;walk_at "rd";refine ⟨f1,D,sl,bd,lo,us,xs,rfl,qy.nl (XL u1),Ld,Lb,okx.1,ok,fun H6 u6=>rr _ _ (Ym fun R rr=>?_)⟩;have u16:=u1.trans u6;walk_at "rd";refine fun b1 hb1 b2 hb2 f2 hf2=>⟨b1,f1,b2,f2,D,sl,bd,lo,us,xs,rfl,hb1,qy.nl (XL u16),hb2,hf2,u6 _ _ Ld,Lb.tp (YR (Yx u6)),okx.1,ok,fun H7 u7=>rr _ _ (Ym fun R rr=>?_)⟩
   have lu:=u16.trans u7;have Le:=lu _ _ qx;have hK7:=u7 _ _ (u6 _ _ hK);have Lf:=al.tp (YR (Yx lu));have go:R [some (V.ref a),some (V.int lo),some (V.int (sl:Nat)),some (V.ref f1),some (V.ref p8),some (V.int (tn:Nat)),some (V.ref q4),some (V.ref bk),some (V.ref D),some (V.int (left:Nat)),some (V.int fst),lg,lq,some (V.ref Kp),some (dv (bU sl bd lo xs)),some (dv (bU sl bd lo xs)),none,none] H7:=by
    refine rr _ _ (Ym fun R rr=>?_);walk_at "rd";refine fun b1 hb1 b2 hb2 f2 hf2=>⟨b1,f1,b2,f2,sl,bd,lo,rfl,⟨hb1,qy.nl (XL lu),hb2,hf2⟩,La.keep lu,fun jf H8 jo tj8 k8=>rr _ _ (Ym fun R rr=>?_)⟩
    obtain ⟨psj,hpj⟩:=(La.keep lu).aU;have Cm:Kt H7 H8:=Vi k8 hpj;have ts8:=(ts4.keep lu).but k8 hpj (Ne.symm Cj);have Cp:=(Yx lu).trans Cm;obtain ⟨fd,sp,qt,Ce,Cg⟩:=id jo;walk_at "rd";refine ⟨jf,fd,_,sp,rfl,qt.1,qt.2,Ce,?_⟩;walk_at "rd";refine ⟨us,.inl (aG.of (Cm.lst Le)),fun l gl=>?_⟩;have ul:=Yf.aF gl (.lst us);refine Cg _ l us xs _ (XL ul) Yc (al.tp (YR (Cp.trans (Yx ul)))) okx.1 ok fun H9 u9=>rr _ _ (Ym fun R rr=>?_)
    have qz:=ul.trans u9;have fQ:=Cp.trans (Yx qz);have Nu:=Cm.trans (Yx qz);have jo9:=jo.nl (XL qz);have Lg:=tj8.keep qz;have Lh:=ts8.keep qz;walk_at "rd";refine ⟨_,rfl,_,.bl _,true,rfl,YA (by decide) ?_⟩;have fin:∀ H',Kt H9 H'->∃ d,Den g.K H' (V.ref D) d/\∃ x,Den g.K H' (V.ref Kp) x/\d.depth<=64/\d.eqv x=true:=fun H' k'=>by
     have kk:=Nu.trans k';have d1:=UF (K:=g.K) (kk.lst Le) (Lf.tp (YR kk));exact ⟨_,d1,_,UF (kk.lst hK7) (Lf.tp (YR kk)),Nat.le_trans (Vq lo xs) (by decide),PySem.SeqAt.eqv_refl _ d1.lay⟩
    cases ho:bU sl bd lo xs with
    | none =>
     refine ⟨rfl,YA (by simp [dv]) (rr _ _ (Ym fun R rr=>?_))⟩;walk_at "rd";refine ⟨.ref bk,q4,f1,D,sl,bd,lo,tn,us,xs,rfl,KZ.kt fQ,qy.nl (Kt.nl fQ),fQ.lst qx,al.tp (YR fQ),okx,by omega,Lg,Lh,Cj,ho,fun H' k'=>?_⟩;obtain ⟨d,d1,e,d2,d3,d4⟩:=fin H' k';exact ⟨_,rfl,YU rfl ⟨d,d1,e,d2,d3,by rw [d4];exact q H'⟩⟩
    | some j =>
     refine ⟨rfl,YA (by simp [dv]) (rr _ _ (Ym fun R rr=>?_))⟩;walk_at "rd";refine rr _ _ ?_;walk_at "rd";refine ⟨.ref bk,q4,f1,D,jf,sl,bd,lo,tn,us,xs,rfl,KZ.kt fQ,qy.nl (Kt.nl fQ),jo9,fQ.lst qx,al.tp (YR fQ),okx,by omega,Lg,Lh,Cj,by rw [ho];rfl,fun H' k'=>?_⟩;obtain ⟨d,d1,e,d2,d3,d4⟩:=fin H' k';exact ⟨_,rfl,YU rfl ⟨d,d1,e,d2,d3,by rw [d4];exact q H'⟩⟩
   walk_at "rd"
   cases ho:bU sl bd lo xs with
   | none =>
    rw [ho] at go
    exact ⟨_,rfl,_,.non,false,rfl,YA (by decide) ⟨_,rfl,_,.non,false,rfl,rfl,YA (by simp [dv]) ⟨rfl,go⟩⟩⟩
   | some j =>
    rw [ho] at go
    exact ⟨_,rfl,_,.int _,false,rfl,YA (by decide) ⟨_,rfl,_,.int _,true,rfl,rfl,YA (by simp [dv]) ⟨rfl,go⟩⟩⟩
theorem fG {α:Type} {us:List α} (h:us.length=1):∃ a0,us=[a0]:=by
 match us,h with
 | [a0],_=>exact ⟨_,rfl⟩
theorem bG {α:Type} {us:List α} (h:us.length=2):∃ a0 a1,us=[a0,a1]:=by
 match us,h with
 | [a0,a1],_=>exact ⟨_,_,rfl⟩
theorem dz {α:Type} {us:List α} (h:us.length=3):∃ a0 a1 a2,us=[a0,a1,a2]:=by
 match us,h with
 | [a0,a1,a2],_=>exact ⟨_,_,_,rfl⟩
theorem vN {α:Type} {us:List α} (h:us.length=4):∃ a0 a1 a2 a3,us=[a0,a1,a2,a3]:=by
 match us,h with
 | [a0,a1,a2,a3],_=>exact ⟨_,_,_,_,rfl⟩
theorem Lj {α:Type} {us:List α} (h:us.length=5):∃ a0 a1 a2 a3 a4,us=[a0,a1,a2,a3,a4]:=by
 match us,h with
 | [a0,a1,a2,a3,a4],_=>exact ⟨_,_,_,_,_,rfl⟩
theorem us7 {α:Type} {us:List α} (h:us.length=7):∃ a0 a1 a2 a3 a4 a5 a6,us=[a0,a1,a2,a3,a4,a5,a6]:=by
 match us,h with
 | [a0,a1,a2,a3,a4,a5,a6],_=>exact ⟨_,_,_,_,_,_,_,rfl⟩
structure Top (K:W.Frag) (mg:Str->Option Value) (Z4:Addr) (Z5:Addr) (Z1:Addr) (Z2:Addr) (Z3:Addr) (Z0:Addr) (aq ao:Addr) (ak aj:Addr) (aA au:Addr):Prop where
 Cr:∀ P w base,(Gx.mk P w K mg base).Raw "is_whole_number" "is_whole_number" yq ["thing"]
 Cu:∀ P w base,(Gx.mk P w K mg base).Raw "branch_place" "branch_place" yr ["branches","mark"]
 Cv:∀ P w base,(Gx.mk P w K mg base).Raw "has_mark" "has_mark" yu ["branches","value"]
 Cw:∀ P w base,(Gx.mk P w K mg base).Raw "has_form" "has_form" yw ["shape","value"]
 Cy:∀ P w base,(Gx.mk P w K mg base).Raw "things_within" "things_within" yC ["book","shape","value"]
 Cz:∀ P w base,(Gx.mk P w K mg base).Raw "sum_of_sizes" "sum_of_sizes" yD ["keys"]
 CG:∀ P w base,(Gx.mk P w K mg base).Raw "list_key" "list_key" yE ["shape","keys"]
 CJ:∀ P w base,(Gx.mk P w K mg base).Raw "key_made" "key_made" yG ["shape","value","keys"]
 m8:∀ P w base,(Gx.mk P w K mg base).Raw "weighed" "weighed" yH ["book","shape","value"]
 CK:∀ P w base,(Gx.mk P w K mg base).Raw "key_or_refusal" "key_or_refusal" yL ["book","shape","value"]
 lA:∀ P w base,(Gx.mk P w K mg base).Raw "fits" "fits" Q9 ["book","shape","value"]
 CN:∀ P w base,(Gx.mk P w K mg base).Raw "refuse_no_value" "refuse_no_value" yM ["book","shape","value"]
 CP:∀ P w base,(Gx.mk P w K mg base).Raw "size_of" "size_of" yN ["book","shape","value"]
 CQ:∀ P w base,(Gx.mk P w K mg base).jU "Maker" "__init__" "Maker.__init__" zQ ["self"]
 ZU:∀ P w base,(Gx.mk P w K mg base).cY "WholeMaker" Z0 "WholeMaker.__init__" ZP ["self","low","high"]
 CT:∀ P w base,(Gx.mk P w K mg base).cY "RowTable" Z2 "RowTable.__init__" zG ["self","parts"]
 CV:∀ P w base,(Gx.mk P w K mg base).cY "RowMaker" Z1 "RowMaker.__init__" zK ["self","parts"]
 CW:∀ P w base,(Gx.mk P w K mg base).cY "Lister" Z5 "Lister.__init__" zA ["self","book"]
 CZ:∀ P w base,(Gx.mk P w K mg base).Raw "least_distance" "least_distance" yO ["size"]
 ZV:∀ P w base,(Gx.mk P w K mg base).aW Z0 "reckoned" "WholeMaker.reckoned" ZQ ["self","size"]
 ZW:∀ P w base,(Gx.mk P w K mg base).aW Z0 "value_at" "WholeMaker.value_at" ZR ["self","size","number"]
 ZX:∀ P w base,(Gx.mk P w K mg base).aW Z0 "count_at" "Maker.count_at" ZS ["self","size"]
 Dc:∀ P w base,(Gx.mk P w K mg base).aW Z2 "add_size" "RowTable.add_size" zJ ["self","size"]
 Df:∀ P w base,(Gx.mk P w K mg base).aW Z2 "ways_at" "RowTable.ways_at" zH ["self","place","left"]
 Dg:∀ P w base,(Gx.mk P w K mg base).aW Z1 "reckoned" "RowMaker.reckoned" zL ["self","size"]
 Dh:∀ P w base,(Gx.mk P w K mg base).aW Z1 "count_at" "Maker.count_at" zR ["self","size"]
 Di:∀ P w base,(Gx.mk P w K mg base).aW Z1 "value_at" "RowMaker.value_at" zM ["self","size","number"]
 Dj:∀ P w base,(Gx.mk P w K mg base).Raw "least_below" "least_below" yP ["maker","below"]
 Dk:∀ P w base,(Gx.mk P w K mg base).Raw "parts_of" "parts_of" yp ["shape"]
 Dl:∀ P w base,(Gx.mk P w K mg base).aW Z5 "new_maker" "Lister.new_maker" zE ["self","shape"]
 Dm:∀ P w base,(Gx.mk P w K mg base).aW Z5 "maker_of" "Lister.maker_of" zB ["self","shape"]
 Dn:∀ P w base,(Gx.mk P w K mg base).Raw "whole_steps" "whole_steps" yQ ["low","value"]
 Dp:∀ P w base,(Gx.mk P w K mg base).Raw "without_each" "without_each" yR ["things"]
 Dq:∀ P w base,(Gx.mk P w K mg base).Raw "with_each_step" "with_each_step" yS ["things","inner"]
 Dr:∀ P w base,(Gx.mk P w K mg base).cY "Stepper" Z3 "Stepper.__init__" zN ["self","book"]
 ZJ:∀ P w base,(Gx.mk P w K mg base).aW Z3 "leasts_ahead" "Stepper.leasts_ahead" ZI ["self","shape","value"]
 Ds:∀ P w base,(Gx.mk P w K mg base).aW Z3 "steps_by" "Stepper.steps_by" zO ["self","shape","value","inner"]
 Zt:∀ P w base,(Gx.mk P w K mg base).aW Z3 "steps_from" "Stepper.steps_from" ZZ ["self","shape","value"]
 lB:∀ P w base,(Gx.mk P w K mg base).Raw "copied" "copied" Uh ["thing"]
 Dt:∀ P w base,(Gx.mk P w K mg base).Raw "steps_of" "steps_of" yU ["book","shape","value"]
 lC:∀ P w base,(Gx.mk P w K mg base).Raw "cuts" "cuts" yX ["deeds"]
 Du:∀ P w base,(Gx.mk P w K mg base).Raw "is_truth" "is_truth" yI ["thing"]
 Dv:∀ P w base,(Gx.mk P w K mg base).Raw "is_text" "is_text" yJ ["thing"]
 Dw:∀ P w base,(Gx.mk P w K mg base).Raw "is_list" "is_list" yK ["thing"]
 lD:∀ P w base,(Gx.mk P w K mg base).Raw "same" "same" Q8 ["one","other"]
 Dy:∀ P w base,(Gx.mk P w K mg base).Raw "_law_begin" "_law_begin" zf []
 Dz:∀ P w base,(Gx.mk P w K mg base).Raw "_law_model" "_law_model" zj ["_law_state","_law_deed"]
 DG:∀ P w base,(Gx.mk P w K mg base).Raw "_law_differ" "_law_differ" zm ["_law_one","_law_other"]
 DN:∀ P w base,(Gx.mk P w K mg base).dI "_law_thing" "_law_thing" um ["_law_slip","_law_bound","_law_low"] aA
 iQ:∀ P w base,(Gx.mk P w K mg base).Raw "apart" "apart" U3 ["begin","done","model_begin","model_done","deeds"]
 DP:∀ P w base,(Gx.mk P w K mg base).Raw "_law_place" "_law_place" zp ["_law_done","_law_deeds"]
 iR:∀ P w base,(Gx.mk P w K mg base).Raw "holds" "holds" U4 ["judge","value"]
 DQ:∀ P w base,(Gx.mk P w K mg base).Raw "first_breach" "first_breach" yV ["judge","values"]
 DR:∀ P w base,(Gx.mk P w K mg base).Raw "shrunk_by" "shrunk_by" yW ["judge","value","values_next"]
 DW:∀ P w base,(Gx.mk P w K mg base).Raw "_law_nexts" "_law_nexts" zq ["_law_book","_law_shape","_law_deeds"]
 DX:∀ P w base,(Gx.mk P w K mg base).dI "deed_judge" "deed_judge" uf ["begin","done","model_begin","model_done"] aq
 DY:∀ P w base,(Gx.mk P w K mg base).dI "shrunk_deeds" "shrunk_deeds" ZN ["book","shape","begin","done","model_begin","model_done","deeds"] ak
 Ea:∀ P w base,(Gx.mk P w K mg base).Raw "_law_way" "_law_way" zu ["_law_book","_law_shape","_law_done","_law_found"]
 Eb:∀ P w base,(Gx.mk P w K mg base).Raw "_law_refused" "_law_refused" zx ["_law_book","_law_shape","_law_done","_law_deeds"]
 Ec:∀ P w base,(Gx.mk P w K mg base).Raw "_law_shrinks" "_law_shrinks" zy ["_law_book","_law_shape","_law_done","_law_deeds","_law_holds"]
 Ed:∀ P w base,(Gx.mk P w K mg base).Raw "_law_cell_at" "_law_cell_at" za ["_law_script","_law_k"]
 Zr:Cls K Z5
 Zu:Yp K Z5 "book"
 Zm:Yp K Z5 "makers"
 Zb:Cls K Z1
 Z9:Yp K Z1 "counts"
 Zc:Yp K Z1 "parts"
 Zd:Yp K Z1 "table"
 Zk:Cls K Z2
 Zn:Yp K Z2 "parts"
 Zh:Yp K Z2 "ways"
 Zi:Cls K Z3
 Zg:Yp K Z3 "book"
 Zf:Yp K Z3 "lister"
 Z8:Cls K Z0
 Z7:Yp K Z0 "counts"
 Ze:Yp K Z0 "low"
 Za:Yp K Z0 "span"
 je:∀ P w base,(Gx.mk P w K mg base).jR "OF_ONE_PART" ([.str "many",.str "rising",.str "unlike"])
 bW:mg "bool"=none
 dh:mg "dict"=none
 Zp:mg "enumerate"=none
 cG:mg "int"=none
 Z6:mg "isinstance"=none
 aK:mg "len"=none
 aN:mg "list"=none
 iz:mg "max"=none
 iB:mg "min"=none
 Zl:mg "range"=none
 bO:mg "str"=none
 iy:mg "sum"=none
 Zj:mg "tuple"=none
 iw:mg "zip"=none
 bQ:mg "NoBreach"=some (.ref Z4)
 cR:W.excIn K Z4 QX "ValueError.__new__"=true
 bx:W.exmOne K (.ref Z4) (.ref Z4)=some true
theorem YeB {K:W.Frag} {mg:Str->Option Value} {Z4 Z5 Z1 Z2 Z3 Z0:Addr} {aq ao:Addr} {ak aj:Addr} {aA au:Addr}  (t:Top K mg Z4 Z5 Z1 Z2 Z3 Z0 aq ao ak aj aA au) (P:Program) (w:World) (base:Heap) (hB:Bm mg base) (jy:W.CodeHd base aq ao) (iI:W.CodeHd base ak aj) (lE:W.CodeHd base aA au) (hnd:([ao,aj,au]:List Addr).Nodup) :
  Uc (Gx.mk P w K mg base) 63 ["_law_script","_law_low","_law_slip","_law_done","_law_marks","_law_turn","_law_shape","_law_book","_law_deeds","_law_left","_law_first","_law_cell","_law_far","_law_kept","_law_due","_law_found","_law_holds","_law_answer"] "law" QE (VV K [("deed_judge",aq,ao),("shrunk_deeds",ak,aj),("_law_thing",aA,au)]):=by
 have Lk:=Z3h (g:=Gx.mk P w K mg base) (Z4:=Z4) (Z5:=Z5) (Z1:=Z1) (Z2:=Z2) (Z3:=Z3) (Z0:=Z0) (aq:=aq) (ao:=ao) (ak:=ak) (aj:=aj) (aA:=aA) (au:=au) (t.Cr P w base) t.bW t.cG t.Z6;have vO:=Z3V (g:=Gx.mk P w K mg base) (Z4:=Z4) (Z5:=Z5) (Z1:=Z1) (Z2:=Z2) (Z3:=Z3) (Z0:=Z0) (aq:=aq) (ao:=ao) (ak:=ak) (aj:=aj) (aA:=aA) (au:=au) (t.Cu P w base) t.Zp;have nY:=YaF (g:=Gx.mk P w K mg base) (k:=1) (Z4:=Z4) (Z5:=Z5) (Z1:=Z1) (Z2:=Z2) (Z3:=Z3) (Z0:=Z0) (aq:=aq) (ao:=ao) (ak:=ak) (aj:=aj) (aA:=aA) (au:=au) (t.Cv P w base) (vO.mono (by decide)) t.Z6 t.aK t.bO t.Zj;have Ef:=YaG (g:=Gx.mk P w K mg base) (k:=2) (Z4:=Z4) (Z5:=Z5) (Z1:=Z1) (Z2:=Z2) (Z3:=Z3) (Z0:=Z0) (aq:=aq) (ao:=ao) (ak:=ak) (aj:=aj) (aA:=aA) (au:=au) (t.Cw P w base) (Lk.mono (by decide)) (nY.mono (by decide)) t.Z6 t.aK t.aN t.Zj (t.je P w base);have ZG:=Z3P (g:=Gx.mk P w K mg base) (k:=1) (Z4:=Z4) (Z5:=Z5) (Z1:=Z1) (Z2:=Z2) (Z3:=Z3) (Z0:=Z0) (aq:=aq) (ao:=ao) (ak:=ak) (aj:=aj) (aA:=aA) (au:=au) (t.Cy P w base) (vO.mono (by decide)) t.aN t.iw (t.je P w base);have Ln:=Z3W (g:=Gx.mk P w K mg base) (Z4:=Z4) (Z5:=Z5) (Z1:=Z1) (Z2:=Z2) (Z3:=Z3) (Z0:=Z0) (aq:=aq) (ao:=ao) (ak:=ak) (aj:=aj) (aA:=aA) (au:=au) (t.Cz P w base) t.iy;have nZ:=YaH (g:=Gx.mk P w K mg base) (k:=1) (Z4:=Z4) (Z5:=Z5) (Z1:=Z1) (Z2:=Z2) (Z3:=Z3) (Z0:=Z0) (aq:=aq) (ao:=ao) (ak:=ak) (aj:=aj) (aA:=aA) (au:=au) (t.CG P w base) (Ln.mono (by decide)) t.aK t.Zj;have Eh:=YaI (g:=Gx.mk P w K mg base) (k:=2) (Z4:=Z4) (Z5:=Z5) (Z1:=Z1) (Z2:=Z2) (Z3:=Z3) (Z0:=Z0) (aq:=aq) (ao:=ao) (ak:=ak) (aj:=aj) (aA:=aA) (au:=au) (t.CJ P w base) (vO.mono (by decide)) (Ln.mono (by decide)) (nZ.mono (by decide)) t.Zj;have lM:=zX (g:=Gx.mk P w K mg base) (m:=0) (k:=3) (Z4:=Z4) (Z5:=Z5) (Z1:=Z1) (Z2:=Z2) (Z3:=Z3) (Z0:=Z0) (aq:=aq) (ao:=ao) (ak:=ak) (aj:=aj) (aA:=aA) (au:=au) (t.m8 P w base) (Ef.mono (by decide)) (ZG.mono (by decide)) (Eh.mono (by decide)) ((t.m8 P w base).none (fun _ _ _ _ h=>Yb8 h));have lN:=zX (g:=Gx.mk P w K mg base) (m:=1) (k:=4) (Z4:=Z4) (Z5:=Z5) (Z1:=Z1) (Z2:=Z2) (Z3:=Z3) (Z0:=Z0) (aq:=aq) (ao:=ao) (ak:=ak) (aj:=aj) (aA:=aA) (au:=au) (t.m8 P w base) (Ef.mono (by decide)) (ZG.mono (by decide)) (Eh.mono (by decide)) (lM.mono (by decide));have jq:=zX (g:=Gx.mk P w K mg base) (m:=2) (k:=5) (Z4:=Z4) (Z5:=Z5) (Z1:=Z1) (Z2:=Z2) (Z3:=Z3) (Z0:=Z0) (aq:=aq) (ao:=ao) (ak:=ak) (aj:=aj) (aA:=aA) (au:=au) (t.m8 P w base) (Ef.mono (by decide)) (ZG.mono (by decide)) (Eh.mono (by decide)) (lN.mono (by decide));have Z3R:=Z3B (g:=Gx.mk P w K mg base) (k:=6) (Z4:=Z4) (Z5:=Z5) (Z1:=Z1) (Z2:=Z2) (Z3:=Z3) (Z0:=Z0) (aq:=aq) (ao:=ao) (ak:=ak) (aj:=aj) (aA:=aA) (au:=au) (t.CK P w base) (jq.mono (by decide));have Ei:=YfA (g:=Gx.mk P w K mg base) (k:=6) (Z4:=Z4) (Z5:=Z5) (Z1:=Z1) (Z2:=Z2) (Z3:=Z3) (Z0:=Z0) (aq:=aq) (ao:=ao) (ak:=ak) (aj:=aj) (aA:=aA) (au:=au) (t.lA P w base) (jq.mono (by decide));have Lp:=Z3j (g:=Gx.mk P w K mg base) (k:=7) (Z4:=Z4) (Z5:=Z5) (Z1:=Z1) (Z2:=Z2) (Z3:=Z3) (Z0:=Z0) (aq:=aq) (ao:=ao) (ak:=ak) (aj:=aj) (aA:=aA) (au:=au) (t.CN P w base) (Ei.mono (by decide));have qC:=Yb9 (g:=Gx.mk P w K mg base) (k:=7) (Z4:=Z4) (Z5:=Z5) (Z1:=Z1) (Z2:=Z2) (Z3:=Z3) (Z0:=Z0) (aq:=aq) (ao:=ao) (ak:=ak) (aj:=aj) (aA:=aA) (au:=au) (t.CP P w base) (Z3R.mono (by decide));have Lq:=Z3C (g:=Gx.mk P w K mg base) (Z4:=Z4) (Z5:=Z5) (Z1:=Z1) (Z2:=Z2) (Z3:=Z3) (Z0:=Z0) (aq:=aq) (ao:=ao) (ak:=ak) (aj:=aj) (aA:=aA) (au:=au) (t.CQ P w base) t.Zb t.Z9 t.Zc t.Zd t.Z8 t.Z7 t.Ze t.Za;have Z2g:=Z1U (g:=Gx.mk P w K mg base) (k:=1) (Z4:=Z4) (Z5:=Z5) (Z1:=Z1) (Z2:=Z2) (Z3:=Z3) (Z0:=Z0) (aq:=aq) (ao:=ao) (ak:=ak) (aj:=aj) (aA:=aA) (au:=au) (t.ZU P w base) (Lq.mono (by decide)) t.Z8 t.Z7 t.Ze t.Za;have Z31:=Z2x (g:=Gx.mk P w K mg base) (Z4:=Z4) (Z5:=Z5) (Z1:=Z1) (Z2:=Z2) (Z3:=Z3) (Z0:=Z0) (aq:=aq) (ao:=ao) (ak:=ak) (aj:=aj) (aA:=aA) (au:=au) (t.CT P w base) t.aK t.Zl t.Zk t.Zn t.Zh;have Z32:=Z2y (g:=Gx.mk P w K mg base) (k:=2) (Z4:=Z4) (Z5:=Z5) (Z1:=Z1) (Z2:=Z2) (Z3:=Z3) (Z0:=Z0) (aq:=aq) (ao:=ao) (ak:=ak) (aj:=aj) (aA:=aA) (au:=au) (t.CV P w base) Z31 (by decide) (Lq.mono (by decide)) t.Zb t.Z9 t.Zc t.Zd;have Z3I:=Z3k (g:=Gx.mk P w K mg base) (Z4:=Z4) (Z5:=Z5) (Z1:=Z1) (Z2:=Z2) (Z3:=Z3) (Z0:=Z0) (aq:=aq) (ao:=ao) (ak:=ak) (aj:=aj) (aA:=aA) (au:=au) (t.CW P w base) t.Zr t.Zu t.Zm;have Lr:=Z3D (g:=Gx.mk P w K mg base) (Z4:=Z4) (Z5:=Z5) (Z1:=Z1) (Z2:=Z2) (Z3:=Z3) (Z0:=Z0) (aq:=aq) (ao:=ao) (ak:=ak) (aj:=aj) (aA:=aA) (au:=au) (t.CZ P w base);have Z2h:=Z1V (g:=Gx.mk P w K mg base) (k:=1) (Z4:=Z4) (Z5:=Z5) (Z1:=Z1) (Z2:=Z2) (Z3:=Z3) (Z0:=Z0) (aq:=aq) (ao:=ao) (ak:=ak) (aj:=aj) (aA:=aA) (au:=au) (t.ZV P w base) (Lr.mono (by decide)) t.iz t.iB t.Z8 t.Z7 t.Ze t.Za;have Z2i:=Z1W (g:=Gx.mk P w K mg base) (k:=1) (Z4:=Z4) (Z5:=Z5) (Z1:=Z1) (Z2:=Z2) (Z3:=Z3) (Z0:=Z0) (aq:=aq) (ao:=ao) (ak:=ak) (aj:=aj) (aA:=aA) (au:=au) (t.ZW P w base) (Lr.mono (by decide)) t.Z8 t.Z7 t.Ze t.Za;have Z2j:=Z1X (g:=Gx.mk P w K mg base) (k:=2) (Z4:=Z4) (Z5:=Z5) (Z1:=Z1) (Z2:=Z2) (Z3:=Z3) (Z0:=Z0) (aq:=aq) (ao:=ao) (ak:=ak) (aj:=aj) (aA:=aA) (au:=au) (t.ZX P w base) (Z2h.mono (by decide)) t.aK t.Z8 t.Z7 t.Ze t.Za;have Z33:=Z2z (g:=Gx.mk P w K mg base) (Z4:=Z4) (Z5:=Z5) (Z1:=Z1) (Z2:=Z2) (Z3:=Z3) (Z0:=Z0) (aq:=aq) (ao:=ao) (ak:=ak) (aj:=aj) (aA:=aA) (au:=au) (t.Dc P w base) t.aK t.Zl t.Zk t.Zn t.Zh;have Z3u:=Z2R (g:=Gx.mk P w K mg base) (k:=1) (Z4:=Z4) (Z5:=Z5) (Z1:=Z1) (Z2:=Z2) (Z3:=Z3) (Z0:=Z0) (aq:=aq) (ao:=ao) (ak:=ak) (aj:=aj) (aA:=aA) (au:=au) (t.Df P w base) (Z33.mono (by decide)) t.aK t.Zk t.Zn t.Zh;have Z34:=Z2A (g:=Gx.mk P w K mg base) (k:=2) (Z4:=Z4) (Z5:=Z5) (Z1:=Z1) (Z2:=Z2) (Z3:=Z3) (Z0:=Z0) (aq:=aq) (ao:=ao) (ak:=ak) (aj:=aj) (aA:=aA) (au:=au) (t.Dg P w base) (Z3u.mono (by decide)) t.Zb t.Z9 t.Zc t.Zd t.Zk t.Zn t.Zh;have Z35:=Z2B (g:=Gx.mk P w K mg base) (k:=3) (Z4:=Z4) (Z5:=Z5) (Z1:=Z1) (Z2:=Z2) (Z3:=Z3) (Z0:=Z0) (aq:=aq) (ao:=ao) (ak:=ak) (aj:=aj) (aA:=aA) (au:=au) (t.Dh P w base) (Z34.mono (by decide)) t.aK t.Zb t.Z9 t.Zc t.Zd;have Z36:=Z2C (g:=Gx.mk P w K mg base) (Z4:=Z4) (Z5:=Z5) (Z1:=Z1) (Z2:=Z2) (Z3:=Z3) (Z0:=Z0) (aq:=aq) (ao:=ao) (ak:=ak) (aj:=aj) (aA:=aA) (au:=au) (t.Di P w base) t.Zp t.Zj t.Zb t.Z9 t.Zc t.Zd;have jz:=Z47 (g:=Gx.mk P w K mg base) (k:=4) (Z4:=Z4) (Z5:=Z5) (Z1:=Z1) (Z2:=Z2) (Z3:=Z3) (Z0:=Z0) (aq:=aq) (ao:=ao) (ak:=ak) (aj:=aj) (aA:=aA) (au:=au) (t.Dj P w base) (Z2i.mono (by decide)) (Z36.mono (by decide)) (Z2j.mono (by decide)) (Z35.mono (by decide)) t.Zl t.Zb t.Z9 t.Zc t.Zd t.Z8 t.Z7 t.Ze t.Za;have n6:=YaJ (g:=Gx.mk P w K mg base) (Z4:=Z4) (Z5:=Z5) (Z1:=Z1) (Z2:=Z2) (Z3:=Z3) (Z0:=Z0) (aq:=aq) (ao:=ao) (ak:=ak) (aj:=aj) (aA:=aA) (au:=au) (t.Dk P w base) t.aN;have Z3v:=Z2W (g:=Gx.mk P w K mg base) (k:=4) (Z4:=Z4) (Z5:=Z5) (Z1:=Z1) (Z2:=Z2) (Z3:=Z3) (Z0:=Z0) (aq:=aq) (ao:=ao) (ak:=ak) (aj:=aj) (aA:=aA) (au:=au) (t.Dl P w base) (n6.mono (by decide)) Z2g (by decide) Z32 (by decide);have Z3J:=Z3m (g:=Gx.mk P w K mg base) (k:=5) (Z4:=Z4) (Z5:=Z5) (Z1:=Z1) (Z2:=Z2) (Z3:=Z3) (Z0:=Z0) (aq:=aq) (ao:=ao) (ak:=ak) (aj:=aj) (aA:=aA) (au:=au) (t.Dm P w base) (Z3v.mono (by decide)) t.Zr t.Zu t.Zm;have jA:=Z48 (g:=Gx.mk P w K mg base) (Z4:=Z4) (Z5:=Z5) (Z1:=Z1) (Z2:=Z2) (Z3:=Z3) (Z0:=Z0) (aq:=aq) (ao:=ao) (ak:=ak) (aj:=aj) (aA:=aA) (au:=au) (t.Dn P w base);have Z4d:=Z40 (g:=Gx.mk P w K mg base) (Z4:=Z4) (Z5:=Z5) (Z1:=Z1) (Z2:=Z2) (Z3:=Z3) (Z0:=Z0) (aq:=aq) (ao:=ao) (ak:=ak) (aj:=aj) (aA:=aA) (au:=au) (t.Dp P w base) t.aK t.Zl;have Z3S:=Z3E (g:=Gx.mk P w K mg base) (Z4:=Z4) (Z5:=Z5) (Z1:=Z1) (Z2:=Z2) (Z3:=Z3) (Z0:=Z0) (aq:=aq) (ao:=ao) (ak:=ak) (aj:=aj) (aA:=aA) (au:=au) (t.Dq P w base) t.Zp;have Z3w:=Z2Y (g:=Gx.mk P w K mg base) (k:=2) (Z4:=Z4) (Z5:=Z5) (Z1:=Z1) (Z2:=Z2) (Z3:=Z3) (Z0:=Z0) (aq:=aq) (ao:=ao) (ak:=ak) (aj:=aj) (aA:=aA) (au:=au) (t.Dr P w base) Z3I (by decide) t.Zi t.Zg t.Zf;have Z26:=Z1I (g:=Gx.mk P w K mg base) (k:=8) (Z4:=Z4) (Z5:=Z5) (Z1:=Z1) (Z2:=Z2) (Z3:=Z3) (Z0:=Z0) (aq:=aq) (ao:=ao) (ak:=ak) (aj:=aj) (aA:=aA) (au:=au) (t.ZJ P w base) (vO.mono (by decide)) (qC.mono (by decide)) (jz.mono (by decide)) (Z3J.mono (by decide)) t.Zr t.Zu t.Zm t.Zi t.Zg t.Zf;have Ej:=Z2Z (g:=Gx.mk P w K mg base) (k:=9) (Z4:=Z4) (Z5:=Z5) (Z1:=Z1) (Z2:=Z2) (Z3:=Z3) (Z0:=Z0) (aq:=aq) (ao:=ao) (ak:=ak) (aj:=aj) (aA:=aA) (au:=au) (t.Ds P w base) (jA.mono (by decide)) (Z4d.mono (by decide)) (Z3S.mono (by decide)) (Z26.mono (by decide)) t.aN t.Zj t.Zi t.Zg t.Zf;have Z27:=ZT (g:=Gx.mk P w K mg base) (m:=0) (k:=10) (Z4:=Z4) (Z5:=Z5) (Z1:=Z1) (Z2:=Z2) (Z3:=Z3) (Z0:=Z0) (aq:=aq) (ao:=ao) (ak:=ak) (aj:=aj) (aA:=aA) (au:=au) (t.Zt P w base) (ZG.mono (by decide)) ((t.Zt P w base).none (fun _ _ _ _ h=>Fj h)) (Ej.mono (by decide)) t.Zi t.Zg t.Zf;have Z28:=ZT (g:=Gx.mk P w K mg base) (m:=1) (k:=11) (Z4:=Z4) (Z5:=Z5) (Z1:=Z1) (Z2:=Z2) (Z3:=Z3) (Z0:=Z0) (aq:=aq) (ao:=ao) (ak:=ak) (aj:=aj) (aA:=aA) (au:=au) (t.Zt P w base) (ZG.mono (by decide)) (Z27.mono (by decide)) (Ej.mono (by decide)) t.Zi t.Zg t.Zf;have Z2M:=ZT (g:=Gx.mk P w K mg base) (m:=2) (k:=12) (Z4:=Z4) (Z5:=Z5) (Z1:=Z1) (Z2:=Z2) (Z3:=Z3) (Z0:=Z0) (aq:=aq) (ao:=ao) (ak:=ak) (aj:=aj) (aA:=aA) (au:=au) (t.Zt P w base) (ZG.mono (by decide)) (Z28.mono (by decide)) (Ej.mono (by decide)) t.Zi t.Zg t.Zf;have n8:=vp (g:=Gx.mk P w K mg base) (m:=0) (k:=0) (Z4:=Z4) (Z5:=Z5) (Z1:=Z1) (Z2:=Z2) (Z3:=Z3) (Z0:=Z0) (aq:=aq) (ao:=ao) (ak:=ak) (aj:=aj) (aA:=aA) (au:=au) (t.lB P w base) ((t.lB P w base).none (fun _ _ _ _ h=>Yds h)) t.dh t.Z6 t.aN t.Zj;have oh:=vp (g:=Gx.mk P w K mg base) (m:=1) (k:=1) (Z4:=Z4) (Z5:=Z5) (Z1:=Z1) (Z2:=Z2) (Z3:=Z3) (Z0:=Z0) (aq:=aq) (ao:=ao) (ak:=ak) (aj:=aj) (aA:=aA) (au:=au) (t.lB P w base) (n8.mono (by decide)) t.dh t.Z6 t.aN t.Zj;have ou:=vp (g:=Gx.mk P w K mg base) (m:=2) (k:=2) (Z4:=Z4) (Z5:=Z5) (Z1:=Z1) (Z2:=Z2) (Z3:=Z3) (Z0:=Z0) (aq:=aq) (ao:=ao) (ak:=ak) (aj:=aj) (aA:=aA) (au:=au) (t.lB P w base) (oh.mono (by decide)) t.dh t.Z6 t.aN t.Zj;have qD:=vp (g:=Gx.mk P w K mg base) (m:=3) (k:=3) (Z4:=Z4) (Z5:=Z5) (Z1:=Z1) (Z2:=Z2) (Z3:=Z3) (Z0:=Z0) (aq:=aq) (ao:=ao) (ak:=ak) (aj:=aj) (aA:=aA) (au:=au) (t.lB P w base) (ou.mono (by decide)) t.dh t.Z6 t.aN t.Zj;have Lw:=YaK (g:=Gx.mk P w K mg base) (k:=13) (Z4:=Z4) (Z5:=Z5) (Z1:=Z1) (Z2:=Z2) (Z3:=Z3) (Z0:=Z0) (aq:=aq) (ao:=ao) (ak:=ak) (aj:=aj) (aA:=aA) (au:=au) (t.Dt P w base) (qD.mono (by decide)) (Lp.mono (by decide)) Z3w (by decide) (Z2M.mono (by decide)) t.Zi t.Zg t.Zf;have Ek:=YfB (g:=Gx.mk P w K mg base) (k:=4) (Z4:=Z4) (Z5:=Z5) (Z1:=Z1) (Z2:=Z2) (Z3:=Z3) (Z0:=Z0) (aq:=aq) (ao:=ao) (ak:=ak) (aj:=aj) (aA:=aA) (au:=au) (t.lC P w base) (qD.mono (by decide)) t.aK t.Zl;have oA:=YaL (g:=Gx.mk P w K mg base) (Z4:=Z4) (Z5:=Z5) (Z1:=Z1) (Z2:=Z2) (Z3:=Z3) (Z0:=Z0) (aq:=aq) (ao:=ao) (ak:=ak) (aj:=aj) (aA:=aA) (au:=au) (t.Du P w base) t.bW t.Z6;have qF:=Ych (g:=Gx.mk P w K mg base) (Z4:=Z4) (Z5:=Z5) (Z1:=Z1) (Z2:=Z2) (Z3:=Z3) (Z0:=Z0) (aq:=aq) (ao:=ao) (ak:=ak) (aj:=aj) (aA:=aA) (au:=au) (t.Dv P w base) t.Z6 t.bO;have qG:=Yci (g:=Gx.mk P w K mg base) (Z4:=Z4) (Z5:=Z5) (Z1:=Z1) (Z2:=Z2) (Z3:=Z3) (Z0:=Z0) (aq:=aq) (ao:=ao) (ak:=ak) (aj:=aj) (aA:=aA) (au:=au) (t.Dw P w base) t.Z6 t.aN;have El:=YfC (g:=Gx.mk P w K mg base) (k:=1) (Z4:=Z4) (Z5:=Z5) (Z1:=Z1) (Z2:=Z2) (Z3:=Z3) (Z0:=Z0) (aq:=aq) (ao:=ao) (ak:=ak) (aj:=aj) (aA:=aA) (au:=au) (t.lD P w base) (Lk.mono (by decide)) (oA.mono (by decide)) (qF.mono (by decide)) (qG.mono (by decide)) t.Z6 t.Zj;have vP:=Yak (g:=Gx.mk P w K mg base) (Z4:=Z4) (Z5:=Z5) (Z1:=Z1) (Z2:=Z2) (Z3:=Z3) (Z0:=Z0) (aq:=aq) (ao:=ao) (ak:=ak) (aj:=aj) (aA:=aA) (au:=au) (t.Dy P w base);have vQ:=Yal (g:=Gx.mk P w K mg base) (Z4:=Z4) (Z5:=Z5) (Z1:=Z1) (Z2:=Z2) (Z3:=Z3) (Z0:=Z0) (aq:=aq) (ao:=ao) (ak:=ak) (aj:=aj) (aA:=aA) (au:=au) (t.Dz P w base) t.aK;have lF:=Qx (g:=Gx.mk P w K mg base) (Z4:=Z4) (Z5:=Z5) (Z1:=Z1) (Z2:=Z2) (Z3:=Z3) (Z0:=Z0) (aq:=aq) (ao:=ao) (ak:=ak) (aj:=aj) (aA:=aA) (au:=au) (t.DG P w base) t.Z6 t.bO;have lO:=Yao (g:=Gx.mk P w K mg base) (Z4:=Z4) (Z5:=Z5) (Z1:=Z1) (Z2:=Z2) (Z3:=Z3) (Z0:=Z0) (aq:=aq) (ao:=ao) (ak:=ak) (aj:=aj) (aA:=aA) (au:=au) (t.DN P w base) hB lE t.cG t.aK t.bO;have m9:=Yeu (g:=Gx.mk P w K mg base) (k:=10) (Z4:=Z4) (Z5:=Z5) (Z1:=Z1) (Z2:=Z2) (Z3:=Z3) (Z0:=Z0) (aq:=aq) (ao:=ao) (ak:=ak) (aj:=aj) (aA:=aA) (au:=au) (t.iQ P w base) (qD.mono (by decide)) (El.mono (by decide)) (by decide) (by decide) t.Zp;have Lx:=Yap (g:=Gx.mk P w K mg base) (k:=10) (Z4:=Z4) (Z5:=Z5) (Z1:=Z1) (Z2:=Z2) (Z3:=Z3) (Z0:=Z0) (aq:=aq) (ao:=ao) (ak:=ak) (aj:=aj) (aA:=aA) (au:=au) (t.DP P w base) (vP.mono (by decide)) (vQ.mono (by decide)) (lF.mono (by decide)) (by decide) t.aK t.Zl;have vX:=Yew (g:=Gx.mk P w K mg base) (k:=30) (Z4:=Z4) (Z5:=Z5) (Z1:=Z1) (Z2:=Z2) (Z3:=Z3) (Z0:=Z0) (aq:=aq) (ao:=ao) (ak:=ak) (aj:=aj) (aA:=aA) (au:=au) (t.iR P w base) (qD.mono (by decide)) (by decide);have Z4e:=Z42 (g:=Gx.mk P w K mg base) (k:=31) (Z4:=Z4) (Z5:=Z5) (Z1:=Z1) (Z2:=Z2) (Z3:=Z3) (Z0:=Z0) (aq:=aq) (ao:=ao) (ak:=ak) (aj:=aj) (aA:=aA) (au:=au) (t.DQ P w base) (vX.mono (by decide));have lQ:=Yaq (g:=Gx.mk P w K mg base) (k:=60) (Z4:=Z4) (Z5:=Z5) (Z1:=Z1) (Z2:=Z2) (Z3:=Z3) (Z0:=Z0) (aq:=aq) (ao:=ao) (ak:=ak) (aj:=aj) (aA:=aA) (au:=au) (t.DR P w base) (qD.mono (by decide)) (Z4e.mono (by decide)) (by decide) t.bQ t.cR;have lR:=Yat (g:=Gx.mk P w K mg base) (k:=14) (Z4:=Z4) (Z5:=Z5) (Z1:=Z1) (Z2:=Z2) (Z3:=Z3) (Z0:=Z0) (aq:=aq) (ao:=ao) (ak:=ak) (aj:=aj) (aA:=aA) (au:=au) (t.DW P w base) (Lw.mono (by decide)) t.aK t.aN t.Zl;have Ly:=Qy (g:=Gx.mk P w K mg base) (k:=11) (Z4:=Z4) (Z5:=Z5) (Z1:=Z1) (Z2:=Z2) (Z3:=Z3) (Z0:=Z0) (aq:=aq) (ao:=ao) (ak:=ak) (aj:=aj) (aA:=aA) (au:=au) (t.DX P w base) hB jy (m9.mono (by decide));have Lz:=Z43 (g:=Gx.mk P w K mg base) (k:=61) (Z4:=Z4) (Z5:=Z5) (Z1:=Z1) (Z2:=Z2) (Z3:=Z3) (Z0:=Z0) (aq:=aq) (ao:=ao) (ak:=ak) (aj:=aj) (aA:=aA) (au:=au) (t.DY P w base) hB iI (Ly.mono (by decide)) (Lp.mono (by decide)) (Lw.mono (by decide)) (lQ.mono (by decide)) (Ek.mono (by decide));have qH:=Ycl (g:=Gx.mk P w K mg base) (k:=15) (Z4:=Z4) (Z5:=Z5) (Z1:=Z1) (Z2:=Z2) (Z3:=Z3) (Z0:=Z0) (aq:=aq) (ao:=ao) (ak:=ak) (aj:=aj) (aA:=aA) (au:=au) (t.Ea P w base) (Lx.mono (by decide)) (lR.mono (by decide)) t.aK t.Zl;have jB:=Z4a (g:=Gx.mk P w K mg base) (k:=62) (Z4:=Z4) (Z5:=Z5) (Z1:=Z1) (Z2:=Z2) (Z3:=Z3) (Z0:=Z0) (aq:=aq) (ao:=ao) (ak:=ak) (aj:=aj) (aA:=aA) (au:=au) (t.Eb P w base) (Lz.mono (by decide)) (vP.mono (by decide)) (vQ.mono (by decide)) (by decide) t.bQ t.bx;have jC:=Z4b (g:=Gx.mk P w K mg base) (k:=62) (Z4:=Z4) (Z5:=Z5) (Z1:=Z1) (Z2:=Z2) (Z3:=Z3) (Z0:=Z0) (aq:=aq) (ao:=ao) (ak:=ak) (aj:=aj) (aA:=aA) (au:=au) (t.Ec P w base) (Lz.mono (by decide)) (vP.mono (by decide)) (vQ.mono (by decide)) (qH.mono (by decide)) (by decide) (by decide) t.Z6 t.aN;have jD:=Z4c (g:=Gx.mk P w K mg base) (Z4:=Z4) (Z5:=Z5) (Z1:=Z1) (Z2:=Z2) (Z3:=Z3) (Z0:=Z0) (aq:=aq) (ao:=ao) (ak:=ak) (aj:=aj) (aA:=aA) (au:=au) (t.Ed P w base) t.aK;exact YeA (g:=Gx.mk P w K mg base) (k:=63) (Z4:=Z4) (Z5:=Z5) (Z1:=Z1) (Z2:=Z2) (Z3:=Z3) (Z0:=Z0) (aq:=aq) (ao:=ao) (ak:=ak) (aj:=aj) (aA:=aA) (au:=au) (m9.mono (by decide)) (Ly.mono (by decide)) (jD.mono (by decide)) (vP.mono (by decide)) (vQ.mono (by decide)) (lO.mono (by decide)) (Lx.mono (by decide)) (jB.mono (by decide)) (jC.mono (by decide)) (by decide) (by decide) t.bW t.cG t.Z6 t.aN t.Zl t.Zj hnd
end KW
namespace PySem.W.Fast
theorem tw746090910177909925:True:=⟨⟩
theorem tw5137244573742839076:True:=⟨⟩
theorem tw15379017978356426684:True:=⟨⟩
theorem tw1421163165219036346:True:=⟨⟩
theorem tw7768755632646876867:True:=⟨⟩
theorem tw18134937363016015325:True:=⟨⟩
theorem tw4916048030196073811:True:=⟨⟩
theorem tw8673788378930633866:True:=⟨⟩
theorem tw1188304916107513080:True:=⟨⟩
theorem tw13478233383032201014:True:=⟨⟩
theorem tw15362531407015094074:True:=⟨⟩
theorem tw4222591958003823763:True:=⟨⟩
theorem tw3607171538237499237:True:=⟨⟩
theorem tw13653321909917886585:True:=⟨⟩
theorem tw3703671203751907385:True:=⟨⟩
theorem tw5147431202915628681:True:=⟨⟩
theorem tw13162026882190152979:True:=⟨⟩
theorem tw1686187974575554687:True:=⟨⟩
theorem tw277376629197192930:True:=⟨⟩
theorem tw16739951702041191885:True:=⟨⟩
theorem tw12127594902046963410:True:=⟨⟩
theorem tw3338030097307279070:True:=⟨⟩
theorem tw14977299537220403876:True:=⟨⟩
theorem tw2476424410774257640:True:=⟨⟩
theorem tw17251943218253812016:True:=⟨⟩
theorem tw11484855022089360542:True:=⟨⟩
theorem tw589812761039442972:True:=⟨⟩
theorem tw13011680748855835036:True:=⟨⟩
theorem tw2949110749231424519:True:=⟨⟩
theorem tw3176084595115117322:True:=⟨⟩
theorem tw8469692513748741335:True:=⟨⟩
theorem tw3338810242539479885:True:=⟨⟩
theorem tw14503173757579418639:True:=⟨⟩
theorem tw12356615666940516796:True:=⟨⟩
theorem tw11513777881575015487:True:=⟨⟩
theorem tw14367526898024206766:True:=⟨⟩
theorem tw7718935248958061965:True:=⟨⟩
theorem tw5929819264082687960:True:=⟨⟩
theorem tw7355573759942206017:True:=⟨⟩
theorem tw11328268786431152138:True:=⟨⟩
theorem tw2786578823693008954:True:=⟨⟩
theorem tw15542695927791728553:True:=⟨⟩
theorem tw3871267914740116561:True:=⟨⟩
theorem tw3638567370678262955:True:=⟨⟩
theorem tw15891838557807867962:True:=⟨⟩
theorem tw7415288847442935840:True:=⟨⟩
theorem tw4579422852226614676:True:=⟨⟩
theorem tw9725900157527898392:True:=⟨⟩
theorem tw18230631961250203863:True:=⟨⟩
theorem tw3859883530833881091:True:=⟨⟩
theorem tw5052995100218098953:True:=⟨⟩
theorem tw7442997765296831251:True:=⟨⟩
theorem tw5106018748249133863:True:=⟨⟩
theorem tw6548930944878101541:True:=⟨⟩
theorem tw1135377524713289716:True:=⟨⟩
theorem tw7338887479742843520:True:=⟨⟩
theorem tw12888191215878733648:True:=⟨⟩
theorem tw12386728706088479478:True:=⟨⟩
theorem tw7274881564039551417:True:=⟨⟩
theorem tw13451472242654234792:True:=⟨⟩
theorem tw15579499273494422356:True:=⟨⟩
theorem tw17193527231751117637:True:=⟨⟩
theorem tw5918095429869180729:True:=⟨⟩
theorem tw1403114888808832511:True:=⟨⟩
theorem tw8157651787558935033:True:=⟨⟩
theorem tw2121337167442881265:True:=⟨⟩
theorem tw6325415678973735472:True:=⟨⟩
theorem tw15463879667018878265:True:=⟨⟩
theorem tw17485110294043807505:True:=⟨⟩
theorem tw2655836369613760041:True:=⟨⟩
theorem tw18288075127967253095:True:=⟨⟩
theorem tw8161540541356708738:True:=⟨⟩
theorem tw10605647771106621507:True:=⟨⟩
theorem tw14535823844144199749:True:=⟨⟩
theorem tw10226433526810810041:True:=⟨⟩
theorem tw15901201629587352896:True:=⟨⟩
theorem tw716657639397879735:True:=⟨⟩
theorem tw6720769146497198714:True:=⟨⟩
theorem tw5346974074113511983:True:=⟨⟩
theorem tw15838331055558344284:True:=⟨⟩
theorem tw16119777667985932221:True:=⟨⟩
theorem tw9361471773544299209:True:=⟨⟩
theorem tw1508096219666261235:True:=⟨⟩
theorem tw6944631605953062628:True:=⟨⟩
theorem tw12075417301870197263:True:=⟨⟩
theorem tw17441017819529236625:True:=⟨⟩
theorem tw12513341339212961335:True:=⟨⟩
theorem tw12296776391634996879:True:=⟨⟩
theorem tw15085158115072493238:True:=⟨⟩
theorem tw5187734832686793447:True:=⟨⟩
theorem tw9161647178682436348:True:=⟨⟩
theorem tw4161218431913968911:True:=⟨⟩
theorem tw3486170012245123659:True:=⟨⟩
theorem tw14035487245378527612:True:=⟨⟩
theorem tw12536507053048229622:True:=⟨⟩
theorem tw13647642969297348703:True:=⟨⟩
theorem tw11550488378689721711:True:=⟨⟩
theorem tw11749852603232879856:True:=⟨⟩
theorem tw13908980578307866475:True:=⟨⟩
theorem tw7866581333624890322:True:=⟨⟩
theorem tw7708080332793019521:True:=⟨⟩
theorem tw13128638910783209211:True:=⟨⟩
theorem tw1223504092625724733:True:=⟨⟩
theorem tw12283046234943388286:True:=⟨⟩
theorem tw11064790774942056661:True:=⟨⟩
theorem tw11944770788852340625:True:=⟨⟩
theorem tw5310564781564218792:True:=⟨⟩
theorem tw6402382318158243287:True:=⟨⟩
theorem tw4444098511181475177:True:=⟨⟩
theorem tw2013003668833994006:True:=⟨⟩
theorem tw2800720739558004050:True:=⟨⟩
theorem tw15093857197143268347:True:=⟨⟩
theorem tw8921348435898263760:True:=⟨⟩
theorem tw13293011155074644486:True:=⟨⟩
theorem tw3277518214462491053:True:=⟨⟩
theorem tw6944236861625209894:True:=⟨⟩
theorem tw17983350390755615046:True:=⟨⟩
theorem tw9604801270039970469:True:=⟨⟩
theorem tw14732807482230623301:True:=⟨⟩
theorem tw15152371190273486038:True:=⟨⟩
theorem tw16101998362484436052:True:=⟨⟩
theorem tw16093195500291684462:True:=⟨⟩
theorem tw5589425868023331376:True:=⟨⟩
theorem tw7249753891342097871:True:=⟨⟩
theorem tw4590847584528458086:True:=⟨⟩
theorem tw5767729997170003543:True:=⟨⟩
theorem tw3768524564445031770:True:=⟨⟩
theorem tw12424167487550971550:True:=⟨⟩
theorem tw6954170304318105702:True:=⟨⟩
theorem tw13254524428994451621:True:=⟨⟩
theorem tw15722862829446556288:True:=⟨⟩
theorem tw203003231307886816:True:=⟨⟩
theorem tw10220081731795680362:True:=⟨⟩
theorem tw2673753253577495176:True:=⟨⟩
theorem tw14811616158692107170:True:=⟨⟩
theorem tw15892832626923971081:True:=⟨⟩
theorem tw1128247455267118827:True:=⟨⟩
theorem tw9039841566967109737:True:=⟨⟩
theorem tw2074360931994385996:True:=⟨⟩
theorem tw11570464903773482250:True:=⟨⟩
theorem tw11058715084600756528:True:=⟨⟩
theorem tw18243225540241020559:True:=⟨⟩
theorem tw4717888729177109:True:=⟨⟩
theorem tw8460238718695893748:True:=⟨⟩
theorem tw11011712811855144749:True:=⟨⟩
theorem tw13588654579629913577:True:=⟨⟩
theorem tw7997923416372384602:True:=⟨⟩
theorem tw15537024344938562144:True:=⟨⟩
theorem tw12706883033693706064:True:=⟨⟩
theorem tw17492941981983470874:True:=⟨⟩
theorem tw16741408823867530488:True:=⟨⟩
theorem tw13933466672699518972:True:=⟨⟩
theorem tw16023827741760897321:True:=⟨⟩
theorem tw16985348508194758841:True:=⟨⟩
theorem tw17311468261371602846:True:=⟨⟩
theorem tw13741589048774815195:True:=⟨⟩
theorem tw5221281964148750001:True:=⟨⟩
theorem tw14847042910050086966:True:=⟨⟩
theorem tw11454412608543892536:True:=⟨⟩
theorem tw9828179715798348116:True:=⟨⟩
theorem tw2612951707468872502:True:=⟨⟩
theorem tw16382072367839438045:True:=⟨⟩
end PySem.W.Fast
open PySem PySem.W PyProof.Rows
set_option maxRecDepth 100000 in
set_option maxHeartbeats 0 in
theorem PySem.Challenge.cw_countgen_k94_whole_deeds_to_rest_holds : PySem.Challenge.rw_countgen_k94_whole_deeds_to_rest.Holds := by
 w_on;o_law;k_head;(case hw=>w_witness2)
 k_fill
 refine' L2.Yd6 (l:=PySem.Challenge.rw_countgen_k94_whole_deeds_to_rest) (tabs:=[("deed_judge",227,223),("shrunk_deeds",934,930),("_law_thing",962,958)]) 63 "_law_script" KW.QE ["_law_script","_law_low","_law_slip","_law_done","_law_marks","_law_turn","_law_shape","_law_book","_law_deeds","_law_left","_law_first","_law_cell","_law_far","_law_kept","_law_due","_law_found","_law_holds","_law_answer"] rfl rfl ⟨rfl,by decide,by decide,rfl⟩ KW.Xg (fun w h Y=>by first | exact PySem.W.kIn_of Y | exact PySem.W.km_in_of Y) ?tR ?tT ?tN ?F
 case tR=>intro p hp;simp only [List.mem_cons,List.not_mem_nil,or_false] at hp;rcases hp with rfl | rfl | rfl<;>exact ⟨_,rfl⟩
 case tT=>intro w p hp;simp only [List.mem_cons,List.not_mem_nil,or_false] at hp;rcases hp with rfl | rfl | rfl<;>kernel_rfl
 case tN=>intro w p hp;simp only [List.mem_cons,List.not_mem_nil,or_false] at hp;rcases hp with rfl | rfl | rfl<;>kernel_rfl
 case F =>
  intro w mg h KX G;refine' ⟨L2.RM KX G ?a ?l ?c ?k (fun _ _ _ _ _ _ _ _ => .of_eq rfl),fun base hB hC=>KW.YeB ⟨?Cr,?Cu,?Cv,?Cw,?Cy,?Cz,?CG,?CJ,?m8,?CK,?lA,?CN,?CP,?CQ,?ZU,?CT,?CV,?CW,?CZ,?ZV,?ZW,?ZX,?Dc,?Df,?Dg,?Dh,?Di,?Dj,?Dk,?Dl,?Dm,?Dn,?Dp,?Dq,?Dr,?ZJ,?Ds,?Zt,?lB,?Dt,?lC,?Du,?Dv,?Dw,?lD,?Dy,?Dz,?DG,?DN,?iQ,?DP,?iR,?DQ,?DR,?DW,?DX,?DY,?Ea,?Eb,?Ec,?Ed,?Zr,?Zu,?Zm,?Zb,?Z9,?Zc,?Zd,?Zk,?Zn,?Zh,?Zi,?Zg,?Zf,?Z8,?Z7,?Ze,?Za,?je,?bW,?dh,?Zp,?cG,?Z6,?aK,?aN,?iz,?iB,?Zl,?bO,?iy,?Zj,?iw,?bQ,?cR,?bx⟩ _ w base hB (hC _ (.head _)) (hC _ (.tail _ (.head _))) (hC _ (.tail _ (.tail _ (.head _)))) (by decide)⟩;(case a=>k_is);(case l=>k_is);(case c=>k_is);(case k=>k_is)
  case ZU =>
   refine' L2.Ve KX G ["self","low","high"] ?aC ?mk ?kc ?a ?i ?l ?c ?k (fun _ _ _ _ _ _ us hl=>by obtain ⟨_,_,_,rfl⟩:=KW.dz hl;rfl);(case aC=>k_is);(case mk=>k_is);(case kc=>k_is);(case a=>k_is);(case i=>k_is);(case l=>k_is);(case c=>k_is);(case k=>k_is)
  case CT =>
   refine' L2.Ve KX G ["self","parts"] ?aC ?mk ?kc ?a ?i ?l ?c ?k (fun _ _ _ _ _ _ us hl=>by obtain ⟨_,_,rfl⟩:=KW.bG hl;rfl);(case aC=>k_is);(case mk=>k_is);(case kc=>k_is);(case a=>k_is);(case i=>k_is);(case l=>k_is);(case c=>k_is);(case k=>k_is)
  case CV =>
   refine' L2.Ve KX G ["self","parts"] ?aC ?mk ?kc ?a ?i ?l ?c ?k (fun _ _ _ _ _ _ us hl=>by obtain ⟨_,_,rfl⟩:=KW.bG hl;rfl);(case aC=>k_is);(case mk=>k_is);(case kc=>k_is);(case a=>k_is);(case i=>k_is);(case l=>k_is);(case c=>k_is);(case k=>k_is)
  case CW =>
   refine' L2.Ve KX G ["self","book"] ?aC ?mk ?kc ?a ?i ?l ?c ?k (fun _ _ _ _ _ _ us hl=>by obtain ⟨_,_,rfl⟩:=KW.bG hl;rfl);(case aC=>k_is);(case mk=>k_is);(case kc=>k_is);(case a=>k_is);(case i=>k_is);(case l=>k_is);(case c=>k_is);(case k=>k_is)
  case Dr =>
   refine' L2.Ve KX G ["self","book"] ?aC ?mk ?kc ?a ?i ?l ?c ?k (fun _ _ _ _ _ _ us hl=>by obtain ⟨_,_,rfl⟩:=KW.bG hl;rfl);(case aC=>k_is);(case mk=>k_is);(case kc=>k_is);(case a=>k_is);(case i=>k_is);(case l=>k_is);(case c=>k_is);(case k=>k_is)
  case Cr =>
   refine' L2.YI KX G ["thing"] ?a ?l ?c ?k (fun _ _ _ _ _ _ us hl=>by obtain ⟨_,rfl⟩:=KW.fG hl;rfl);(case a=>k_is);(case l=>k_is);(case c=>k_is);(case k=>k_is)
  case Cu =>
   refine' L2.YI KX G ["branches","mark"] ?a ?l ?c ?k (fun _ _ _ _ _ _ us hl=>by obtain ⟨_,_,rfl⟩:=KW.bG hl;rfl);(case a=>k_is);(case l=>k_is);(case c=>k_is);(case k=>k_is)
  case Cv =>
   refine' L2.YI KX G ["branches","value"] ?a ?l ?c ?k (fun _ _ _ _ _ _ us hl=>by obtain ⟨_,_,rfl⟩:=KW.bG hl;rfl);(case a=>k_is);(case l=>k_is);(case c=>k_is);(case k=>k_is)
  case Cw =>
   refine' L2.YI KX G ["shape","value"] ?a ?l ?c ?k (fun _ _ _ _ _ _ us hl=>by obtain ⟨_,_,rfl⟩:=KW.bG hl;rfl);(case a=>k_is);(case l=>k_is);(case c=>k_is);(case k=>k_is)
  case Cy =>
   refine' L2.YI KX G ["book","shape","value"] ?a ?l ?c ?k (fun _ _ _ _ _ _ us hl=>by obtain ⟨_,_,_,rfl⟩:=KW.dz hl;rfl);(case a=>k_is);(case l=>k_is);(case c=>k_is);(case k=>k_is)
  case Cz =>
   refine' L2.YI KX G ["keys"] ?a ?l ?c ?k (fun _ _ _ _ _ _ us hl=>by obtain ⟨_,rfl⟩:=KW.fG hl;rfl);(case a=>k_is);(case l=>k_is);(case c=>k_is);(case k=>k_is)
  case CG =>
   refine' L2.YI KX G ["shape","keys"] ?a ?l ?c ?k (fun _ _ _ _ _ _ us hl=>by obtain ⟨_,_,rfl⟩:=KW.bG hl;rfl);(case a=>k_is);(case l=>k_is);(case c=>k_is);(case k=>k_is)
  case CJ =>
   refine' L2.YI KX G ["shape","value","keys"] ?a ?l ?c ?k (fun _ _ _ _ _ _ us hl=>by obtain ⟨_,_,_,rfl⟩:=KW.dz hl;rfl);(case a=>k_is);(case l=>k_is);(case c=>k_is);(case k=>k_is)
  case m8 =>
   refine' L2.YI KX G ["book","shape","value"] ?a ?l ?c ?k (fun _ _ _ _ _ _ us hl=>by obtain ⟨_,_,_,rfl⟩:=KW.dz hl;rfl);(case a=>k_is);(case l=>k_is);(case c=>k_is);(case k=>k_is)
  case CK =>
   refine' L2.YI KX G ["book","shape","value"] ?a ?l ?c ?k (fun _ _ _ _ _ _ us hl=>by obtain ⟨_,_,_,rfl⟩:=KW.dz hl;rfl);(case a=>k_is);(case l=>k_is);(case c=>k_is);(case k=>k_is)
  case lA =>
   refine' L2.YI KX G ["book","shape","value"] ?a ?l ?c ?k (fun _ _ _ _ _ _ us hl=>by obtain ⟨_,_,_,rfl⟩:=KW.dz hl;rfl);(case a=>k_is);(case l=>k_is);(case c=>k_is);(case k=>k_is)
  case CN =>
   refine' L2.YI KX G ["book","shape","value"] ?a ?l ?c ?k (fun _ _ _ _ _ _ us hl=>by obtain ⟨_,_,_,rfl⟩:=KW.dz hl;rfl);(case a=>k_is);(case l=>k_is);(case c=>k_is);(case k=>k_is)
  case CP =>
   refine' L2.YI KX G ["book","shape","value"] ?a ?l ?c ?k (fun _ _ _ _ _ _ us hl=>by obtain ⟨_,_,_,rfl⟩:=KW.dz hl;rfl);(case a=>k_is);(case l=>k_is);(case c=>k_is);(case k=>k_is)
  case CQ =>
   refine' L2.Yfr KX G ["self"] ?aB ?ga ?rd ?a ?l ?c ?k (fun _ _ _ _ _ _ us hl=>by obtain ⟨_,rfl⟩:=KW.fG hl;rfl);(case aB=>k_is);(case ga=>k_is);(case rd=>k_is);(case a=>k_is);(case l=>k_is);(case c=>k_is);(case k=>k_is)
  case CZ =>
   refine' L2.YI KX G ["size"] ?a ?l ?c ?k (fun _ _ _ _ _ _ us hl=>by obtain ⟨_,rfl⟩:=KW.fG hl;rfl);(case a=>k_is);(case l=>k_is);(case c=>k_is);(case k=>k_is)
  case ZV =>
   refine' L2.Xt KX G ["self","size"] ?a ?i ?l ?c ?k (fun _ _ _ _ _ _ us hl=>by obtain ⟨_,_,rfl⟩:=KW.bG hl;rfl);(case a=>k_is);(case i=>k_is);(case l=>k_is);(case c=>k_is);(case k=>k_is)
  case ZW =>
   refine' L2.Xt KX G ["self","size","number"] ?a ?i ?l ?c ?k (fun _ _ _ _ _ _ us hl=>by obtain ⟨_,_,_,rfl⟩:=KW.dz hl;rfl);(case a=>k_is);(case i=>k_is);(case l=>k_is);(case c=>k_is);(case k=>k_is)
  case ZX =>
   refine' L2.Xt KX G ["self","size"] ?a ?i ?l ?c ?k (fun _ _ _ _ _ _ us hl=>by obtain ⟨_,_,rfl⟩:=KW.bG hl;rfl);(case a=>k_is);(case i=>k_is);(case l=>k_is);(case c=>k_is);(case k=>k_is)
  case Dc =>
   refine' L2.Xt KX G ["self","size"] ?a ?i ?l ?c ?k (fun _ _ _ _ _ _ us hl=>by obtain ⟨_,_,rfl⟩:=KW.bG hl;rfl);(case a=>k_is);(case i=>k_is);(case l=>k_is);(case c=>k_is);(case k=>k_is)
  case Df =>
   refine' L2.Xt KX G ["self","place","left"] ?a ?i ?l ?c ?k (fun _ _ _ _ _ _ us hl=>by obtain ⟨_,_,_,rfl⟩:=KW.dz hl;rfl);(case a=>k_is);(case i=>k_is);(case l=>k_is);(case c=>k_is);(case k=>k_is)
  case Dg =>
   refine' L2.Xt KX G ["self","size"] ?a ?i ?l ?c ?k (fun _ _ _ _ _ _ us hl=>by obtain ⟨_,_,rfl⟩:=KW.bG hl;rfl);(case a=>k_is);(case i=>k_is);(case l=>k_is);(case c=>k_is);(case k=>k_is)
  case Dh =>
   refine' L2.Xt KX G ["self","size"] ?a ?i ?l ?c ?k (fun _ _ _ _ _ _ us hl=>by obtain ⟨_,_,rfl⟩:=KW.bG hl;rfl);(case a=>k_is);(case i=>k_is);(case l=>k_is);(case c=>k_is);(case k=>k_is)
  case Di =>
   refine' L2.Xt KX G ["self","size","number"] ?a ?i ?l ?c ?k (fun _ _ _ _ _ _ us hl=>by obtain ⟨_,_,_,rfl⟩:=KW.dz hl;rfl);(case a=>k_is);(case i=>k_is);(case l=>k_is);(case c=>k_is);(case k=>k_is)
  case Dj =>
   refine' L2.YI KX G ["maker","below"] ?a ?l ?c ?k (fun _ _ _ _ _ _ us hl=>by obtain ⟨_,_,rfl⟩:=KW.bG hl;rfl);(case a=>k_is);(case l=>k_is);(case c=>k_is);(case k=>k_is)
  case Dk =>
   refine' L2.YI KX G ["shape"] ?a ?l ?c ?k (fun _ _ _ _ _ _ us hl=>by obtain ⟨_,rfl⟩:=KW.fG hl;rfl);(case a=>k_is);(case l=>k_is);(case c=>k_is);(case k=>k_is)
  case Dl =>
   refine' L2.Xt KX G ["self","shape"] ?a ?i ?l ?c ?k (fun _ _ _ _ _ _ us hl=>by obtain ⟨_,_,rfl⟩:=KW.bG hl;rfl);(case a=>k_is);(case i=>k_is);(case l=>k_is);(case c=>k_is);(case k=>k_is)
  case Dm =>
   refine' L2.Xt KX G ["self","shape"] ?a ?i ?l ?c ?k (fun _ _ _ _ _ _ us hl=>by obtain ⟨_,_,rfl⟩:=KW.bG hl;rfl);(case a=>k_is);(case i=>k_is);(case l=>k_is);(case c=>k_is);(case k=>k_is)
  case Dn =>
   refine' L2.YI KX G ["low","value"] ?a ?l ?c ?k (fun _ _ _ _ _ _ us hl=>by obtain ⟨_,_,rfl⟩:=KW.bG hl;rfl);(case a=>k_is);(case l=>k_is);(case c=>k_is);(case k=>k_is)
  case Dp =>
   refine' L2.YI KX G ["things"] ?a ?l ?c ?k (fun _ _ _ _ _ _ us hl=>by obtain ⟨_,rfl⟩:=KW.fG hl;rfl);(case a=>k_is);(case l=>k_is);(case c=>k_is);(case k=>k_is)
  case Dq =>
   refine' L2.YI KX G ["things","inner"] ?a ?l ?c ?k (fun _ _ _ _ _ _ us hl=>by obtain ⟨_,_,rfl⟩:=KW.bG hl;rfl);(case a=>k_is);(case l=>k_is);(case c=>k_is);(case k=>k_is)
  case ZJ =>
   refine' L2.Xt KX G ["self","shape","value"] ?a ?i ?l ?c ?k (fun _ _ _ _ _ _ us hl=>by obtain ⟨_,_,_,rfl⟩:=KW.dz hl;rfl);(case a=>k_is);(case i=>k_is);(case l=>k_is);(case c=>k_is);(case k=>k_is)
  case Ds =>
   refine' L2.Xt KX G ["self","shape","value","inner"] ?a ?i ?l ?c ?k (fun _ _ _ _ _ _ us hl=>by obtain ⟨_,_,_,_,rfl⟩:=KW.vN hl;rfl);(case a=>k_is);(case i=>k_is);(case l=>k_is);(case c=>k_is);(case k=>k_is)
  case Zt =>
   refine' L2.Xt KX G ["self","shape","value"] ?a ?i ?l ?c ?k (fun _ _ _ _ _ _ us hl=>by obtain ⟨_,_,_,rfl⟩:=KW.dz hl;rfl);(case a=>k_is);(case i=>k_is);(case l=>k_is);(case c=>k_is);(case k=>k_is)
  case lB =>
   refine' L2.YI KX G ["thing"] ?a ?l ?c ?k (fun _ _ _ _ _ _ us hl=>by obtain ⟨_,rfl⟩:=KW.fG hl;rfl);(case a=>k_is);(case l=>k_is);(case c=>k_is);(case k=>k_is)
  case Dt =>
   refine' L2.YI KX G ["book","shape","value"] ?a ?l ?c ?k (fun _ _ _ _ _ _ us hl=>by obtain ⟨_,_,_,rfl⟩:=KW.dz hl;rfl);(case a=>k_is);(case l=>k_is);(case c=>k_is);(case k=>k_is)
  case lC =>
   refine' L2.YI KX G ["deeds"] ?a ?l ?c ?k (fun _ _ _ _ _ _ us hl=>by obtain ⟨_,rfl⟩:=KW.fG hl;rfl);(case a=>k_is);(case l=>k_is);(case c=>k_is);(case k=>k_is)
  case Du =>
   refine' L2.YI KX G ["thing"] ?a ?l ?c ?k (fun _ _ _ _ _ _ us hl=>by obtain ⟨_,rfl⟩:=KW.fG hl;rfl);(case a=>k_is);(case l=>k_is);(case c=>k_is);(case k=>k_is)
  case Dv =>
   refine' L2.YI KX G ["thing"] ?a ?l ?c ?k (fun _ _ _ _ _ _ us hl=>by obtain ⟨_,rfl⟩:=KW.fG hl;rfl);(case a=>k_is);(case l=>k_is);(case c=>k_is);(case k=>k_is)
  case Dw =>
   refine' L2.YI KX G ["thing"] ?a ?l ?c ?k (fun _ _ _ _ _ _ us hl=>by obtain ⟨_,rfl⟩:=KW.fG hl;rfl);(case a=>k_is);(case l=>k_is);(case c=>k_is);(case k=>k_is)
  case lD =>
   refine' L2.YI KX G ["one","other"] ?a ?l ?c ?k (fun _ _ _ _ _ _ us hl=>by obtain ⟨_,_,rfl⟩:=KW.bG hl;rfl);(case a=>k_is);(case l=>k_is);(case c=>k_is);(case k=>k_is)
  case Dy =>
   refine' L2.YI KX G [] ?a ?l ?c ?k (fun _ _ _ _ _ _ us hl=>match us,hl with | [],_=>rfl);(case a=>k_is);(case l=>k_is);(case c=>k_is);(case k=>k_is)
  case Dz =>
   refine' L2.YI KX G ["_law_state","_law_deed"] ?a ?l ?c ?k (fun _ _ _ _ _ _ us hl=>by obtain ⟨_,_,rfl⟩:=KW.bG hl;rfl);(case a=>k_is);(case l=>k_is);(case c=>k_is);(case k=>k_is)
  case DG =>
   refine' L2.YI KX G ["_law_one","_law_other"] ?a ?l ?c ?k (fun _ _ _ _ _ _ us hl=>by obtain ⟨_,_,rfl⟩:=KW.bG hl;rfl);(case a=>k_is);(case l=>k_is);(case c=>k_is);(case k=>k_is)
  case DN =>
   refine' L2.U0 KX G ["_law_slip","_law_bound","_law_low"] ?a ?l ?c ?k ?e (fun _ _ _ _ _ _ us hl=>by obtain ⟨_,_,_,rfl⟩:=KW.dz hl;rfl);(case a=>k_is);(case l=>k_is);(case c=>k_is);(case k=>k_is);(case e=>rfl)
  case iQ =>
   refine' L2.YI KX G ["begin","done","model_begin","model_done","deeds"] ?a ?l ?c ?k (fun _ _ _ _ _ _ us hl=>by obtain ⟨_,_,_,_,_,rfl⟩:=KW.Lj hl;rfl);(case a=>k_is);(case l=>k_is);(case c=>k_is);(case k=>k_is)
  case DP =>
   refine' L2.YI KX G ["_law_done","_law_deeds"] ?a ?l ?c ?k (fun _ _ _ _ _ _ us hl=>by obtain ⟨_,_,rfl⟩:=KW.bG hl;rfl);(case a=>k_is);(case l=>k_is);(case c=>k_is);(case k=>k_is)
  case iR =>
   refine' L2.YI KX G ["judge","value"] ?a ?l ?c ?k (fun _ _ _ _ _ _ us hl=>by obtain ⟨_,_,rfl⟩:=KW.bG hl;rfl);(case a=>k_is);(case l=>k_is);(case c=>k_is);(case k=>k_is)
  case DQ =>
   refine' L2.YI KX G ["judge","values"] ?a ?l ?c ?k (fun _ _ _ _ _ _ us hl=>by obtain ⟨_,_,rfl⟩:=KW.bG hl;rfl);(case a=>k_is);(case l=>k_is);(case c=>k_is);(case k=>k_is)
  case DR =>
   refine' L2.YI KX G ["judge","value","values_next"] ?a ?l ?c ?k (fun _ _ _ _ _ _ us hl=>by obtain ⟨_,_,_,rfl⟩:=KW.dz hl;rfl);(case a=>k_is);(case l=>k_is);(case c=>k_is);(case k=>k_is)
  case DW =>
   refine' L2.YI KX G ["_law_book","_law_shape","_law_deeds"] ?a ?l ?c ?k (fun _ _ _ _ _ _ us hl=>by obtain ⟨_,_,_,rfl⟩:=KW.dz hl;rfl);(case a=>k_is);(case l=>k_is);(case c=>k_is);(case k=>k_is)
  case DX =>
   refine' L2.U0 KX G ["begin","done","model_begin","model_done"] ?a ?l ?c ?k ?e (fun _ _ _ _ _ _ us hl=>by obtain ⟨_,_,_,_,rfl⟩:=KW.vN hl;rfl);(case a=>k_is);(case l=>k_is);(case c=>k_is);(case k=>k_is);(case e=>rfl)
  case DY =>
   refine' L2.U0 KX G ["book","shape","begin","done","model_begin","model_done","deeds"] ?a ?l ?c ?k ?e (fun _ _ _ _ _ _ us hl=>by obtain ⟨_,_,_,_,_,_,_,rfl⟩:=KW.us7 hl;rfl);(case a=>k_is);(case l=>k_is);(case c=>k_is);(case k=>k_is);(case e=>rfl)
  case Ea =>
   refine' L2.YI KX G ["_law_book","_law_shape","_law_done","_law_found"] ?a ?l ?c ?k (fun _ _ _ _ _ _ us hl=>by obtain ⟨_,_,_,_,rfl⟩:=KW.vN hl;rfl);(case a=>k_is);(case l=>k_is);(case c=>k_is);(case k=>k_is)
  case Eb =>
   refine' L2.YI KX G ["_law_book","_law_shape","_law_done","_law_deeds"] ?a ?l ?c ?k (fun _ _ _ _ _ _ us hl=>by obtain ⟨_,_,_,_,rfl⟩:=KW.vN hl;rfl);(case a=>k_is);(case l=>k_is);(case c=>k_is);(case k=>k_is)
  case Ec =>
   refine' L2.YI KX G ["_law_book","_law_shape","_law_done","_law_deeds","_law_holds"] ?a ?l ?c ?k (fun _ _ _ _ _ _ us hl=>by obtain ⟨_,_,_,_,_,rfl⟩:=KW.Lj hl;rfl);(case a=>k_is);(case l=>k_is);(case c=>k_is);(case k=>k_is)
  case Ed =>
   refine' L2.YI KX G ["_law_script","_law_k"] ?a ?l ?c ?k (fun _ _ _ _ _ _ us hl=>by obtain ⟨_,_,rfl⟩:=KW.bG hl;rfl);(case a=>k_is);(case l=>k_is);(case c=>k_is);(case k=>k_is)
  case Zr =>
   refine' ⟨?a,?b,?c,?d⟩;(case a=>k_is);(case b=>k_is);(case c=>k_is);(case d=>k_is)
  case Zu =>
   refine' L2.Xl ?a;(case a=>k_is)
  case Zm =>
   refine' L2.Xl ?a;(case a=>k_is)
  case Zb =>
   refine' ⟨?a,?b,?c,?d⟩;(case a=>k_is);(case b=>k_is);(case c=>k_is);(case d=>k_is)
  case Z9 =>
   refine' L2.Xl ?a;(case a=>k_is)
  case Zc =>
   refine' L2.Xl ?a;(case a=>k_is)
  case Zd =>
   refine' L2.Xl ?a;(case a=>k_is)
  case Zk =>
   refine' ⟨?a,?b,?c,?d⟩;(case a=>k_is);(case b=>k_is);(case c=>k_is);(case d=>k_is)
  case Zn =>
   refine' L2.Xl ?a;(case a=>k_is)
  case Zh =>
   refine' L2.Xl ?a;(case a=>k_is)
  case Zi =>
   refine' ⟨?a,?b,?c,?d⟩;(case a=>k_is);(case b=>k_is);(case c=>k_is);(case d=>k_is)
  case Zg =>
   refine' L2.Xl ?a;(case a=>k_is)
  case Zf =>
   refine' L2.Xl ?a;(case a=>k_is)
  case Z8 =>
   refine' ⟨?a,?b,?c,?d⟩;(case a=>k_is);(case b=>k_is);(case c=>k_is);(case d=>k_is)
  case Z7 =>
   refine' L2.Xl ?a;(case a=>k_is)
  case Ze =>
   refine' L2.Xl ?a;(case a=>k_is)
  case Za =>
   refine' L2.Xl ?a;(case a=>k_is)
  case je =>
   refine' L2.R7 KX G ?a ?l ?z ?r;(case a=>k_is);(case l=>k_is);(case z=>decide);(case r=>exact (.cons ⟨_,rfl⟩ (.cons ⟨_,rfl⟩ (.cons ⟨_,rfl⟩ .nil))))
  case bW =>
   refine' PySem.W.mg_none_of KX G ?a;(case a=>k_is)
  case dh =>
   refine' PySem.W.mg_none_of KX G ?a;(case a=>k_is)
  case Zp =>
   refine' PySem.W.mg_none_of KX G ?a;(case a=>k_is)
  case cG =>
   refine' PySem.W.mg_none_of KX G ?a;(case a=>k_is)
  case Z6 =>
   refine' PySem.W.mg_none_of KX G ?a;(case a=>k_is)
  case aK =>
   refine' PySem.W.mg_none_of KX G ?a;(case a=>k_is)
  case aN =>
   refine' PySem.W.mg_none_of KX G ?a;(case a=>k_is)
  case iz =>
   refine' PySem.W.mg_none_of KX G ?a;(case a=>k_is)
  case iB =>
   refine' PySem.W.mg_none_of KX G ?a;(case a=>k_is)
  case Zl =>
   refine' PySem.W.mg_none_of KX G ?a;(case a=>k_is)
  case bO =>
   refine' PySem.W.mg_none_of KX G ?a;(case a=>k_is)
  case iy =>
   refine' PySem.W.mg_none_of KX G ?a;(case a=>k_is)
  case Zj =>
   refine' PySem.W.mg_none_of KX G ?a;(case a=>k_is)
  case iw =>
   refine' PySem.W.mg_none_of KX G ?a;(case a=>k_is)
  case bQ =>
   refine' PySem.W.mg_of KX G ?a;(case a=>k_is)
  case cR=>k_exc
  case bx=>kts_exm
